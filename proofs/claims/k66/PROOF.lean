import PyProof.Rows.All
import Wide.All
import OpenK.AllK
import Wide.FinOn
import Lean
import PyProof.EqAt
import PyProof.EqKinds
import PyProof.TupleCall
import PySem.Challenge.RW_undercells_k66_right_hearths_by_tables
set_option autoImplicit true
set_option relaxedAutoImplicit true
set_option Elab.async false
set_option linter.all false
set_option maxRecDepth 100000
set_option compiler.extract_closed false
set_option maxHeartbeats 4000000
local macro_rules|`(command|abbrev $n:declId $s:optDeclSig $v:declVal)=>`(command|noncomputable def $n:declId $s:optDeclSig $v:declVal)|`(command|meta abbrev $n:declId $s:optDeclSig $v:declVal)=>`(command|@[reducible]noncomputable def $n:declId $s:optDeclSig $v:declVal)
local macro_rules|`(∅)=>`(by decide +kernel)
local macro_rules|`(⋯)=>`(by decide)
local macro_rules|`(tactic|dsimp[$l,*])=>`(tactic|simp only[$l,*])|`(tactic|dsimp[$l,*]$o:location)=>`(tactic|simp only[$l,*]$o:location)
local macro_rules(kind:=Lean.Parser.Term.structInst)|`({})=>`({cls:=.type "list",data:=.seq ([]:List PySem.Value).toArray})
set_option hygiene false
local macro_rules|`(tactic|z_go)=>`(tactic|obtain⟨ρ,S,a,b,R,va,vb,h⟩:=h9)
local macro_rules|`(tactic|x_go)=>`(tactic|obtain⟨ρ,S,τ,R,r,h⟩:=h9)
local macro_rules|`(tactic|w_up)=>`(tactic|intro X hP hw hK hc i pins s σ H E I hf st hg)
local macro_rules|`(tactic|k_ne)=>`(tactic|refine⟨ρ,S,τ,R,r,jM (jT h) .refl λo S1 h1 ρ1 H1 x e1 R1 v1=>⟨ρ1,S1,τ,R1,r.ext e1,jM (jT h1) e1 λi S2 h2 ρ2 H2 y e2 R2 v2=>?_⟩⟩)
local macro_rules|`(tactic|kt_k)=>`(tactic|intro pins s σ H xs us Q I r h)
local macro_rules|`(tactic|kd_p)=>`(tactic|obtain⟨w,rfl,ρ,S,x,R,hv,h⟩:=LB h0)
local macro_rules|`(tactic|gn_on)=>`(tactic|refine⟨ρ2,S2,o,i,a,R2,v1.ext e2,v2,va.ext (e1.trans e2),jM (jT h2) (e1.trans e2) λ_ S3 h3 ρ3 H3 e3 R3=>?_⟩)
local macro_rules|`(tactic|gp_on)=>`(tactic|intro pins s σ H Q I h)
local macro_rules|`(tactic|kj_on)=>`(tactic|obtain⟨xs,hn,h⟩:=jN h)
local macro_rules|`(tactic|kcf_m)=>`(tactic|exact Kp.refl.lay)
local macro_rules|`(tactic|kcj_m)=>`(tactic|intro pins s σ H x y v u Q I rx ry h)
local macro_rules|`(tactic|kpc_g)=>`(tactic|obtain⟨u,rfl,rx⟩:=vals1 r)
local macro_rules|`(tactic|kpf_c)=>`(tactic|obtain⟨f0,f1,f2,f3,f4,f5⟩:=hf it (by simp))
local macro_rules|`(tactic|ksr_p)=>`(tactic|exact h3 ρ3 H3 σ ((e1.trans e2).trans e3) R3 (r.ext ((e1.trans e2).trans e3)))
local macro_rules|`(tactic|kst_p)=>`(tactic|have hfree:∀y∈scope.names,y.2=.free->∃c,X.env.cells.lookup y.1=some c:=λy hy e=>I.ok.has _ (S.fr y hy e))
local macro_rules|`(tactic|kln_w)=>`(tactic|obtain⟨kvs,hn,h⟩:=jN h)
local macro_rules|`(tactic|kl_no)=>`(tactic|obtain⟨ρ,S,τ,R,r,h⟩:=h)
local macro_rules|`(tactic|mg_lt)=>`(tactic|refine⟨ρ,S,τ,R,r,jM (jT h) .refl λx S1 h1 ρ1 H1 v e1 R1 v1=>?_⟩)
local macro_rules|`(tactic|cb_eq)=>`(tactic|refine⟨R.nd,by simp,λa ha b hb e=>?_⟩)
local macro_rules|`(tactic|o_rec)=>`(tactic|intro pins s σ H D I h)
local macro_rules|`(tactic|f_are)=>`(tactic|refine aH (m:=checkCount "sorted" 1 1 _) (aR ?_))
set_option hygiene true
local macro_rules|`(())=>`(by lia)
@[reducible]def ag:=List Int
@[reducible]def am:=List Nat
@[reducible]def ar:=List PySem.Str
@[reducible]def ba:=List PySem.Value
@[reducible]def bb:=List PySem.Addr
@[reducible]def bd:=Option PySem.Value
@[reducible]def bi:=Option Bool
@[reducible]def bj:=Option Nat
@[reducible]def bn:=List<|PySem.Addr×PySem.Obj
def aG:=@List.length_map
def aH:=@PySem.wpAny_bind
def aI:=@List.getElem?_eq_getElem
def aJ:=@List.getElem?_eq_some_iff
def aK:=@Nat.le_refl
def aL:=@List.getD_eq_getElem?_getD
def aM:=@if_neg
def aN:=@if_pos
def aO:=@List.mem_cons_self
def aP:=@List.mem_singleton
def aQ:=@List.mem_cons_of_mem
def aR:=@PySem.wpAny_pure
def aS:=@List.mem_of_getElem?
def aV:=@PySem.Heap.get?_push_of_some
def aW:=@List.length_append
def aX:=@List.getElem?_map
def aY:=@Option.map_eq_some_iff
def aZ:=@List.size_toArray
def a_:=@PyProof.Rows.wpS_bind
def bf:=@Option.some.inj
def bg:=@decide_eq_true
def bh:=@PySem.Heap.lt_size
def bq:=@List.mem_append
def br:=@PyProof.Rows.wpS_pure
def bu:=@List.mem_map
def bw:=@List.getElem?_append_left
def bz:=@List.map_map
def bA:=@PySem.Heap.get?_push_size
def bB:=@decide_eq_false
def bC:=@List.map_append
def bD:=@Bool.false_eq_true
def bE:=@Nat.ne_of_lt
def bF:=@List.mem_cons
def bG:=@List.length_cons
def bH:=@Nat.le_trans
def bI:=@List.map_cons
def bJ:=@List.getElem?_set_self
def bK:=@Nat.zero_le
def bL:=@List.getElem?_set_ne
def bM:=@List.mem_append_right
def bN:=@Bool.false_ne_true
def bO:=@List.forall_mem_cons
def bP:=@List.length_take
def bQ:=@PySem.PassesOwn.never
def bR:=@Nat.lt_of_lt_of_le
def bT:=@beq_self_eq_true
def bU:=@List.nodup_cons
def bV:=@List.length_set
def bW:=@Bool.not_true
def bX:=@List.append_assoc
def bY:=@of_decide_eq_true
def bZ:=@List.take_add_one
def b7:=@List.take_length
def b8:=@List.append_nil
def b9:=@List.find?_cons
def b_:=@List.length_range
def cg:=@List.mem_filter
def cj:=@List.pairwise_cons
def cu:=@PySem.W.mg_none_of
def cA:=@List.pairwise_iff_getElem
def cB:=@List.map_congr_left
def cC:=@List.pairwise_append
def cD:=@List.mem_iff_getElem
def cE:=@List.nodup_append
def cF:=@if_false
def cG:=@Option.bind_eq_some_iff
def cH:=@Option.bind_some
def cI:=@Nat.zero_add
def cJ:=@List.pairwise_map
def cK:=@PySem.F.slot_list_append
def cL:=@PySem.F.type_list_append
def cM:=@List.length_filter_le
def cN:=@PyProof.Rows.wpS_forRange
def cO:=@List.mem_range
def cP:=@List.pairwise_singleton
def cQ:=@Nat.mul_le_mul_right
def cR:=@Ne.symm
def cT:=@PySem.F.slot_dict_keyiterator_next
def cU:=@PySem.W.kia_one
def cV:=@Bool.not_false
def cW:=@List.take_zero
def cX:=@List.getElem_inj
def cY:=@Option.isSome_iff_exists
def cZ:=@beq_eq_false_iff_ne
def c5:=@PySem.mem_of_lookup
def c6:=@Array.getElem?_toList
def c7:=@congrArg
def c8:=@PySem.wpAny_holding
def c9:=@PySem.wpAny_call_entry
def c_:=@Int.zero_add
def dc:=@List.drop_eq_getElem_cons
def dg:=@List.mem_of_find?_eq_some
def dh:=@PySem.wpAny_truthy_bool
def di:=@PySem.wpAny_newObj_type
def dm:=@PySem.F.slot_dict_get
def dw:=@PySem.Heap.size_push
def dz:=@List.nodup_nil
def dB:=@List.length_nil
def dD:=@Nat.lt_succ_self
def dF:=@List.foldl_append
def dG:=@List.replicate_succ
def dH:=@List.foldl_cons
def dI:=@List.filter_map
def dJ:=@if_true
def dM:=@PySem.Calls.call_function_entry
def dN:=@Option.getD_some
def dO:=@List.all_eq_true
def dP:=@List.prefix_refl
def dQ:=@List.prefix_append
def dR:=@Nat.le_of_lt
def dS:=@PySem.AutoSeq1.wpAny_loadPart'
def dU:=@PySem.sizeLine_eq
def dW:=@List.mem_of_mem_drop
def dX:=@List.mem_of_mem_take
def dY:=@PySem.wpAny_typeNameOfWhole_keyiter
def dZ:=@List.length_eq_zero_iff
def d7:=@Option.isSome_map
def d8:=@PySem.wpAny_rule
def d9:=@Array.length_toList
def d_:=@PyProof.Rows.wpS_mono
def eg:=@PyProof.Rows.callWith_type1
def eB:=@List.lookup_cons
def eF:=@List.length_drop
def eG:=@List.getElem_mem
def eK:=@decide_eq_decide
def eL:=@PySem.F.slot_tuple_iterator_next
def eN:=@PySem.tupleKind_room_in1
def eO:=@of_decide_eq_false
def eS:=@List.Perm.refl
def eT:=@List.getElem_range
def eU:=@Option.map_map
def eV:=@List.getElem?_toArray
def eW:=@List.take_append_drop
def eX:=@PySem.wpAny_passesOwn
def eY:=@Option.map_some
def eZ:=@List.mem_append_left
def e_:=@List.flatten_cons
def fh:=@Nat.lt_succ_of_lt
def fj:=@List.range_eq_range'
def fm:=@Int.toNat_natCast
def fq:=@List.take_succ_eq_append_getElem
def fu:=@List.ext_getElem?
def fy:=@List.Perm.eq_of_pairwise
def fB:=@PySem.wpAny_typeNameOf_keyiter
def fC:=@List.eraseIdxIfInBounds_toArray
def fF:=@List.mem_map_of_mem
def fG:=@PySem.wpAny_callSpecial?_slot
def fH:=@List.getElem_map
def fJ:=@PySem.W.cellsFrom_some
def fK:=@List.map_nil
def fL:=@Nat.succ_mul
def fM:=@PyProof.Rows.wpS_modify
def fN:=@Array.getElem?_eq_none
def fO:=@Int.add_zero
def fP:=@List.find?_eq_none
def fQ:=@Nat.lt_of_le_of_lt
def fR:=@Nat.not_lt_zero
def fS:=@List.find?_some
def fV:=@Nat.lt_irrefl
def fW:=@PySem.wpAny_standAt
def fX:=@List.any_cons
def fY:=@Bool.false_or
def fZ:=@List.getElem?_eq_none
def f6:=@List.set_append_right
def f7:=@PySem.F.type_dict_get
def f9:=@Array.toList_push
def f_:=@List.flatMap_cons
def gb:=@PySem.wpAny_mono
def gc:=@PySem.Around.under_plainId
def gf:=@List.getElem?_of_mem
def gg:=@Nat.one_mul
def gh:=@Bool.and_eq_true
def gp:=@List.filter_cons
def gq:=@List.any_eq_true
def gr:=@Array.getElem?_eq_getElem
def gu:=@PySem.Heap.SameBut.update
def gv:=@List.getElem?_range
def gw:=@PySem.F.args_dict_keyiterator_next_1
def gz:=@List.flatMap_append
def gA:=@List.filter_eq_self
def gB:=@List.getElem?_take_of_lt
def gC:=@PySem.F.args_tuple_add_2
def gD:=@Nat.add_assoc
def gE:=@PySem.F.entry_dict_keyiterator_next
def gF:=@PySem.F.slot_list_getattribute
def gG:=@List.sum_cons
def gH:=@List.idxOf_lt_length_iff
def gI:=@PySem.wpAny_specialOf
def gJ:=@PySem.wpAny_pyIter_tuple
def gK:=@PySem.Obj.data_mapFields
def gM:=@Int.emod_lt_of_pos
def gO:=@PySem.F.entry_tuple_add
def gP:=@PySem.F.args_dict_get_3
def gQ:=@List.map_id
def gR:=@PySem.wpAny_pyIter_list
def gS:=@PySem.F.slot_tuple_add
def gT:=@PySem.wpAny_seqItems
def gU:=@PySem.F.entry_dict_get
def gW:=@PySem.F.slot_tuple_hash
def gY:=@PyProof.Rows.wpS_get
def gZ:=@PySem.Heap.get?_push_ne
def g_:=@decide_eq_true_eq
def h_:=@List.find?_map
def ie:=@Nat.lt_of_succ_lt_succ
def ig:=@List.filter_congr
def ir:=@List.eraseIdx_eq_take_drop_succ
def iu:=@PySem.Heap.get?_update_self
def iy:=@PySem.isSubtype_tuple_tuple
def iz:=@PySem.wpAny_isOneOf_keyiter
def iA:=@PySem.F.slot_list_pop
def iB:=@PySem.F.type_list_pop
def iC:=@PySem.call_meets
def iD:=@List.cons_append
def iE:=@PySem.wpAny_forIn_list
def iF:=@PySem.wpAny_isInstance
def iG:=@PySem.Heap.size_update
def iH:=@Nat.le_add_right
def iI:=@List.mem_flatMap
def iJ:=@PySem.Paired.length
def iK:=@Int.add_assoc
def iL:=@Bool.or_eq_false_iff
def iM:=@PySem.wpAny_execs_nil
def iN:=@PySem.codeAny_builtin
def iO:=@PySem.F.slot_tuple_eq
def iP:=@Int.emod_nonneg
def iQ:=@List.filterMap_cons
def iR:=@PySem.W.kdu_collect
def iS:=@PyProof.Rows.plain_sorted
def iT:=@PyProof.Rows.entry_sorted
def iU:=@PyProof.Rows.args_sorted1
def iV:=@PySem.wpAny_Call_Name_kw
def iW:=@List.getElem?_append_right
def iX:=@Option.isSome_some
def iY:=@List.forIn_nil
def iZ:=@PySem.wpAny_setField
def i9:=@PySem.wpAny_tupleItemsOf
def i_:=@Array.forIn_toList
def ja:=@List.getElem?_drop
def jb:=@List.perm_ext_iff_of_nodup
def jc:=@PySem.wpAny_fieldsOf
def jd:=@Array.getElem?_eq_none_iff
def je:=@PySem.wpAny_dictEntries
def jf:=@List.find?_isSome
def jh:=@List.isEmpty_cons
def ji:=@PySem.wpAny_newList
def jj:=@PySem.W.mg_of
def jk:=@List.zipIdx_cons
def jl:=@List.flatMap_nil
def jm:=@List.countP_cons
def jn:=@List.isEmpty_nil
def jo:=@Nat.ne_of_gt
def jq:=@PySem.codeAny_mono
def jt:=@Nat.lt_trans
def ju:=@PySem.wpAny_typeOf
def jv:=@Nat.sub_self
def jw:=@List.all_map
def jx:=@Int.mul_zero
def jy:=@List.map_id'
def jz:=@List.of_mem_zip
def jA:=@List.forIn_cons
def jB:=@Array.size_zip
def jC:=@List.foldl_map
def jD:=@Nat.mul_le_mul
def jE:=@Nat.add_mul
@[reducible]def af:=PySem.Value
@[reducible]def ah:=PySem.World
@[reducible]def aj:=PySem.Program
@[reducible]def ak:=PySem.Addr
@[reducible]def aq:=PySem.Heap
@[reducible]def au:=PySem.W.Frag
@[reducible]def aA:=PySem.Around
@[reducible]def aC:=PySem.Shared
@[reducible]def aE:=PySem.Expr
@[reducible]def aF:=PySem.Stmt
def anI{a b:Prop}(h:a)(k:b):a/\b:=⟨h,k⟩
open Array (size_map)
open List (any_map map_drop map_set map_take)
open Nat (mul_comm not_lt succ_pos)
open Option (isSome_none)
namespace L2
open PySem PySem.Spec PyProof.Rows
meta abbrev Key:=Sum Int Str
abbrev BL:Key->af->Bool
 | .inl k,v=>Value.isInt k v
 | .inr x,v=>Value.isStrOf x v
abbrev aci (w:ah):Key->Int
 | .inl k=>hashInt k
 | .inr x=>hashStr w x
def l7:∀{k:Key}{v:af},BL k v=true->(∃i t,k=Sum.inl i/\v=Value.int i t)\/(∃x t,k=Sum.inr x/\v=Value.str x t)
 | .inl i,v,h=>by
  obtain⟨t,e⟩:=Value.isInt_shape (k:=i) (v:=v) h;exact .inl ⟨i,t,rfl,e⟩
 | .inr x,v,h=>by
  obtain⟨t,e⟩:=Value.isStrOf_shape (x:=x) (v:=v) h;exact .inr ⟨x,t,rfl,e⟩
def KN(i:Int)(t:Tok):BL (.inl i) (.int i t)=true:=by simp[BL,Value.isInt]
def LN(x:Str)(t:Tok):BL (.inr x) (.str x t)=true:=by simp[BL,Value.isStrOf]
def VN(a b:Int):decide ((Sum.inl a:Key)=Sum.inl b)=(a == b):=by
 by_cases e:a=b
 ·subst e;simp
 ·have h:¬(Sum.inl a:Key)=Sum.inl b:=λq=>e<|Sum.inl.inj q;rw[bB h];exact(cZ.mpr e).symm
def Xf(a b:Str):decide ((Sum.inr a:Key)=Sum.inr b)=decide (a=b):=by
 by_cases e:a=b
 ·subst e;simp
 ·have h:¬(Sum.inr a:Key)=Sum.inr b:=λq=>e<|Sum.inr.inj q;rw[bB h,bB e]
def Ym(a:Int)(b:Str):decide ((Sum.inl a:Key)=Sum.inr b)=false:=bB λq=>nomatch q
def Ys(a:Str)(b:Int):decide ((Sum.inr a:Key)=Sum.inl b)=false:=bB λq=>nomatch q
abbrev kJ (prog:aj)(w:ah):PySem.KeyKind prog w Key where
 is:=BL
 hash:=aci w
 inj:=λv a b ha hb=>by
  rcases l7 ha with⟨i,t,rfl,rfl⟩|⟨x,t,rfl,rfl⟩
  ·rcases l7 hb with⟨j,u,rfl,e⟩|⟨y,u,rfl,e⟩
   ·injection e with e1 _;rw[e1]
   ·exact nomatch e
  ·rcases l7 hb with⟨j,u,rfl,e⟩|⟨y,u,rfl,e⟩
   ·exact nomatch e
   ·injection e with e1 _;rw[e1]
 byValue:=λk v h=>by
  rcases l7 h with⟨i,t,rfl,rfl⟩|⟨x,t,rfl,rfl⟩<;>rfl
 pyHash:=λhv h=>by
  rcases l7 hv with⟨i,t,rfl,rfl⟩|⟨x,t,rfl,rfl⟩
  ·exact wpAny_pyHash_int h
  ·exact wpAny_pyHash_str h
 eqBool:=λd hv h=>by
  rcases l7 d with⟨i,t,rfl,rfl⟩|⟨x,t,rfl,rfl⟩
  ·rcases l7 hv with⟨j,u,rfl,rfl⟩|⟨y,u,rfl,rfl⟩
   ·rw[VN]at h;exact wpAny_eqBool_int h
   ·rw[Ym]at h;exact SeqAt.EqAt.int_str i t y u _ _ _ _ h
  ·rcases l7 hv with⟨j,u,rfl,rfl⟩|⟨y,u,rfl,rfl⟩
   ·rw[Ys]at h;exact SeqAt.EqAt.str_int x t j u _ _ _ _ h
   ·rw[Xf]at h;exact wpAny_eqBool_str h
 «strs»:=λk x t v h=>by
  rcases l7 h with⟨i,u,rfl,e⟩|⟨y,u,rfl,e⟩
  ·exact nomatch e
  ·injection e with e1 _
   subst e1
   cases v<;>rfl
def D8(prog:aj)(w:ah)(i:Int)(t:Tok):(kJ prog w).is (.inl i) (.int i t)=true:=KN i t
def EG(prog:aj)(w:ah)(x:Str)(t:Tok):(kJ prog w).is (.inr x) (.str x t)=true:=LN x t
inductive V where
 | non|bl (b:Bool)|int (i:Int)|str (x:Str)|byt (b:Array UInt8)|flt (b:UInt64)|ref (a:ak)|ty (n:String)
 deriving DecidableEq
abbrev RelV:V->af->Prop
 | .non,u=>u=Value.none
 | .bl b,u=>u=Value.bool b
 | .int i,u=>∃t,u=Value.int i t
 | .str x,u=>∃t,u=Value.str x t
 | .byt b,u=>∃t,u=Value.bytes b t
 | .flt b,u=>∃t,u=Value.float b t
 | .ref a,u=>u=Value.ref a
 | .ty n,u=>u=Value.type n
meta abbrev Vals:List V->ba->Prop:=Paired RelV
def Vals.length{xs:List V}{us:ba}(r:Vals xs us):xs.length=us.length:=iJ r
theorem Vals.get:∀{xs:List V}{us:ba}{i:Nat}{x:V},Vals xs us->xs[i]?=some x->∃u,us[i]?=some u/\RelV x u
 | _,_,_,_,.nil,e=>by simp at e
 | _,_,0,_,.cons r _,e=>by simp at e;subst e;exact⟨_,rfl,r⟩
 | _,_,i+1,x,.cons _ t,e=>by
  obtain⟨u,h1,h2⟩:=Vals.get (i:=i) (x:=x) t (by simpa using e);exact⟨u,by simpa using h1,h2⟩
theorem Vals.set{x:V}(r:RelV x u):∀{xs:List V}{us:ba}(i:Nat),Vals xs us->Vals (xs.set i x) (us.set i u)
 | _,_,_,.nil=>.nil
 | _,_,0,.cons _ t=>.cons r t
 | _,_,i+1,.cons q t=>.cons q<|Vals.set r i t
theorem Vals.append:∀{xs ys:List V}{us ws:ba},Vals xs us->Vals ys ws->Vals (xs++ys) (us++ws)
 | _,_,_,_,.nil,s=>s
 | _,_,_,_,.cons r t,s=>.cons r<|Vals.append t s
abbrev yf:Option V->bd->Prop
 | some v,some u=>RelV v u
 | none,none=>True
 | _,_=>False
abbrev KV {κ:Type}:List (κ×V)->List (κ×af)->Prop:=Paired λ(p:κ×V) (q:κ×af)=>p.1=q.1/\RelV p.2 q.2
abbrev kV:Key->V
 | .inl i=>.int i
 | .inr x=>.str x
inductive HO where
 | lst (xs:List V)
 | tup (xs:List V)
 | dK (kvs:List<|Key×V)|dT (kvs:List<|List Key×V)
 | set (S:Int->Bool) (n:Nat)
 | ins (C dx:ak) (fs:List<|Str×V)
 | own (x:ak)
 | xd (fs:List<|Str×V)
 | met (f x:ak)
 | rng (lo hi:Int)
 | frz (o:Obj) (u:HO)
 | tbl (ps:Array af)
 | ext (φ:aq->Prop)
meta abbrev Hp:=ak->Option HO
abbrev upd (H:Hp)(a:ak)(o:HO):Hp:=λb=>if b=a then some o else H b
def kD{H:Hp}{a:ak}:upd H a o a=some o:=by unfold upd;rw[aN rfl]
def jP{H:Hp}{a:ak}(h:b≠a):upd H a o b=H b:=by unfold upd;rw[aM h]
def J7{H:Hp}{a:ak}(h:H a=some o)(h':H b=some u)(d:o≠u):a≠b:=by
 intro e;subst e;rw[h]at h';exact d<|bf h'
def j3{H:Hp}{a:ak}(h:H a=some o)(h':H b=none):a≠b:=by
 intro e;subst e;rw[h]at h';cases h'
abbrev qA (h:aq)(a:ak)(items:Array af):Prop:=∃o,h.get? a=some o/\o.cls=.type "tuple" /\ o.dict=none/\∃n,o.data=.seq items n
def qA.tup{a:ak}:qA h a items->IsTup h a items:=λ⟨o,e,c,_,n,d⟩=>⟨o,e,c,n,d⟩
def qA.new(h:aq)(items:Array af):qA (h.push { cls:=.type "tuple",data:=.seq items }) h.objs.size items:=⟨_,bA _ rfl,rfl,rfl,_,rfl⟩
def qA.lt{h:aq}{a:ak}(x:qA h a items):a<h.objs.size:=let⟨_,ho,_⟩:=x;bh ho
section
variable (P:aj) (w:ah)
abbrev kO (H:Hp)(h:aq)(a:ak):HO->Prop
 | .lst xs=>xs.length<=sizeLine/\∃(d:ba) (n:Nat),Vals xs d/\h.get? a=some { cls:=.type "list",data:=.seq d.toArray n }
 | .tup xs=>xs.length<=sizeLine/\∃d:ba,Vals xs d/\qA h a d.toArray
 | .dK kvs=>kvs.length<=sizeLine/\(a == sysModules)=false/\∃k,KV kvs k/\h.DictOf (kJ P w) a k
 | .dT kvs=>kvs.length<=sizeLine/\(a == sysModules)=false/\∃xs:List<|List Key×ak×af,
   Paired (λ(p:List Key×V) (q:List Key×ak×af)=>p.1=q.1/\H q.2.1=some (.tup<|p.1.map kV)/\RelV p.2 q.2.2) kvs xs /\
   ∃o es ep,h.get? a=some o/\o.ExactDict/\o.data=.dict es ep/\es.toList=xs.map (entryOfKey<|tupleKind<|kJ P w)/\(xs.map (·.1)).Nodup
 | .set S n=>h.SetOf (intKind P w) a S n
 | .ins C dx fs=>H dx=some (.own a)/\fs.length<=1000/\dx≠a/\h.get? a=some (PySem.W.instObj C dx) /\
   ∃g,h.Ns1 dx g/\(∀f,yf (fs.lookup f)<|g f)/\PySem.Within g (fs.map (·.1))
 | .own _=>∃o,h.get? a=some o
 | .xd fs=>∃g,h.Ns1 a g/\∀f,yf (fs.lookup f) (g f)
 | .rng B z=>∃t u v,h.get? a=some { cls:=.type "range",data:=.fields #[.int B t,.int z u,.int 1 v]}
 | .frz o u=>h.get? a=some o/\kO H h a u
 | .tbl ps=>h.get? a=some { cls:=.none,data:=.fields ps }
 | .met f x=>h.get? a=some (PySem.W.methodObj (.ref f)<|.ref x)
 | .ext j=>j h/\(∃o,h.get? a=some o)/\∀h1 h2:aq,j h1->(∀o,h1.get? a=some o->h2.get? a=some o)->j h2
abbrev wK (H:Hp)(h:aq):Prop:=∀a o,H a=some o->kO P w H h a o
end
section
variable {P:aj}{w:ah}{H H':Hp}{h h':aq}{a:ak}{o:HO}
def kO.lt(x:kO P w H h a o):a<h.objs.size:=by
 cases o with
 | lst xs=>obtain⟨_,_,_,_,e⟩:=x;exact bh e
 | tup xs=>obtain⟨_,_,_,p⟩:=x;exact qA.lt p
 | dK kvs=>obtain⟨_,_,_,_,o,_,_,e,_⟩:=x;exact bh e
 | dT kvs=>obtain⟨_,_,_,_,o,_,_,e,_⟩:=x;exact bh e
 | set S n=>obtain⟨o,_,_,_,e,_⟩:=x;exact bh e
 | ins C dx fs=>obtain⟨_,_,_,e,_⟩:=x;exact bh e
 | own y=>obtain⟨_,e⟩:=x;exact bh e
 | xd fs=>obtain⟨_,⟨_,_,_,e,_⟩,_⟩:=x;exact bh e
 | rng j g=>obtain⟨_,_,_,e⟩:=x;exact bh e
 | frz ob u=>obtain⟨e,_⟩:=x;exact bh e
 | tbl ps=>exact bh (show h.get? a=some _ from x)
 | met f y=>exact bh (show h.get? a=some _ from x)
 | ext d=>obtain⟨_,⟨_,e⟩,_⟩:=x;exact bh e
theorem Paired.WO{α β:Type}{F G:α->β->Prop}:∀{l₁:List α}{l₂:List β},Paired F l₁ l₂->(∀a b,F a b->G a b)->Paired G l₁ l₂
 | _,_,.nil,_=>.nil
 | _,_,.cons r t,f=>.cons (f _ _ r)<|Paired.WO t f
def kO.stay(x:kO P w H h a o)(k:∀b u,(b=a\/H b=some (.own a))->h.get? b=some u->h'.get? b=some u)
  (ho:∀b,H b=some (.own a)->H' b=some (.own a)) (ht:∀b xs,H b=some (.tup xs)->H' b=some (.tup xs)):kO P w H' h' a o:=by
 induction o with
 | lst xs=>obtain⟨z,g,n,r,e⟩:=x;exact⟨z,g,n,r,k _ _ (.inl rfl) e⟩
 | tup xs=>obtain⟨z,g,r,ob,e,c⟩:=x;exact⟨z,g,r,ob,k _ _ (.inl rfl) e,c⟩
 | dK kvs=>obtain⟨z,y,G,r,ob,es,ep,e,c⟩:=x;exact⟨z,y,G,r,ob,es,ep,k _ _ (.inl rfl) e,c⟩
 | dT kvs=>
  obtain⟨z,y,xs,r,ob,es,ep,e,c⟩:=x;exact⟨z,y,xs,Paired.WO r λp q z=>⟨z.1,ht _ _ z.2.1,z.2.2⟩,ob,es,ep,k _ _ (.inl rfl) e,c⟩
 | set S n=>obtain⟨ob,es,ep,t,e,c⟩:=x;exact⟨ob,es,ep,t,k _ _ (.inl rfl) e,c⟩
 | ins C dx fs=>
  obtain⟨d,z,ne,e,B,⟨j,es,ep,e2,c⟩,r⟩:=x;exact⟨ho _ d,z,ne,k _ _ (.inl rfl) e,B,⟨j,es,ep,k _ _ (.inr d) e2,c⟩,r⟩
 | own y=>obtain⟨ob,e⟩:=x;exact⟨ob,k _ _ (.inl rfl) e⟩
 | xd fs=>obtain⟨B,⟨j,es,ep,e,c⟩,r⟩:=x;exact⟨B,⟨j,es,ep,k _ _ (.inl rfl) e,c⟩,r⟩
 | rng J L=>obtain⟨t,u,v,e⟩:=x;exact⟨t,u,v,k _ _ (.inl rfl) e⟩
 | frz ob u F=>obtain⟨e,q⟩:=x;exact⟨k _ _ (.inl rfl) e,F q⟩
 | tbl ps=>
  have e:h.get? a=some { cls:=.none,data:=.fields ps }:=x
  skip
  exact k a _ (.inl rfl) e
 | met f y=>
  have e:h.get? a=some (PySem.W.methodObj (.ref f)<|.ref y):=x
  skip
  exact k a _ (.inl rfl) e
 | ext K=>obtain⟨p,⟨o,e⟩,st⟩:=x;exact⟨st _ _ p λo q=>k _ _ (.inl rfl) q,⟨o,k _ _ (.inl rfl) e⟩,st⟩
def wK.lt(x:wK P w H h)(e:H a=some o):a<h.objs.size:=(x a o e).lt
def wK.fresh(x:wK P w H h)(e:h.objs.size<=a):H a=none:=by
 cases q:H a with
 | none=>rfl
 | some u=>exact absurd (bR (x.lt q) e)<|fV _
def wK.kept(x:wK P w H h)(k:∀b u,h.get? b=some u->h'.get? b=some u):wK P w H h':=λa o e=>
 (x a o e).stay (λb u _ q=>k b u q) (λ_ q=>q) λ_ _ q=>q
def wK.laid(x:wK P w H h)(k:∀b u,h.get? b=some u->h'.get? b=some u)(hp:h.objs.size<=a)(new:kO P w (upd H a o) h' a o):wK P w (upd H a o) h':=λb u e=>by
 have hn:=x.fresh hp;by_cases hb:b=a
 ·subst hb;rw[kD]at e;cases e;exact new
 ·rw[jP hb]at e;exact(x b u e).stay (λc v _ q=>k c v q) (λc q=>by rw[jP<|j3 q hn];exact q) λc xs q=>by rw[jP<|j3 q hn];exact q
end
abbrev Rd (H:Hp)(a:ak)(u:HO):Prop:=H a=some u\/∃o,H a=some (.frz o u)
def Rd.ok{P:aj}{w:ah}{H:Hp}{a:ak}(r:Rd H a u)(x:wK P w H h):kO P w H h a u:=by
 rcases r with r|⟨o,r⟩
 ·exact x a u r
 ·obtain⟨_,q⟩:=x a _ r;exact q
abbrev Mut:Option HO->Prop
 | some (.lst _)=>True
 | some (.dK _)=>True
 | some (.dT _)=>True
 | some (.set _ _)=>True
 | some (.ins _ _ _)=>True
 | some (.ext _)=>True
 | _=>False
section
variable {P:aj}{w:ah}{H:Hp}{h h':aq}{x e:ak}{o':HO}
def wK.write(ok:wK P w H h)(mu:Mut<|H x)(he:e=x\/H e=some (.own x))(k:∀b u,b≠e->h.get? b=some u->h'.get? b=some u)(heo:∃u,h'.get? e=some u)
  (new:kO P w (upd H x o') h' x o'):wK P w (upd H x o') h':=λb u q=>by
 have f:∀c y,H c=some (.own y)->c≠x:=λc y r z=>by subst z;rw[r]at mu;exact mu
 have g:∀c xs,H c=some (.tup xs)->c≠x:=λc xs r z=>by subst z;rw[r]at mu;exact mu
 by_cases hb:b=x
 ·subst hb;rw[kD]at q;cases q;exact new
 ·rw[jP hb]at q;by_cases d:b=e
  ·have j:H b=some (.own x):=by
    rcases he with z|z
    ·exact absurd (d.trans z) hb
    ·rw[d];exact z
   rw[q]at j;cases j;obtain⟨v,hv⟩:=heo;exact⟨v,by rw[d];exact hv⟩
  ·refine(ok b u q).stay (λc v hc r=>k c v ?_ r) (λc r=>by rw[jP<|f c b r];exact r) λc xs r=>by rw[jP<|g c xs r];exact r
   rcases hc with rfl|hc
   ·exact d
   ·rintro rfl
    rcases he with z|z
    ·exact f c b hc z
    ·rw[hc]at z;cases z;exact hb rfl
end
structure Un (fs ex:bb)(H H':Hp)(h h':aq):Prop where
 keep:∀b o,h.get? b=some o->H b=none->b∉fs->b∉ex->h'.get? b=some o
 slot:∀b o,h.get? b=some o->H b=none->b∈fs->b∉ex->∃sl,h'.get? b=some { o with slots:=sl }
 free:∀b o,h.get? b=some o->H b=none->b∉ex->H' b=none
 there:∀b o,h.get? b=some o->b∉ex->∃o',h'.get? b=some o'
 tups:∀b xs,H b=some (.tup xs)->H' b=some (.tup xs)
 frzs:∀b o u,H b=some (.frz o u)->H' b=some (.frz o u)
 tbls:∀b ps,H b=some (.tbl ps)->∃more,H' b=some (.tbl<|ps++more)
section
variable {fs ex:bb}{H H1:Hp}{h h1 h':aq}{a x e:ak}{o:HO}
def Un.any(u:Un fs ex H H1 h h1){ob:Obj}(q:h.get? b=some ob)(n:H b=none)(hx:b∉ex):∃sl,h1.get? b=some { ob with slots:=sl }:=by
 by_cases hb:b∈fs
 ·exact u.slot b ob q n hb hx
 ·exact⟨ob.slots,u.keep b ob q n hb hx⟩
def Un.kept(k:∀b u,h.get? b=some u->h'.get? b=some u):Un fs ex H H h h':=
 ⟨λb ob q _ _ _=>k b ob q,λb ob q _ _ _=>⟨ob.slots,k b ob q⟩,λ_ _ _ n _=>n,λb ob q _=>⟨ob,k b ob q⟩,λ_ _ q=>q,λ_ _ _ q=>q,λ_ ps q=>⟨#[],by rw[q];simp⟩⟩
def Un.refl:Un fs ex H H h h:=Un.kept λ_ _ q=>q
def Un.laid(k:∀b u,h.get? b=some u->h'.get? b=some u)(hp:h.objs.size<=a)(hn:H a=none):Un fs ex H (upd H a o) h h' where
 keep:=λb u q _ _ _=>k b u q
 slot:=λb u q _ _ _=>⟨u.slots,k b u q⟩
 free:=λb u q n _=>by rw[jP<|bE<|bR (bh q) hp];exact n
 there:=λb u q _=>⟨u,k b u q⟩
 tups:=λb xs q=>by rw[jP<|j3 q hn];exact q
 frzs:=λb u xs q=>by rw[jP<|j3 q hn];exact q
 tbls:=λb ps q=>⟨#[],by rw[jP<|j3 q hn,q];simp⟩
def Un.write(mu:Mut<|H x)(he:e=x\/H e=some (.own x))(k:∀b u,b≠e->h.get? b=some u->h'.get? b=some u)(heo:∃u,h'.get? e=some u):Un fs ex H (upd H x o) h h':=by
 have g:∀b,H b=none->b≠x:=λb n z=>by subst z;rw[n]at mu;exact mu
 have hb:∀b,H b=none->b≠e:=λb n z=>by
  subst z
  rcases he with r|r
  ·exact g b n r
  ·rw[n]at r;cases r
 have f:∀b u,H b=some u->¬Mut (some u)->b≠x:=λb u q j z=>by subst z;rw[q]at mu;exact j mu
 refine⟨λb u q n _ _=>k b u (hb b n) q,λb u q n _ _=>⟨u.slots,k b u (hb b n) q⟩,λb u q n _=>by rw[jP<|g b n];exact n,λb u q _=>?_,
  λb xs q=>by rw[jP<|f b _ q λz=>z];exact q,λb u xs q=>by rw[jP<|f b _ q λz=>z];exact q,λb ps q=>⟨#[],by rw[jP<|f b _ q λz=>z,q];simp⟩⟩
 by_cases d:b=e
 ·subst d;exact heo
 ·exact⟨u,k b u d q⟩
end
abbrev trk (h:aq)(H:Hp):bb:=(List.range h.objs.size).filter λa=>(H a).isSome
abbrev C1 (h:aq)(H:Hp):aq:=PySem.W.hideAll h<|trk h H
def KR(h:aq)(H:Hp):(C1 h H).objs.size=h.objs.size:=PySem.W.hideAll_size _ _
def Nj{h:aq}{H:Hp}(e:h.get? b=some o)(n:H b=none):(C1 h H).get? b=some o:=
 PySem.W.hideAll_get _ e λd=>by
  have q:(H b).isSome=true:=(cg.mp d).2;rw[n]at q;simp at q
def TN{h:aq}{H:Hp}(e:(C1 h H).get? b=some o):h.get? b=some o/\H b=none:=by
 have d:h.get? b=some o:=PySem.W.of_hideAll (trk h H) e;refine⟨d,?_⟩
 cases q:H b with
 | none=>rfl
 | some x=>
  have f:b∈trk h H:=cg.mpr ⟨cO.mpr<|bh d,by simp[q]⟩;have z:(C1 h H).get? b=none:=PySem.W.hideAll_none (trk h H) f;rw[z]at e;cases e
abbrev TJ (g h:aq)(L:ak):bn:=(List.range h.objs.size).filterMap λa=>if a=L\/(g.get? a).isSome=true then none else(h.get? a).map λo=>(a,o)
abbrev rest (g h:aq)(L d:ak):bn:=(TJ g h L).filter λp=>decide<|p.1≠d
structure Mod (K:au)(mg:Str->bd)(base:aq):Prop where
 kin:K.In base
 glob:base.Ns mainGlobals mg
 blt:∃mb,base.Ns builtinsNs mb/\∀x:Str,x ≠ "__name__" -> mb x=bootBuiltins x
 nolimit:base.NoLimit
structure Cx where
 prog:aj
 w:ah
 K:au
 mg:Str->bd
 base:aq
 A:aA
 N:ar
 s₀:aC
 H₀:Hp
 env:Env
 outer:List Env
 stack:List Env
 ex:bb
 fn:Str->Bool
 calm:Bool
 pn:bn
 xe:af->aC->Prop
abbrev frs (l:List Env):bb:=l.filterMap (·.frame)
meta abbrev Cx.fs (X:Cx):bb:=frs X.outer
abbrev YJ (sc:Scope)(x:Str):Prop:=sc.names.lookup x=some .local\/sc.names.lookup x=some .cell\/sc.names.lookup x=some .free
abbrev Loc (sc:Scope)(x:Str):Prop:=sc.names.lookup x=some .local\/sc.names.lookup x=some .cell
abbrev Look (env:Env)(h:aq)(m:Str->bd)(x:Str)(u:af):Prop:=
 (env.kindOf x=some .local/\m x=some u)\/((env.kindOf x=some .cell\/env.kindOf x=some .free)/\∃c,env.cells.lookup x=some c/\h.IsCell c (some u))
structure Cx.Ok (X:Cx):Prop where
 mod:Mod X.K X.mg X.base
 kind:X.env.scope.kind=.function
 glob:X.env.globals=mainGlobals
 blt:X.env.builtins=builtinsNs
 above:X.s₀.heap.objs.size<=X.env.locals
 inj:∀x y c,X.env.cells.lookup x=some c->X.env.cells.lookup y=some c->x=y
 has:∀x,(X.env.kindOf x=some .cell\/X.env.kindOf x=some .free)->∃c,X.env.cells.lookup x=some c
 cab:∀x c,X.fn x=true->X.env.cells.lookup x=some c->X.s₀.heap.objs.size<=c
 hd:X.calm=true->X.A.handled=none
 frames:X.A.frames=some X.stack
 stk:X.stack=X.outer\/(X.stack=X.env::X.outer/\X.env.frame=some X.env.locals)
 exf:∀b∈X.ex,b≠X.env.locals/\∀x c,X.env.cells.lookup x=some c->c≠b
 bs:∀b o,X.base.get? b=some o->X.s₀.heap.get? b=some o/\X.H₀ b=none
 bsz:X.base.objs.size<=X.s₀.heap.objs.size
 noex:∀b o,X.base.get? b=some o->b∉X.ex
 exfs:∀b∈X.ex,b∉X.fs
 Aq:X.s₀.heap.FunFrames X.base X.outer
 frf:∀b∈X.fs,X.H₀ b=none
structure Inv (X:Cx)(pins:bn)(σ:List (Option V))(H:Hp)(s:aC):Prop where
 ok:X.Ok
 os:s.os=X.s₀.os
 bare:AllBare s.gens
 base:Un X.fs X.ex X.H₀ H X.s₀.heap s.heap
 loc:∃m,s.heap.Ns X.env.locals m/\∀(i:Nat) (x:Str) (v:V),X.N[i]?=some x->σ[i]?=some (some v)->YJ X.env.scope x->∃u,RelV v u/\Look X.env s.heap m x u
 cell:∀x c,X.env.cells.lookup x=some c->∃v,s.heap.IsCell c v
 free:H X.env.locals=none
 freeC:∀x c,X.env.cells.lookup x=some c->H c=none
 pin:∀p∈X.pn++pins,s.heap.get? p.1=some p.2/\H p.1=none/\p.1≠X.env.locals/\p.1∉X.fs/\∀v,p.2.data≠.cell v
 hok:wK X.prog X.w H s.heap
 len:σ.length=X.N.length
section
variable {X:Cx}{pins:bn}{σ:List (Option V)}{H H':Hp}{s:aC}{h':aq}
def Cx.Ok.abP(ok:X.Ok)(e:X.base.get? b=some o):b∉X.fs:=λhb=>by
 have:=(ok.Aq.mem hb).1;rw[e]at this;cases this
def Inv.bs(I:Inv X pins σ H s):∀b o,X.base.get? b=some o->s.heap.get? b=some o/\H b=none:=λb o e=>
 ⟨I.base.keep b o (I.ok.bs b o e).1 (I.ok.bs b o e).2 (I.ok.abP e)<|I.ok.noex b o e,I.base.free b o (I.ok.bs b o e).1 (I.ok.bs b o e).2<|I.ok.noex b o e⟩
def Inv.bk(I:Inv X pins σ H s):∀b o,X.base.get? b=some o->s.heap.get? b=some o:=λb o e=>(I.bs b o e).1
def Inv.mod(I:Inv X pins σ H s):Mod X.K X.mg X.base:=I.ok.mod
def Inv.D3(I:Inv X pins σ H s):X.K.In s.heap:=I.ok.mod.kin.keeps I.bk
def Inv.lt(I:Inv X pins σ H s):X.env.locals<s.heap.objs.size:=let⟨_,hn,_⟩:=I.loc;hn.lt
def Inv.sz(I:Inv X pins σ H s):X.s₀.heap.objs.size<=s.heap.objs.size:=bH I.ok.above<|dR I.lt
def Inv.abm(I:Inv X pins σ H s){a:ak}(h:s.heap.objs.size<=a):a∉X.fs:=λhb=>by
 obtain⟨_,o,d,_⟩:=I.ok.Aq.mem hb;exact absurd (bR (bh d)<|bH I.sz h)<|fV _
def Inv.X4(I:Inv X pins σ H s):∀x c,X.env.cells.lookup x=some c->c≠X.env.locals:=λx c e z=>by
 obtain⟨v,o,j,g⟩:=I.cell x c e;obtain⟨m,⟨o',es,ep,f,d,_⟩,_⟩:=I.loc;rw[z,f]at j;cases j;rw[d]at g;cases g
def Inv.Aq(I:Inv X pins σ H s):s.heap.FunFrames X.base X.outer:=by
 have all:∀(l:List Env),(∀b∈frs l,b∈X.fs)->X.s₀.heap.FunFrames X.base l->s.heap.FunFrames X.base l:=by
  intro l
  induction l with
  | nil=>intro _ _;trivial
  | cons env r f=>
   intro hs j;obtain⟨p,⟨L,o,hf,hn,k,q⟩,g⟩:=j;have d:L∈X.fs:=hs L (by unfold frs;rw[iQ,hf];exact aO);obtain⟨t,e⟩:=I.base.slot L o k (I.ok.frf L d) d λz=>I.ok.exfs L z d;exact⟨p,⟨L,_,hf,hn,e,q⟩,f (λb hb=>hs b<|by unfold frs;rw[iQ,hf];exact aQ _ hb) g⟩
 exact all X.outer (λ_ hb=>hb) I.ok.Aq
def Inv.stack(I:Inv X pins σ H s):s.heap.FunFrames X.base X.stack:=by
 rcases I.ok.stk with e|⟨e,hf⟩
 ·rw[e];exact I.Aq
 ·rw[e];obtain⟨m,hn,_⟩:=I.loc;refine .cons (by rw[I.ok.kind];decide) hf hn ?_ I.Aq;exact Heap.get?_none_of_le<|bH I.ok.bsz I.ok.above
def Inv.F_(I:Inv X pins σ H s):∀b∈frs X.stack,b∈X.env.locals::X.fs:=λb hb=>by
 rcases I.ok.stk with e|⟨e,hf⟩
 ·rw[e]at hb;exact aQ _ hb
 ·rw[e]at hb;unfold frs at hb;rw[iQ,hf]at hb;exact hb
def Inv.IM(I:Inv X pins σ H s):∀b∈frs X.stack,H b=none:=λb hb=>by
 rcases bF.mp (I.F_ b hb)with e|hb
 ·rw[e];exact I.free
 ·obtain⟨_,o,d,_⟩:=I.ok.Aq.mem hb;exact I.base.free b o d (I.ok.frf b hb) λz=>I.ok.exfs b z hb
def Inv.step{g':Array GenState}{t':Nat}{d':Drawn}{ch:bb}(I:Inv X pins σ H s)
  (hch:∀b∈ch,(b∈X.ex\/X.s₀.heap.objs.size<=b)/\b≠X.env.locals/\(∀x c,X.env.cells.lookup x=some c->c≠b)/\∀p∈X.pn++pins,p.1≠b)
  (keep:∀b o,b≠X.env.locals->b∉X.fs->b∉ch->s.heap.get? b=some o->H b=none->h'.get? b=some o)
  (slot:∀b o,b≠X.env.locals->b∈X.fs->b∉ch->s.heap.get? b=some o->H b=none->∃sl,h'.get? b=some { o with slots:=sl }) (free:∀b o,b∉ch->s.heap.get? b=some o->H b=none->H' b=none)
  (there:∀b o,b∉ch->s.heap.get? b=some o->∃o',h'.get? b=some o')
  (tups:∀b xs,H b=some (.tup xs)->H' b=some (.tup xs)) (frzs:∀b o u,H b=some (.frz o u)->H' b=some (.frz o u)) (tbls:∀b ps,H b=some (.tbl ps)->∃more,H' b=some (.tbl<|ps++more))
  (ns:∀m,s.heap.Ns X.env.locals m->h'.Ns X.env.locals m) (hok:wK X.prog X.w H' h') (hg:AllBare g') :
  Inv X pins σ H' { s with heap:=h',gens:=g',drawn:=d',toks:=t' }:=by
 have C:∀b o,X.s₀.heap.get? b=some o->b≠X.env.locals:=λb o e=>bE<|bR (bh e) I.ok.above;have t:∀b o,X.s₀.heap.get? b=some o->b∉X.ex->b∉ch:=λb o e f hb=>by
  rcases(hch b hb).1 with z|z
  ·exact f z
  ·exact absurd (bR (bh e) z)<|fV _
 have j:∀x c,X.env.cells.lookup x=some c->∀v,s.heap.IsCell c v->h'.IsCell c v:=λx c e v ⟨o,B,G⟩=>by
  have g:c∉ch:=λz=>(hch c z).2.2.1 x c e rfl;by_cases hc:c∈X.fs
  ·obtain⟨sl,q⟩:=slot c o (I.X4 x c e) hc g B<|I.freeC x c e;exact⟨_,q,G⟩
  ·exact⟨o,keep c o (I.X4 x c e) hc g B<|I.freeC x c e,G⟩
 refine⟨I.ok,I.os,hg,⟨λb o e n hb f=>?_,λb o e n hb f=>?_,λb o e n f=>?_,λb o e f=>?_,λb xs e=>tups b xs<|I.base.tups b xs e,λb o xs e=>frzs b o xs<|I.base.frzs b o xs e,λb ps e=>?_⟩,?_,λx c e=>?_,?_,λx c e=>?_,λp K=>?_,hok,I.len⟩
 ·exact keep b o (C b o e) hb (t b o e f) (I.base.keep b o e n hb f) (I.base.free b o e n f)
 ·obtain⟨sl,e1⟩:=I.base.slot b o e n hb f;obtain⟨F,e2⟩:=slot b _ (C b o e) hb (t b o e f) e1<|I.base.free b o e n f;exact⟨F,e2⟩
 ·obtain⟨o',e1⟩:=I.base.there b o e f;exact free b o' (t b o e f) e1 (I.base.free b o e n f)
 ·obtain⟨o',e1⟩:=I.base.there b o e f;exact there b o' (t b o e f) e1
 ·obtain⟨N,e1⟩:=I.base.tbls b ps e;obtain⟨M,e2⟩:=tbls b _ e1;exact⟨N++M,by rw[e2,Array.append_assoc]⟩
 ·obtain⟨m,hn,L⟩:=I.loc;refine⟨m,ns m hn,λi x v e1 e2 e3=>?_⟩;obtain⟨u,r,l⟩:=L i x v e1 e2 e3;refine⟨u,r,?_⟩
  rcases l with l|⟨k,c,e,z⟩
  ·exact .inl l
  ·exact .inr ⟨k,c,e,j x c e _ z⟩
 ·obtain⟨v,z⟩:=I.cell x c e;exact⟨v,j x c e v z⟩
 ·obtain⟨m,⟨o,_,_,B,_⟩,_⟩:=I.loc;exact free _ o (λz=>(hch _ z).2.1 rfl) B I.free
 ·obtain⟨v,o,B,G⟩:=I.cell x c e;exact free c o (λz=>(hch c z).2.2.1 x c e rfl) B (I.freeC x c e)
 ·obtain⟨e,n,ne,J,d⟩:=I.pin p K;have g:p.1∉ch:=λz=>(hch p.1 z).2.2.2 p K rfl;exact⟨keep p.1 p.2 ne J g e n,free p.1 p.2 g e n,ne,J,d⟩
def Inv.un{t':Nat}(I:Inv X pins σ H s)(u:Un X.fs [] H H' s.heap h')(hok:wK X.prog X.w H' h'):Inv X pins σ H' { s with heap:=h',toks:=t' }:=by
 obtain⟨m,⟨o,es,ep,j,r⟩,_⟩:=id I.loc;obtain⟨t,k⟩:=u.any j I.free (by simp);exact I.step (g':=s.gens) (d':=s.drawn) (ch:=[]) (nofun) (λb o _ hb _ e n=>u.keep b o e n hb<|by simp) (λb o _ hb _ e n=>u.slot b o e n hb<|by simp) (λb o _ e n=>u.free b o e n<|by simp) (λb o _ e=>u.there b o e<|by simp) u.tups u.frzs u.tbls (λz p=>by
  obtain⟨o',f,g,d,q⟩:=p;rw[j]at d;cases d;exact⟨_,f,g,k,q⟩) hok I.bare
def Inv.call{g':Array GenState}{t':Nat}{d':Drawn}{ch:bb}(I:Inv X pins σ H s)(u:Un (frs X.stack) ch H H' s.heap h')(hok:wK X.prog X.w H' h')(hg:AllBare g')
  (hch:∀b∈ch,(b∈X.ex\/X.s₀.heap.objs.size<=b)/\b≠X.env.locals/\(∀x c,X.env.cells.lookup x=some c->c≠b)/\∀p∈X.pn++pins,p.1≠b) :
  Inv X pins σ H' { s with heap:=h',gens:=g',drawn:=d',toks:=t' }:=by
 obtain⟨m,⟨o,es,ep,k,r⟩,_⟩:=id I.loc;obtain⟨B,g⟩:=u.any k I.free λz=>(hch _ z).2.1 rfl;exact I.step (ch:=ch) hch (λb o g hb hc e n=>u.keep b o e n (λz=>(bF.mp<|I.F_ b z).elim g hb) hc) (λb o _ _ hc e n=>u.any e n hc) (λb o hc e n=>u.free b o e n hc) (λb o hc e=>u.there b o e hc) u.tups u.frzs u.tbls (λC q=>by
  obtain⟨o',f,j,d,t⟩:=q;rw[k]at d;cases d;exact⟨_,f,j,g,t⟩) hok hg
def Inv.turned{t':Nat}{it:ak}(I:Inv X pins σ H s)(k:∀b o,b≠it->s.heap.get? b=some o->h'.get? b=some o)(hn:H it=none)(hL:it≠X.env.locals)
  (h1:it∈X.ex\/X.s₀.heap.objs.size<=it) (h2:∀x c,X.env.cells.lookup x=some c->c≠it) (h3:∀p∈X.pn++pins,p.1≠it):Inv X pins σ H { s with heap:=h',toks:=t' }:=by
 have d:∀b u,H b=some u->b≠it:=λb u e z=>by rw[z,hn]at e;cases e
 refine I.step (g':=s.gens) (d':=s.drawn) (ch:=[it]) (λb hb=>?_) (λb o _ _ hc e _=>k b o (λz=>hc<|by simp[z]) e) (λb o _ _ hc e _=>⟨o.slots,k b o (λz=>hc<|by simp[z]) e⟩) (λ_ _ _ _ n=>n)
  (λb o hc e=>⟨o,k b o (λz=>hc<|by simp[z]) e⟩) (λ_ _ e=>e) (λ_ _ _ e=>e) (λb ps e=>⟨#[],by rw[e];simp⟩) (λm g=>?_) (λb u e=>?_) I.bare
 ·have e:b=it:=by simpa using hb
  subst e;exact⟨h1,hL,h2,h3⟩
 ·obtain⟨o,es,ep,f,r⟩:=g;exact⟨o,es,ep,k _ o (cR hL) f,r⟩
 ·refine(I.hok b u e).stay (λc v hc q=>k c v ?_ q) (λ_ q=>q) λ_ _ q=>q
  rcases hc with z|z
  ·rw[z];exact d b u e
  ·exact d c _ z
def Inv.tok(I:Inv X pins σ H s)(t:Nat):Inv X pins σ H { s with toks:=t }:=I.un (h':=s.heap) (t':=t) Un.refl I.hok
def Inv.kept{t':Nat}(I:Inv X pins σ H s)(k:∀b u,s.heap.get? b=some u->h'.get? b=some u):Inv X pins σ H { s with heap:=h',toks:=t' }:=I.un (Un.kept k)<|I.hok.kept k
def Inv.laid{a:ak}{t':Nat}(I:Inv X pins σ H s)(k:∀b u,s.heap.get? b=some u->h'.get? b=some u)(hp:s.heap.objs.size<=a)(new:kO X.prog X.w (upd H a o) h' a o) :
  Inv X pins σ (upd H a o) { s with heap:=h',toks:=t' }:=I.un (Un.laid k hp<|I.hok.fresh hp)<|I.hok.laid k hp new
def Inv.write{x e:ak}{t':Nat}(I:Inv X pins σ H s)(mu:Mut<|H x)(he:e=x\/H e=some (.own x))(k:∀b u,b≠e->s.heap.get? b=some u->h'.get? b=some u)(heo:∃u,h'.get? e=some u)
  (new:kO X.prog X.w (upd H x o) h' x o):Inv X pins σ (upd H x o) { s with heap:=h',toks:=t' }:=I.un (Un.write mu he k heo)<|I.hok.write mu he k heo new
def Inv.Kg{pins':bn}(I:Inv X pins σ H s)(h:∀p∈pins',s.heap.get? p.1=some p.2/\H p.1=none/\p.1≠X.env.locals/\p.1∉X.fs/\∀v,p.2.data≠.cell v):Inv X pins' σ H s:=
 ⟨I.ok,I.os,I.bare,I.base,I.loc,I.cell,I.free,I.freeC,λp d=>(bq.mp d).elim (λz=>I.pin p<|eZ _ z)<|h p,I.hok,I.len⟩
def EZ{N:ar}(hN:N.Nodup){i j:Nat}{x:Str}(a:N[i]?=some x)(b:N[j]?=some x):i=j:=by
 obtain⟨h1,e1⟩:=aJ.mp a;obtain⟨h2,e2⟩:=aJ.mp b;exact(cX hN).mp (e1.trans e2.symm)
def K9{A:aA}{E:af->aC->Prop}{i:Nat}{x:Str}{v:V}{Q:Unit->aC->Prop}(I:Inv X pins σ H s)(hN:X.N.Nodup)(hi:X.N[i]?=some x)(hx:Loc X.env.scope x)(r:RelV v u)
  (h:∀s',Inv X pins (σ.set i<|some v) H s'->(∃a,Heap.SameBut a s.heap s'.heap/\(a=X.env.locals\/X.env.cells.lookup x=some a))->Q Unit.unit s') (hf:X.fn x=true\/X.env.scope.names.lookup x=some .local:=by first|exact .inl rfl|exact .inr rfl|assumption):wpAny M A (storeName X.env x u) Q E s:=by
 obtain⟨m,hn,hl⟩:=id I.loc;have G:(X.env.scope.kind == .class || (X.env.scope.kind == .module && X.env.locals != X.env.globals))=false:=by rw[I.ok.kind];rfl
 have g:i<σ.length:=by rw[I.len];exact(aJ.mp hi).1
 have X4:=I.X4;have f:∀{a:ak} {h':aq},(∃o,s.heap.get? a=some o/\H a=none)->Heap.SameBut a s.heap h'->wK X.prog X.w H h':=λ{a h'} ha hs b ob e=>by
  obtain⟨_,_,hfree⟩:=ha;refine(I.hok b ob e).stay (λc P hc q=>(hs.2 c ?_).trans q) (λ_ q=>q) λ_ _ q=>q;rintro rfl
  rcases hc with rfl|hc
  ·rw[hfree]at e;cases e
  ·rw[hfree]at hc;cases hc
 rcases hx with t|t
 ·refine wpAny_storeName_local t hn (λh' W hs=>?_) G;obtain⟨oL,_,_,Y,_⟩:=id hn;refine h _ ⟨I.ok,I.os,I.bare,⟨λb o e n hb hx=>?_,λb o e n hb hx=>?_,I.base.free,λb o e hx=>?_,I.base.tups,I.base.frzs,I.base.tbls⟩,⟨_,W,λj y v' e1 e2 e3=>?_⟩,λy c e=>?_,I.free,I.freeC,λp hp=>?_,f ⟨oL,Y,I.free⟩ hs,by simpa using I.len⟩ ⟨_,hs,.inl rfl⟩
  ·exact(hs.2 b<|bE<|bR (bh e) I.ok.above).trans (I.base.keep b o e n hb hx)
  ·obtain⟨T,e1⟩:=I.base.slot b o e n hb hx;exact⟨T,(hs.2 b<|bE<|bR (bh e) I.ok.above).trans e1⟩
  ·obtain⟨o',e1⟩:=I.base.there b o e hx;exact⟨o',(hs.2 b<|bE<|bR (bh e) I.ok.above).trans e1⟩
  ·by_cases C:j=i
   ·subst C;rw[hi]at e1;cases e1;rw[bJ g]at e2
    cases e2
    exact⟨u,r,.inl ⟨t,by simp⟩⟩
   ·rw[bL<|cR C]at e2;obtain⟨U,r',q⟩:=hl j y v' e1 e2 e3;refine⟨U,r',?_⟩
    rcases q with⟨k,e⟩|⟨k,c,e,z⟩
    ·refine .inl ⟨k,?_⟩;have:y≠x:=λe=>C<|EZ hN e1<|e ▸ hi;simp[this,e]
    ·exact .inr ⟨k,c,e,z.sameBut hs<|X4 y c e⟩
  ·obtain⟨P,z⟩:=I.cell y c e;exact⟨P,z.sameBut hs<|X4 y c e⟩
  ·obtain⟨e,n,ne,Z,d⟩:=I.pin p hp;exact⟨(hs.2 p.1 ne).trans e,n,ne,Z,d⟩
 ·have B:X.fn x=true:=by
   rcases hf with z|z
   ·exact z
   ·rw[z]at t;cases t
  obtain⟨c,hc⟩:=I.ok.has x<|.inl t;obtain⟨P,z⟩:=I.cell x c hc;refine wpAny_storeName_cell I.ok.kind t hc z λh' K hs=>?_;obtain⟨oc,F,J⟩:=id z;refine h { s with heap:=h' } ⟨I.ok,I.os,I.bare,⟨λb o e n hb hx=>?_,λb o e n hb hx=>?_,I.base.free,λb o e hx=>?_,I.base.tups,I.base.frzs,I.base.tbls⟩,⟨m,hn.sameBut hs<|cR<|X4 x c hc,λj y v' e1 e2 e3=>?_⟩,λy O e=>?_,I.free,I.freeC,λp hp=>?_,f ⟨oc,F,I.freeC x c hc⟩ hs,by simpa using I.len⟩ ⟨c,hs,.inr hc⟩
  ·exact(hs.2 b<|bE<|bR (bh e)<|I.ok.cab x c B hc).trans (I.base.keep b o e n hb hx)
  ·obtain⟨T,e1⟩:=I.base.slot b o e n hb hx;exact⟨T,(hs.2 b<|bE<|bR (bh e)<|I.ok.cab x c B hc).trans e1⟩
  ·obtain⟨o',e1⟩:=I.base.there b o e hx;exact⟨o',(hs.2 b<|bE<|bR (bh e)<|I.ok.cab x c B hc).trans e1⟩
  ·by_cases C:j=i
   ·subst C;rw[hi]at e1;cases e1;rw[bJ g]at e2
    cases e2
    exact⟨u,r,.inr ⟨.inl t,c,hc,K⟩⟩
   ·rw[bL<|cR C]at e2;obtain⟨U,r',q⟩:=hl j y v' e1 e2 e3;refine⟨U,r',?_⟩
    rcases q with q|⟨k,O,e,z'⟩
    ·exact .inl q
    ·refine .inr ⟨k,O,e,z'.sameBut hs ?_⟩;rintro rfl;exact C<|EZ hN e1<|I.ok.inj _ _ _ e hc ▸ hi
  ·by_cases L:O=c
   ·subst L;exact⟨_,K⟩
   ·obtain⟨w2,z2⟩:=I.cell y O e;exact⟨w2,z2.sameBut hs L⟩
  ·obtain⟨e,n,ne,Z,d⟩:=I.pin p hp;refine⟨(hs.2 p.1 ?_).trans e,n,ne,Z,d⟩;intro q;rw[q,F]at e;have q':oc=p.2:=bf e;exact d P<|by rw[<- q'];exact J
def Az{A:aA}{E:af->aC->Prop}{i:Nat}{x:Str}{v:V}{Q:Unit->aC->Prop}(I:Inv X pins σ H s)(hN:X.N.Nodup)(hi:X.N[i]?=some x)(hx:Loc X.env.scope x)(r:RelV v u)
  (h:∀s',Inv X pins (σ.set i<|some v) H s'->Q Unit.unit s') (hf:X.fn x=true\/X.env.scope.names.lookup x=some .local:=by first|exact .inl rfl|exact .inr rfl|assumption):wpAny M A (storeName X.env x u) Q E s:=
 K9 I hN hi hx r (λs' d _=>h s' d) hf
def Inv.Mi{s':aC}{ch:bb}(I:Inv X pins σ H s)(ho:s'.os=s.os)(u:Un (frs X.stack) ch H H' s.heap s'.heap)(hok:wK X.prog X.w H' s'.heap)(hg:AllBare s'.gens)
  (hch:∀b∈ch,(b∈X.ex\/X.s₀.heap.objs.size<=b)/\b≠X.env.locals/\(∀x c,X.env.cells.lookup x=some c->c≠b)/\∀p∈X.pn++pins,p.1≠b):Inv X pins σ H' s':=by
 obtain⟨h',g',d',t',o'⟩:=s';have e:o'=s.os:=ho;subst e;exact I.call (g':=g') (t':=t') (d':=d') u hok hg hch
end
meta abbrev XK:=af->Option ak->Hp->Prop
meta abbrev St:=List<|Option V
meta abbrev VK:=V->Hp->Prop
meta abbrev TE:=St->Hp->VK->Prop
meta abbrev TT:=St->Hp->(Bool->Hp->Prop)->Prop
meta abbrev TA:=St->Hp->(List V->Hp->Prop)->Prop
structure Ends where
 nx:St->Hp->Prop
 rt:VK
 bk:St->Hp->Prop:=λ_ _=>False
 ct:St->Hp->Prop:=λ_ _=>False
meta abbrev TS:=Ends->St->Hp->Prop
abbrev EP (X:Cx)(pins:bn)(σ:St)(Q:VK)(u:af)(s':aC):Prop:=∃v H',Inv X pins σ H' s'/\RelV v u/\Q v H'
abbrev TP (X:Cx)(pins:bn)(σ:St)(Q:Bool->Hp->Prop)(b:Bool)(s':aC):Prop:=∃H',Inv X pins σ H' s'/\Q b H'
abbrev AP (X:Cx)(pins:bn)(σ:St)(Q:List V->Hp->Prop)(us:ba)(s':aC):Prop:=∃d H',Inv X pins σ H' s'/\Vals d us/\Q d H'
abbrev SP (X:Cx)(pins:bn)(D:Ends)(f:Flow)(s':aC):Prop:=
 match f with
 | .next=>∃d H',Inv X pins d H' s'/\D.nx d H'
 | .brk=>∃d H',Inv X pins d H' s'/\D.bk d H'
 | .cont=>∃d H',Inv X pins d H' s'/\D.ct d H'
 | .ret u=>∃v d H',Inv X pins d H' s'/\RelV v u/\D.rt v H'
abbrev PE (X:Cx)(e:aE)(t:TE):Prop:=
 ∀(pins:bn) (s:aC) (σ:St) (H:Hp) (Q:VK),Inv X pins σ H s->t σ H Q->wpAny (model X.prog X.w) X.A (eval e X.env) (EP X pins σ Q) X.xe s
abbrev PT (X:Cx)(e:aE)(t:TT):Prop:=
 ∀(pins:bn) (s:aC) (σ:St) (H:Hp) (Q:Bool->Hp->Prop),Inv X pins σ H s->t σ H Q->wpAny (model X.prog X.w) X.A (isTrue e X.env<|eval e X.env) (TP X pins σ Q) X.xe s
abbrev PW (X:Cx)(e:aE)(t:TT):Prop:=
 ∀(d:Sem af) (pins:bn) (s:aC) (σ:St) (H:Hp) (Q:Bool->Hp->Prop),Inv X pins σ H s->t σ H Q->wpAny (model X.prog X.w) X.A (isTrue e X.env d) (TP X pins σ Q) X.xe s
abbrev PA (X:Cx)(es:List aE)(t:TA):Prop:=
 ∀(pos:Pos) (pins:bn) (s:aC) (σ:St) (H:Hp) (Q:List V->Hp->Prop),Inv X pins σ H s->t σ H Q->wpAny (model X.prog X.w) X.A (spliced<|backTo pos<|starEach es X.env) (AP X pins σ Q) X.xe s
abbrev PS (X:Cx)(st:aF)(t:TS):Prop:=
 ∀(pins:bn) (s:aC) (σ:St) (H:Hp) (D:Ends),Inv X pins σ H s->t D σ H->wpAny (model X.prog X.w) X.A (exec st X.env) (SP X pins D) X.xe s
abbrev CI (X:Cx)(st:List aF)(t:TS):Prop:=
 ∀(pins:bn) (s:aC) (σ:St) (H:Hp) (D:Ends),Inv X pins σ H s->t D σ H->wpAny (model X.prog X.w) X.A (execs st X.env) (SP X pins D) X.xe s
def mX{α:Type}{t:Sem α}{Q Q':α->aC->Prop}{A:aA}{E:af->aC->Prop}(h:wpAny M A t Q E s)(hQ:∀a s,Q a s->Q' a s):wpAny M A t Q' E s:=gb h hQ λ_ _ x=>x
section
variable {X:Cx}
abbrev aan (i:Nat):TE:=λσ H Q=>∃v,σ[i]?=some (some v)/\Q v H
abbrev tC (v:V):TE:=λ_ H Q=>Q v H
def Pz{i:Nat}{x:Str}(hN:X.N[i]?=some x)(hv:YJ X.env.scope x)(hd:(x == ("__debug__" : Str))=false:=by decide)(hcd:(x == ("__classdict__" : Str))=false:=by decide):PE X (.Name x pos) (aan i):=by
 gp_on;obtain⟨v,e,h⟩:=h;obtain⟨m,hn,j⟩:=I.loc;obtain⟨u,r,l⟩:=j i x v hN e hv;have fin:EP X pins σ Q u s:=⟨v,H,I,r,h⟩
 rcases l with⟨f,g⟩|⟨f,c,hc,d⟩
 ·exact wpAny_Name (wpAny_loadName_local I.ok.kind f hn g fin) hd
 ·rcases f with f|f
  ·exact wpAny_Name (wpAny_loadName_cell I.ok.kind f hc d fin) hd
  ·exact wpAny_Name (wpAny_loadName_free I.ok.kind f hc d fin hcd) hd
def WB{i j pos}:PE X (.Constant (.int i) j pos) (tC<|.int i):=λ_ _ _ H _ I h=>wpAny_Constant_int ⟨.int i,H,I.tok _,⟨_,rfl⟩,h⟩
def Zs{b j pos}:PE X (.Constant (.bool b) j pos) (tC<|.bl b):=λ_ _ _ H _ I h=>Constant_bool ⟨.bl b,H,I,rfl,h⟩
def X5{j pos}:PE X (.Constant .none j pos) (tC .non):=λ_ _ _ H _ I h=>Constant_none ⟨.non,H,I,rfl,h⟩
abbrev Gl (X:Cx)(x:Str):Prop:=X.env.kindOf x=some .globalImplicit
def J2{E:af->aC->Prop}{H:Hp}{x:Str}{Q:af->aC->Prop}(I:Inv X pins σ H s)(hg:Gl X x)(hm:X.mg x=some u)(h:Q u s)
  (hd:(x == ("__debug__" : Str))=false:=by decide):wpAny (model X.prog X.w) X.A (eval (.Name x pos) X.env) Q E s:=
 Calls.Name_function_global I.ok.kind hg (Calls.loadGlobal_global (by rw[I.ok.glob];exact I.mod.glob.keeps I.bk) hm h) hd
def ye{E:af->aC->Prop}{H:Hp}{x:Str}{Q:af->aC->Prop}(I:Inv X pins σ H s)(hg:Gl X x)(hm:X.mg x=none)(hv:bootBuiltins x=some u)(h:Q u s)
  (hn:x ≠ "__name__" := by decide) (hd:(x == ("__debug__" : Str))=false:=by decide):wpAny (model X.prog X.w) X.A (eval (.Name x pos) X.env) Q E s:=by
 obtain⟨d,h1,h2⟩:=I.mod.blt;exact Calls.Name_function_global I.ok.kind hg (Calls.loadGlobal_builtin (by rw[I.ok.glob];exact I.mod.glob.keeps I.bk) hm (by rw[I.ok.blt];exact h1.keeps I.bk) ((h2 x hn).trans hv) h) hd
def HD{x:Str}{v:V}(hg:Gl X x)(hm:X.mg x=some u)(r:RelV v u)(hd:(x == ("__debug__" : Str))=false:=by decide):PE X (.Name x pos) (tC v):=
 λ_ _ _ H _ I h=>J2 I hg hm ⟨v,H,I,r,h⟩ hd
def SD{x:Str}{v:V}(hg:Gl X x)(hm:X.mg x=none)(hv:bootBuiltins x=some u)(r:RelV v u)(hn:x ≠ "__name__" := by decide)(hd:(x == ("__debug__" : Str))=false:=by decide):PE X (.Name x pos) (tC v):=
 λ_ _ _ H _ I h=>ye I hg hm hv ⟨v,H,I,r,h⟩ hn hd
variable {a b:aE}{ta tb:TE}{pos:Pos}
variable {tA tB':TT}{rest:List aE}
abbrev Zo (t u:TT):TT:=λσ H Q=>t σ H λc H1=>if c=true then u σ H1 Q else Q false H1
abbrev tOr (t u:TT):TT:=λσ H Q=>t σ H λc H1=>if c=true then Q true H1 else u σ H1 Q
abbrev abq (t:TT):TT:=λσ H Q=>t σ H λc H1=>Q (!c) H1
def Q5(ha:PT X a tA):PW X (.BoolOp .And [a] pos) tA:=by
 intro f pins s σ H Q I h;refine isTrue_and (mX (ha pins s σ H Q I h) λc d e=>?_)
 cases c with
 | true=>exact isTrue_and_nil e
 | false=>exact e
def Yi(ha:PT X a tA):PW X (.BoolOp .Or [a] pos) tA:=by
 intro f pins s σ H Q I h;refine isTrue_or (mX (ha pins s σ H Q I h) λc d e=>?_)
 cases c with
 | false=>exact isTrue_or_nil e
 | true=>exact e
def WI(ha:PT X a tA)(hb:PW X (.BoolOp .And (b::rest) pos) tB'):PW X (.BoolOp .And (a::b::rest) pos) (Zo tA tB'):=by
 intro j pins s σ H Q I h;refine isTrue_and (mX (ha pins s σ H _ I h) λc g ⟨H1,d,f⟩=>?_)
 cases c with
 | true=>exact hb j pins g σ H1 Q d f
 | false=>exact⟨H1,d,f⟩
def ZG(ha:PT X a tA)(hb:PW X (.BoolOp .Or (b::rest) pos) tB'):PW X (.BoolOp .Or (a::b::rest) pos) (tOr tA tB'):=by
 intro j pins s σ H Q I h;refine isTrue_or (mX (ha pins s σ H _ I h) λc g ⟨H1,d,f⟩=>?_)
 cases c with
 | true=>exact⟨H1,d,f⟩
 | false=>exact hb j pins g σ H1 Q d f
def Yp(ha:PT X a tA):PT X (.UnaryOp .Not a pos) (abq tA):=by
 gp_on;exact isTrue_not<|ha pins s σ H (λc H1=>Q (!c) H1) I h
abbrev aak (ta tb:TE):TE:=λσ H Q=>ta σ H λx H1=>∃c,x=.bl c/\if c=true then tb σ H1 Q else Q (.bl false) H1
abbrev Zz (ta:TE):TE:=λσ H Q=>ta σ H λx H1=>∃c,x=.bl c/\Q (.bl<|!c) H1
def WZ{op}{t:TE}(h:PE X a t):PE X (.BoolOp op [a] pos) t:=λpins s σ H Q I hw=>BoolOp_one<|h pins s σ H Q I hw
def V3(ha:PE X a ta)(hb:PE X (.BoolOp .And (b::rest) pos) tb):PE X (.BoolOp .And (a::b::rest) pos) (aak ta tb):=by
 gp_on;refine BoolOp_and<|mX (ha pins s σ H _ I h) λv g ⟨x,H1,f,r1,d⟩=>?_;obtain⟨c,rfl,d⟩:=d
 cases r1
 refine dh ?_
 cases c with
 | true=>exact hb pins g σ H1 Q f d
 | false=>exact⟨.bl false,H1,f,rfl,d⟩
def X6(ha:PE X a ta):PE X (.UnaryOp .Not a pos) (Zz ta):=by
 gp_on;refine UnaryOp_<|mX (ha pins s σ H _ I h) λv g ⟨x,H1,f,r1,d⟩=>?_;obtain⟨c,rfl,d⟩:=d
 cases r1
 exact not_of<|dh ⟨.bl<|!c,H1,f,rfl,d⟩
end
abbrev qK (K:au)(H:Hp)(a:ak)(xs:List V):Prop:=
 Rd H a (.lst xs) \/
  ∃(o:Obj) (d:Array af) (n:Nat),K.lookup a=some o/\o.cls=.type "list" /\ o.dict=none/\o.data=.seq d n/\d.size<=sizeLine/\Vals xs d.toList
abbrev nF (K:au)(H:Hp)(a:ak)(xs:List V):Prop:=
 Rd H a (.tup xs) \/
  ∃(o:Obj) (d:Array af) (n:Nat),K.lookup a=some o/\o.cls=.type "tuple" /\ o.dict=none/\o.data=.seq d n/\d.size<=sizeLine/\Vals xs d.toList
abbrev abU:af->Option V
 | .none=>some .non
 | .bool b=>some (.bl b)
 | .int i _=>some (.int i)
 | .str x _=>some (.str x)
 | .bytes b _=>some (.byt b)
 | .float b _=>some (.flt b)
 | .ref a=>some (.ref a)
 | .type n=>some (.ty n)
 | _=>none
def RelV.abs{x:V}(r:RelV x u):abU u=some x:=by
 cases x with
 | non=>cases r;rfl
 | bl _=>cases r;rfl
 | int _=>obtain⟨t,rfl⟩:=r;rfl
 | str _=>obtain⟨t,rfl⟩:=r;rfl
 | byt _=>obtain⟨t,rfl⟩:=r;rfl
 | flt _=>obtain⟨t,rfl⟩:=r;rfl
 | ref _=>cases r;rfl
 | ty _=>cases r;rfl
def RelV.inj{x:V}(r:RelV x u)(q:RelV y u):x=y:=bf<|r.abs.symm.trans q.abs
theorem Vals.inj:∀{xs ys:List V}{us:ba},Vals xs us->Vals ys us->xs=ys
 | _,_,_,.nil,.nil=>rfl
 | _,_,_,.cons r t,.cons f d=>by rw[r.inj f,Vals.inj t d]
section
variable {X:Cx}{pins:bn}{σ:St}{H:Hp}{s:aC}{a:ak}{xs ys:List V}
def qK.of{K:au}(h:H a=some (.lst xs)):qK K H a xs:=.inl<|.inl h
def nF.of{K:au}(h:H a=some (.tup xs)):nF K H a xs:=.inl<|.inl h
def Inv.list(I:Inv X pins σ H s)(h:qK X.K H a xs):∃its:ba,Vals xs its/\PlainL s.heap a its.toArray/\xs.length<=sizeLine:=by
 rcases h with h|⟨o,its,n,d,hc,f,hs,g,r⟩
 ·obtain⟨z,its,n,r,e⟩:=h.ok I.hok;exact⟨its,r,⟨_,n,e,rfl,rfl,rfl⟩,z⟩
 ·refine⟨its.toList,r,⟨o,n,I.D3 a o d,hc,f,by simpa using hs⟩,?_⟩;have e:=r.length;dsimp[d9]at e
  lia
def Inv.tuple(I:Inv X pins σ H s)(h:nF X.K H a xs):∃its:ba,Vals xs its/\IsTup s.heap a its.toArray/\xs.length<=sizeLine:=by
 rcases h with h|⟨o,its,n,d,hc,_,hs,f,r⟩
 ·obtain⟨z,its,r,p⟩:=h.ok I.hok;exact⟨its,r,p.tup,z⟩
 ·refine⟨its.toList,r,⟨o,I.D3 a o d,hc,n,by simpa using hs⟩,?_⟩;have e:=r.length;dsimp[d9]at e
  lia
def Inv.MF(I:Inv X pins σ H s)(h:qK X.K H a xs)(h':qK X.K H a ys):xs=ys:=by
 obtain⟨g,r,⟨o,n,e,_,_,d⟩,_⟩:=I.list h;obtain⟨f,q,⟨o',t,k,_,_,j⟩,_⟩:=I.list h';rw[e]at k;cases k;rw[d]at j
 injection j with p _
 have:g=f:=by simpa using c7 Array.toList p
 subst this;exact r.inj q
def Inv.yi(I:Inv X pins σ H s)(h:nF X.K H a xs)(h':nF X.K H a ys):xs=ys:=by
 obtain⟨g,r,⟨o,e,_,n,d⟩,_⟩:=I.tuple h;obtain⟨f,q,⟨o',k,_,t,j⟩,_⟩:=I.tuple h';rw[e]at k;cases k;rw[d]at j
 injection j with p _
 have:g=f:=by simpa using c7 Array.toList p
 subst this;exact r.inj q
end
meta abbrev Cx.AU (X:Cx)(E:af->aC->Prop):Cx:={ X with xe:=E }
meta abbrev Cx.nox (X:Cx):Cx:=X.AU λ_ _=>False
def Cx.Ok.AU{X:Cx}(ok:X.Ok)(E:af->aC->Prop):(X.AU E).Ok:=
 ⟨ok.mod,ok.kind,ok.glob,ok.blt,ok.above,ok.inj,ok.has,ok.cab,ok.hd,ok.frames,ok.stk,ok.exf,ok.bs,ok.bsz,ok.noex,ok.exfs,ok.Aq,ok.frf⟩
def Cx.Ok.u7{X:Cx}{E:af->aC->Prop}(ok:(X.AU E).Ok):X.Ok:=
 ⟨ok.mod,ok.kind,ok.glob,ok.blt,ok.above,ok.inj,ok.has,ok.cab,ok.hd,ok.frames,ok.stk,ok.exf,ok.bs,ok.bsz,ok.noex,ok.exfs,ok.Aq,ok.frf⟩
section
variable {X:Cx}{pins:bn}{σ:St}{H:Hp}{s:aC}{E:af->aC->Prop}
def Inv.AU(I:Inv X pins σ H s)(E:af->aC->Prop):Inv (X.AU E) pins σ H s:=⟨I.ok.AU E,I.os,I.bare,I.base,I.loc,I.cell,I.free,I.freeC,I.pin,I.hok,I.len⟩
def Inv.u7(I:Inv (X.AU E) pins σ H s):Inv X pins σ H s:=⟨I.ok.u7,I.os,I.bare,I.base,I.loc,I.cell,I.free,I.freeC,I.pin,I.hok,I.len⟩
def SP.u7{D:Ends}{f:Flow}(h:SP (X.AU E) pins D f s'):SP X pins D f s':=by
 cases f with
 | next=>obtain⟨d,H',I,q⟩:=h;exact⟨d,H',I.u7,q⟩
 | brk=>obtain⟨d,H',I,q⟩:=h;exact⟨d,H',I.u7,q⟩
 | cont=>obtain⟨d,H',I,q⟩:=h;exact⟨d,H',I.u7,q⟩
 | ret u=>obtain⟨v,d,H',I,r,q⟩:=h;exact⟨v,d,H',I.u7,r,q⟩
def CI.nox{st:List aF}{t:TS}(h:CI X.nox st t):CI X st t:=λpins s σ H D I hw=>
 gb (h pins s σ H D (I.AU _) hw) (λ_ _ q=>q.u7) λ_ _ z=>False.elim z
end
section
variable {X:Cx}{st:aF}{rest:List aF}{t u:TS}{e:aE}{te:TE}{pos:Pos}
abbrev Zm:TS:=λD σ H=>D.nx σ H
abbrev Zp (t u:TS):TS:=λD σ H=>t { D with nx:=u D } σ H
def T8:CI X [] Zm:=λ_ _ σ H _ I h=>iM ⟨σ,H,I,h⟩
def Oo(h1:PS X st t)(h2:CI X rest u):CI X (st::rest) (Zp t u):=by
 o_rec;refine wpAny_execs_cons (mX (h1 pins s σ H { D with nx:=u D } I h) λf j q=>?_)
 cases f with
 | next=>
  obtain⟨d,H',g,q⟩:=q;exact h2 pins j d H' D g q
 | ret v=>exact q
 | brk=>exact q
 | cont=>exact q
def Rb(h1:PS X st t):CI X [st] t:=by
 o_rec;refine wpAny_execs_cons (mX (h1 pins s σ H D I h) λf d q=>?_)
 cases f with
 | next=>exact iM q
 | ret v=>exact q
 | brk=>exact q
 | cont=>exact q
def Inv.quiet{H:Hp}(I:Inv X pins σ H s):interactive X.env=false:=by simp[interactive,I.ok.kind]
abbrev Z4 (te:TE):TS:=λD σ H=>te σ H λ_ H1=>D.nx σ H1
def RK(he:PE X e te)(hs:swapsWith e none pos.line X.env=pure false:=by rfl):PS X (.Expr e pos) (Z4 te):=by
 o_rec;exact wpAny_Expr_any (mX (he pins s σ H _ I h) λv g ⟨x,H1,d,r1,f⟩=>⟨σ,H1,d,f⟩) I.quiet hs
abbrev abX (te:TE):TS:=λD σ H=>te σ H D.rt
def Yn(he:PE X e te):PS X (.Return (some e) pos) (abX te):=by
 o_rec;exact wpAny_Return_some<|mX (he pins s σ H _ I h) λv g ⟨x,H1,d,r1,f⟩=>⟨x,σ,H1,d,r1,f⟩
abbrev abz (c:TT)(t u:TS):TS:=λD σ H=>c σ H λb H1=>if b=true then t D σ H1 else u D σ H1
def ZX{c:aE}{a:List aF}{tc:TT}(hc:PT X c tc)(ha:CI X a t)(hb:CI X b u):PS X (.If c a b pos) (abz tc t u):=by
 o_rec;refine wpAny_If (mX (hc pins s σ H _ I h) λd g ⟨H1,f,j⟩=>?_)
 cases d with
 | true=>exact ha pins g σ H1 D f j
 | false=>exact hb pins g σ H1 D f j
abbrev VR:TS:=λ_ _ _=>False
def NQ:PS X st VR:=λ_ _ _ _ _ _ h=>h.elim
end
meta abbrev TG:=V->St->Hp->(St->Hp->Prop)->Prop
meta abbrev Vx:=List V->St->Hp->(St->Hp->Prop)->Prop
abbrev PG (X:Cx)(target:aE)(t:TG):Prop:=
 ∀(pins:bn) (s:aC) (σ:St) (H:Hp) (v:V) (u:af) (Q:St->Hp->Prop),Inv X pins σ H s->RelV v u->t v σ H Q ->
  wpAny (model X.prog X.w) X.A (assign target X.env u) (λ_ s'=>∃d H',Inv X pins d H' s'/\Q d H') X.xe s
abbrev Zy (X:Cx)(ts:List aE)(t:Vx):Prop:=
 ∀(pins:bn) (s:aC) (σ:St) (H:Hp) (f:List V) (us:ba) (Q:St->Hp->Prop),Inv X pins σ H s->Vals f us->t f σ H Q ->
  wpAny (model X.prog X.w) X.A (assignInOrder ((assignEach ts X.env).map (·.2)) us) (λ_ s'=>∃d H',Inv X pins d H' s'/\Q d H') X.xe s
meta abbrev Hi:=V->V->V->Hp->(Hp->Prop)->Prop
abbrev E3 (X:Cx)(t:Hi):Prop:=
 ∀(pins:bn) (s:aC) (σ:St) (H:Hp) (o i v:V) (d iv u:af) (Q:Hp->Prop),Inv X pins σ H s->RelV o d->RelV i iv->RelV v u->t o i v H Q ->
  wpAny (model X.prog X.w) X.A (setItem d iv u) (λ_ s'=>∃H',Inv X pins σ H' s'/\Q H') X.xe s
meta abbrev TIp:=V->V->Hp->VK->Prop
abbrev PIp (X:Cx)(op:Operator)(t:TIp):Prop:=
 ∀(pins:bn) (s:aC) (σ:St) (H:Hp) (x y:V) (v u:af) (Q:VK),Inv X pins σ H s->RelV x v->RelV y u->t x y H Q ->
  wpAny (model X.prog X.w) X.A (inplaceOp op v u) (EP X pins σ Q) X.xe s
section
variable {X:Cx}{pos:Pos}
abbrev ME (i:Nat):TG:=λv σ H Q=>Q (σ.set i<|some v) H
def IQ{i:Nat}{x:Str}(hN:X.N.Nodup)(hi:X.N[i]?=some x)(hx:Loc X.env.scope x)(hf:X.fn x=true\/X.env.scope.names.lookup x=some .local:=by first|exact .inl rfl|exact .inr rfl|assumption):PG X (.Name x pos) (ME i):=by
 intro pins s σ H v u Q I r h;exact wpAny_assign_Name<|Az I hN hi hx r (λs' d=>⟨_,H,d,h⟩) hf
abbrev abL:Vx:=λd σ H Q=>d=[]/\Q σ H
abbrev aas (t:TG)(u:Vx):Vx:=λf σ H Q=>∃v r,f=v::r/\t v σ H λd H'=>u r d H' Q
def Uk:Zy X [] abL:=by
 intro pins s σ H d us Q I r h;obtain⟨e,h⟩:=h;subst e
 cases r
 exact assignInOrder_nil ⟨σ,H,I,h⟩
def QG{e:aE}{t:TG}{u:Vx}(h1:PG X e t)(h2:Zy X es u)
  (hs:(assignEach (e::es) X.env).map (·.2)=assign e X.env::(assignEach es X.env).map (·.2):=by rfl):Zy X (e::es) (aas t u):=by
 intro pins s σ H q us Q I r h;obtain⟨v,p,e1,h⟩:=h;subst e1
 cases r with
 | cons r f=>
  rw[hs];refine assignInOrder_cons<|mX (h1 pins s σ H _ _ _ I r h) λ_ k ⟨d,H1,j,g⟩=>?_;exact h2 pins k d H1 _ _ Q j f g
abbrev abg (K:au)(n:Nat)(t:Vx):TG:=λv σ H Q=>∃a xs,v=.ref a/\nF K H a xs/\xs.length=n/\t xs σ H Q
def YD{k:Nat}{t:Vx}{n:Nat}(hc:X.calm=true)(h:Zy X es t)
  (hn:(assignEach es X.env).length=n:=by rfl) (hst:(assignEach es X.env).findIdx? (·.1)=none:=by rfl):PG X (.Tuple es k pos) (abg X.K n t):=by
 intro pins s σ H v u Q I r hw;obtain⟨a,xs,e1,hq,g,hw⟩:=hw;subst e1
 cases r
 obtain⟨f,d,j,z⟩:=I.tuple hq;refine assign_Tuple_tuple (I.ok.hd hc) j (by simp[hn,<- g,d.length]) hst λh' q=>?_;have p:Inv X pins σ H { s with heap:=h' }:=I.kept (t':=s.toks) λb o e=>q b o (bE<|bh e) e;exact h pins _ σ H xs _ Q p (by simpa using d) hw
abbrev aa6 (to ti:TE)(t:Hi):TG:=λv σ H Q=>to σ H λo H1=>ti σ H1 λi H2=>t o i v H2 λH3=>Q σ H3
def Dw{to ti:TE}{t:Hi}(ho:PE X o to)(hi:PE X i ti)(hs:E3 X t)
  (ha:∀v,assign (.Subscript o i pos) X.env v=(do
   let ov <- holding [v] (eval o X.env)
   let iv <- holding [v,ov] (eval i X.env)
   standAt pos
   holding [v,ov,iv] (setItem ov iv v)
   release [v,ov,iv] []):=by intro _;rfl):PG X (.Subscript o i pos) (aa6 to ti t):=by
 intro pins s σ H v u Q I r h;rw[ha];refine aH<|c8<|mX (ho pins s σ H _ I h) λov z ⟨x,H1,p,r1,j⟩=>?_;refine aH<|c8<|mX (hi pins z σ H1 _ p j) λiv q ⟨y,H2,g,r2,k⟩=>?_;refine aH<|fW<|aH<|c8<|mX (hs pins q σ H2 x y v ov iv u _ g r1 r2 r k) λ_ B ⟨H3,f,d⟩=>?_;exact wpAny_release ⟨σ,H3,f,d⟩
abbrev Ro (te:TE)(g:TG):TS:=λD σ H=>te σ H λx H1=>g x σ H1 D.nx
def Wk{tg e:aE}{te:TE}{g:TG}(he:PE X e te)(hg:PG X tg g)(hs:swapsWithSole [tg] e pos.line X.env=pure false:=by rfl)(hw:swappedStores [tg] e X.env=pure none:=by rfl)
  (h1:(assignEach [tg] X.env).map (·.2)=[assign tg X.env]:=by rfl):PS X (.Assign [tg] e pos) (Ro te g):=by
 o_rec;refine wpAny_Assign_stores (mX (he pins s σ H _ I h) λv f ⟨x,H1,d,r1,j⟩=>?_) hs hw;rw[h1];exact mX (hg pins f σ H1 x v _ d r1 j) λ_ k q=>q
def Wn{i:Nat}{x:Str}{e:aE}{te:TE}(hN:X.N.Nodup)(hi:X.N[i]?=some x)(hx:Loc X.env.scope x)(he:PE X e te)(hs:swapsWith e (some<|.Name x pos') pos.line X.env=pure false:=by rfl)(hf:X.fn x=true\/X.env.scope.names.lookup x=some .local:=by first|exact .inl rfl|exact .inr rfl|assumption) :
  PS X (.Assign [.Name x pos'] e pos) (Ro te<|ME i):=by
 o_rec;refine wpAny_Assign_Name (mX (he pins s σ H _ I h) λv j ⟨y,H1,d,r1,g⟩=>?_) hs;exact Az d hN hi hx r1 (λk f=>⟨_,H1,f,g⟩) hf
abbrev abp (i:Nat)(te:TE)(ti:TIp):TS:=λD σ H=>∃x,σ[i]?=some (some x)/\te σ H λy H1=>ti x y H1 λz H2=>D.nx (σ.set i<|some z) H2
def Xo{i:Nat}{x:Str}{e:aE}{te:TE}{ti:TIp}(hN:X.N.Nodup)(hi:X.N[i]?=some x)(hx:Loc X.env.scope x)(he:PE X e te)(ho:PIp X op ti)(hf:X.fn x=true\/X.env.scope.names.lookup x=some .local:=by first|exact .inl rfl|exact .inr rfl|assumption) :
  PS X (.AugAssign (.Name x pos') op e pos) (abp i te ti):=by
 o_rec;obtain⟨v,e1,h⟩:=h;obtain⟨m,hn,G⟩:=I.loc;have p:YJ X.env.scope x:=by rcases hx with k|k;exact .inl k;exact .inr (.inl k)
 obtain⟨u,r,l⟩:=G i x v hi e1 p;refine wpAny_AugAssign_Name ?_;have q:wpAny (model X.prog X.w) X.A (eval e X.env) (λw j=>wpAny (model X.prog X.w) X.A (inplaceOp op u w) (λr g=>wpAny (model X.prog X.w) X.A (storeName X.env x r) (λ_=>SP X pins D .next) X.xe g) X.xe j) X.xe s:=by
  refine mX (he pins s σ H _ I h) λw L ⟨y,H1,J,r1,C⟩=>?_;refine mX (ho pins L σ H1 v y u w _ J r r1 C) λz M ⟨P,H2,B,r2,F⟩=>?_;exact Az B hN hi hx r2 (λO t=>⟨_,H2,t,F⟩) hf
 rcases l with⟨d,K⟩|⟨d,c,hc,f⟩
 ·exact wpAny_loadName_local I.ok.kind d hn K q
 ·rcases d with d|d
  ·exact wpAny_loadName_cell I.ok.kind d hc f q
  ·rcases hx with k|k
   ·have:X.env.scope.names.lookup x=some .free:=d;rw[k]at this;cases this
   ·have:X.env.scope.names.lookup x=some .free:=d;rw[k]at this;cases this
end
section
variable {X:Cx}{pos:Pos}
abbrev QT (c:TT)(tb:TS):TS:=λD σ H=>∃W:Nat->St->Hp->Prop,(∃m,W m σ H)/\∀m σ H,W m σ H ->
 c σ H λb H1=>if b=true then ∃N:St->Hp->Prop,(∀d H',N d H'->∃f,f<m/\W f d H')/\tb { D with nx:=N,ct:=N,bk:=D.nx } σ H1 else D.nx σ H1
def Qw{c:aE}{tc:TT}{tb:TS}(hp:PassesOwn (model X.prog X.w) X.A X.env X.xe)(hc:PT X c tc)(hb:CI X body tb):PS X (.While c body [] pos) (QT tc tb):=by
 o_rec;obtain⟨W,⟨O,K⟩,turn⟩:=h;refine wpAny_While<|codeAny_whileLoop (λn s'=>∃j H',Inv X pins j H' s'/\W n j H') ?_ O ⟨σ,H,I,K⟩;rintro n P ⟨g,H1,J,M⟩;refine eX hp (mX (hc pins P g H1 _ J<|turn n g H1 M) λb L ⟨H2,F,p⟩=>?_)
 cases b with
 | true=>
  obtain⟨N,G,p⟩:=p;rw[aN rfl];refine eX hp (mX (hb pins L g H2 _ F p) λf T k=>?_)
  cases f with
  | next=>
   obtain⟨d,H3,C,t⟩:=k;obtain⟨z,B,q⟩:=G d H3 t;exact⟨z,B,d,H3,C,q⟩
  | cont=>
   obtain⟨d,H3,C,t⟩:=k;obtain⟨z,B,q⟩:=G d H3 t;exact⟨z,B,d,H3,C,q⟩
  | brk=>exact k
  | ret v=>exact k
 | false=>
  rw[aM bN];exact iM ⟨g,H2,F,p⟩
end
structure It where
 go:Nat->Hp->Prop
 yld:Nat->Hp->V->Hp->Prop
 stop:Nat->Hp->Prop
abbrev vH (X:Cx)(pins:bn)(H:Hp)(b:ak):Prop:=
 H b=none/\b≠X.env.locals/\b∉X.fs/\(b∈X.ex\/X.s₀.heap.objs.size<=b)/\(∀x c,X.env.cells.lookup x=some c->c≠b)/\∀p∈X.pn++pins,p.1≠b
def Inv.DS{X:Cx}{H H':Hp}{s:aC}(I:Inv X pins σ H s)(hb:s.heap.objs.size<=b)(hn:H' b=none):vH X pins H' b:=by
 refine⟨hn,jo<|bR I.lt hb,I.abm hb,.inr<|bH I.sz hb,λx c e z=>?_,λp d z=>?_⟩
 ·obtain⟨v,q⟩:=I.cell x c e;exact absurd (bR q.lt<|by rw[z];exact hb) (fV _)
 ·exact absurd (bR (bh (I.pin p d).1)<|by rw[z];exact hb)<|fV _
structure Turn (P:aj)(w:ah)(K:au)(tg:aE)(J:It)(fp:bb)(it:ak)(tn:Nat->aq->Prop):Prop where
 mem:it∈fp
 obj:∀i h,tn i h->∀b∈fp,∃o,h.get? b=some o/\∀v,o.data≠.cell v
 keep:∀i h h',tn i h->(∀b∈fp,∀o,h.get? b=some o->h'.get? b=some o)->tn i h'
 item:∀(X:Cx),X.prog=P->X.w=w->X.K=K->X.calm=true->∀(i:Nat) (pins:bn) (s:aC) (σ:St) (H:Hp) (E:af->aC->Prop),Inv X pins σ H s->(∀b∈fp,vH X pins H b)->tn i s.heap->J.go i H ->
  wpAny (model P w) X.A (pyNext<|.ref it) (λr s1=>∃u,r=some u /\
   wpAny (model P w) X.A (letOwnedTupleGo tg (.ref it) u) (λ_ s2=>∃x H',Inv X pins σ H' s2/\RelV x u/\J.yld i H x H'/\tn (i+1) s2.heap/\∀b∈fp,H' b=none) E s1) E s
 done:∀(X:Cx),X.prog=P->X.w=w->X.K=K->X.calm=true->∀(i:Nat) (pins:bn) (s:aC) (σ:St) (H:Hp) (E:af->aC->Prop),Inv X pins σ H s->(∀b∈fp,vH X pins H b)->tn i s.heap->J.stop i H ->
  wpAny (model P w) X.A (pyNext<|.ref it) (λr s1=>r=none/\Inv X pins σ H s1) E s
 self:∀(A:aA) (i:Nat) (s:aC) (Q:af->aC->Prop) (E:af->aC->Prop),tn i s.heap->Q (.ref it) s->wpAny (model P w) A (pyIter<|.ref it) Q E s
meta abbrev TI:=St->Hp->(It->Hp->Prop)->Prop
abbrev PIE (X:Cx)(pins:bn)(σ:St)(tg:aE)(R:It->Hp->Prop)(itv:af)(s2:aC):Prop:=
 ∃(it:ak) (d:bb) (f:Nat->aq->Prop) (J:It) (H':Hp),itv=.ref it/\Inv X pins σ H' s2/\Turn X.prog X.w X.K tg J d it f/\f 0 s2.heap/\(∀b∈d,vH X pins H' b)/\R J H'
abbrev PI (X:Cx)(tg iter:aE)(wi:TI):Prop:=
 ∀(pins:bn) (s:aC) (σ:St) (H:Hp) (R:It->Hp->Prop),Inv X pins σ H s->wi σ H R ->
  wpAny (model X.prog X.w) X.A (eval iter X.env) (λv d=>wpAny (model X.prog X.w) X.A (pyIter v) (PIE X pins σ tg R) X.xe d) X.xe s
def FG{A:aA}{E:af->aC->Prop}{s:aC}{o:Obj}{n:String}{Q:Unit->aC->Prop}(ho:s.heap.get? it=some o)(hc:o.cls=.type n)(hd:o.data=.fields vs)
  (hn:["enumerate", "zip", "dict_itemiterator", "dict_reverseitemiterator", "odict_iterator", "itertools.zip_longest", "itertools.pairwise"].contains n=false) (hQ:Q Unit.unit s):wpAny M A (letOwnedTupleGo tg (.ref it) u) Q E s:=by
 unfold letOwnedTupleGo
 cases tg<;>first
  | exact aR hQ
  | (cases u<;>first
    | exact aR hQ
    | (refine aH (wpAny_load ho ?_)
       rw[hc,hd];show wpAny M A (if (["enumerate", "zip", "dict_itemiterator", "dict_reverseitemiterator", "odict_iterator", "itertools.zip_longest", "itertools.pairwise"].contains n && vs[0]? == some (rawInt _))=true then _ else _) Q E s;rw[aM<|by intro h;rw[hn,Bool.false_and]at h;cases h];exact aR hQ))
abbrev Itl (K:au)(a:ak):It:=
 ⟨λi H=>∃xs x,qK K H a xs/\xs[i]?=some x,λi H x H'=>H'=H/\∀xs,qK K H a xs->xs[i]?=some x,λi H=>∃xs,qK K H a xs/\xs.length<=i⟩
abbrev Itt (K:au)(a:ak):It:=
 ⟨λi H=>∃xs x,nF K H a xs/\xs[i]?=some x,λi H x H'=>H'=H/\∀xs,nF K H a xs->xs[i]?=some x,λi H=>∃xs,nF K H a xs/\xs.length<=i⟩
abbrev Itr (lo:Int)(n:Nat):It:=⟨λi _=>i<n,λi H x H'=>H'=H/\x=.int (lo+i),λi _=>n<=i⟩
def Ls{P:aj}{w:ah}{K:au}(a it:ak):Turn P w K tg (Itl K a) [it] it (λi h=>h.IsListIter it a i) where
 mem:=by simp
 obj:=λi h st b hb=>by
  have e:b=it:=by simpa using hb
  subst e;obtain⟨o,e,c,d⟩:=st;exact⟨o,e,λv z=>by rw[d]at z;cases z⟩
 keep:=λi h h' st k=>st.at λo e=>k it (by simp) o e
 item:=by
  w_up;subst hP hw hK;obtain⟨xs,x,hq,q⟩:=hg;obtain⟨g,j,p,J⟩:=I.list hq;obtain⟨u,C,F⟩:=j.get q;kpf_c;refine wpAny_pyNext_list_item st p.isList (x:=u) (by simpa using C) λh' f G=>?_;have B:Inv X pins σ H { s with heap:=h' }:=I.turned (t':=s.toks) (λb o hb e=>(G.2 b hb).trans e) f0 f1 f3 f4 f5;obtain⟨o,e,c,d⟩:=id f;exact⟨u,rfl,FG (s:={ s with heap:=h' }) e c d ⋯ ⟨x,H,B,F,⟨rfl,λys hy=>by rw[I.MF hy hq];exact q⟩,f,λb hb=>(hf b hb).1⟩⟩
 done:=by
  w_up;subst hP hw hK;obtain⟨xs,hq,q⟩:=hg;obtain⟨g,j,p,J⟩:=I.list hq;kpf_c;have L:=j.length;exact wpAny_pyNext_list_end (I.ok.hd hc) st p.isList (by simp;omega) λh' t=>⟨rfl,I.turned (t':=s.toks) (λb o hb e=>t b o hb e) f0 f1 f3 f4 f5⟩
 self:=λ_ _ _ _ _ st h=>wpAny_pyIter_listiter st h
def Gs{P:aj}{w:ah}{K:au}(a it:ak):Turn P w K tg (Itt K a) [it] it (λi h=>h.IsTupleIter it a i) where
 mem:=by simp
 obj:=λi h st b hb=>by
  have e:b=it:=by simpa using hb
  subst e;obtain⟨o,e,c,d⟩:=st;exact⟨o,e,λv z=>by rw[d]at z;cases z⟩
 keep:=λi h h' st k=>st.at λo e=>k it (by simp) o e
 item:=by
  w_up;subst hP hw hK;obtain⟨xs,x,hq,q⟩:=hg;obtain⟨f,j,p,J⟩:=I.tuple hq;obtain⟨u,C,F⟩:=j.get q;kpf_c;refine wpAny_pyNext_tuple_item st (show s.heap.IsTuple a f.toArray from p) (x:=u) (by simpa using C) λh' g G=>?_;have B:Inv X pins σ H { s with heap:=h' }:=I.turned (t':=s.toks) (λb o hb e=>(G.2 b hb).trans e) f0 f1 f3 f4 f5;obtain⟨o,e,c,d⟩:=id g;exact⟨u,rfl,FG (s:={ s with heap:=h' }) e c d ⋯ ⟨x,H,B,F,⟨rfl,λys hy=>by rw[I.yi hy hq];exact q⟩,g,λb hb=>(hf b hb).1⟩⟩
 done:=by
  w_up;subst hP hw hK;obtain⟨xs,hq,q⟩:=hg;obtain⟨f,j,p,J⟩:=I.tuple hq;kpf_c;have L:=j.length;exact wpAny_pyNext_tuple_end (I.ok.hd hc) st (show s.heap.IsTuple a f.toArray from p) (by simp;omega) λh' t=>⟨rfl,I.turned (t':=s.toks) (λb o hb e=>t b o hb e) f0 f1 f3 f4 f5⟩
 self:=λ_ _ _ _ _ st h=>wpAny_pyIter_tupleiter st h
def Ge{P:aj}{w:ah}{K:au}(it:ak)(lo:Int)(n:Nat):Turn P w K tg (Itr lo n) [it] it (λi h=>IsRangeIter h it (lo+(i:Nat) * 1) ((n:Int)-(i:Nat)) 1) where
 mem:=by simp
 obj:=λi h st b hb=>by
  have e:b=it:=by simpa using hb
  subst e;exact⟨_,st,λv z=>by
   have q:Data.fields _=Data.cell v:=z
   cases q⟩
 keep:=λi h h' st k=>k it (by simp) _ st
 item:=by
  w_up;subst hP hw hK;kpf_c;have W:=Walks.range (prog:=X.prog) (w:=X.w) (I.ok.hd hc) it lo 1 n;refine W.item i s _ _ hg st λv h' f hv d g=>?_;obtain⟨t,rfl⟩:=hv;have p:Inv X pins σ H { s with heap:=h',toks:=f }:=I.turned (λb o hb e=>g b o (by simpa using hb) e) f0 f1 f3 f4 f5;refine⟨_,rfl,FG (s:={ s with heap:=h',toks:=f }) (n := "range_iterator") d rfl rfl ⋯ ⟨.int<|lo+i,H,p,⟨t,?_⟩,⟨rfl,rfl⟩,d,λb hb=>(hf b hb).1⟩⟩;rw[Int.mul_one]
 done:=by
  w_up;subst hP hw hK;kpf_c;exact wpAny_pyNext_range_end (I.ok.hd hc) st (by have:n<=i:=hg;lia) λh' j=>⟨rfl,I.turned (t':=s.toks) (λb o hb e=>j b o hb e) f0 f1 f3 f4 f5⟩
 self:=λ_ _ _ _ _ st h=>wpAny_pyIter_rangeiter st h
section
variable {X:Cx}{tg:aE}
abbrev Zb (K:au)(tl:TE):TI:=λσ H R=>tl σ H λx H1=>∃a,x=.ref a/\(∃xs,qK K H1 a xs)/\R (Itl K a) H1
abbrev abF (K:au)(tl:TE):TI:=λσ H R=>tl σ H λx H1=>∃a,x=.ref a/\(∃xs,nF K H1 a xs)/\R (Itt K a) H1
def Jd{l:aE}{tl:TE}(hl:PE X l tl):PI X tg l (Zb X.K tl):=by
 intro pins s σ H R I h;refine mX (hl pins s σ H _ I h) λv d ⟨x,H1,I1,r1,f⟩=>?_;obtain⟨a,e,⟨xs,hq⟩,q⟩:=f;subst e
 cases r1
 obtain⟨g,j,p,k⟩:=I1.list hq;refine gR p.isList ?_;refine⟨d.heap.objs.size,[d.heap.objs.size],_,_,H1,rfl,I1.kept (t':=d.toks) λb o e=>aV _ e,Ls a _,⟨_,bA _ rfl,rfl,rfl⟩,λb hb=>?_,q⟩;have e:b=d.heap.objs.size:=by simpa using hb
 subst e;exact I1.DS (aK _)<|I1.hok.fresh<|aK _
def PR{l:aE}{tl:TE}(hl:PE X l tl):PI X tg l (abF X.K tl):=by
 intro pins s σ H R I h;refine mX (hl pins s σ H _ I h) λv d ⟨x,H1,I1,r1,g⟩=>?_;obtain⟨a,e,⟨xs,hq⟩,q⟩:=g;subst e
 cases r1
 obtain⟨f,j,p,k⟩:=I1.tuple hq;refine gJ (show d.heap.IsTuple a f.toArray from p) ?_;refine⟨d.heap.objs.size,[d.heap.objs.size],_,_,H1,rfl,I1.kept (t':=d.toks) λb o e=>aV _ e,Gs a _,⟨_,bA _ rfl,rfl,rfl⟩,λb hb=>?_,q⟩;have e:b=d.heap.objs.size:=by simpa using hb
 subst e;exact I1.DS (aK _)<|I1.hok.fresh<|aK _
def EJ{H:Hp}{s:aC}{R:It->Hp->Prop}{E:af->aC->Prop}{lo hi:Int}{t v:Tok}{tk:Nat}(I:Inv X pins σ H s)(h1:-(2 ^ 62)<=lo)(h2:lo<2 ^ 62)(h3:-(2 ^ 62)<=hi)(h4:hi<2 ^ 62)
  (q:R (Itr lo (hi-lo).toNat) H):wpAny (model X.prog X.w) X.A (pyIter<|.ref s.heap.objs.size) (PIE X pins σ tg R) E { s with heap:=s.heap.push { cls:=.type "range",data:=.fields #[.int lo t,.int hi u,.int 1 v]},toks:=tk }:=by
 refine wpAny_pyIter_range (IsRange.new ..) (small_one h1 h2 h3 h4) ?_;have I1:Inv X pins σ H { s with heap:=s.heap.push { cls:=.type "range",data:=.fields #[.int lo t,.int hi u,.int 1 v]},toks:=tk }:=I.kept λb o e=>aV _ e;refine⟨(s.heap.push { cls:=.type "range",data:=.fields #[.int lo t,.int hi u,.int 1 v]}).objs.size,[(s.heap.push { cls:=.type "range",data:=.fields #[.int lo t,.int hi u,.int 1 v]}).objs.size],_,_,H,rfl,
  I1.kept (t':=tk) λb o e=>aV _ e,Ge _ lo (hi-lo).toNat,?_,λb hb=>?_,q⟩
 ·have e1:lo+((0:Nat):Int) * 1=lo:=by simp
  have e2:(((hi-lo).toNat:Nat):Int)-((0:Nat):Int)=Builtin.Range.rangeSize lo hi 1:=by rw[rangeSize_one];split<;>lia
  skip
  rw[e1,e2];exact bA _ rfl
 ·have e:b=(s.heap.push { cls:=.type "range",data:=.fields #[.int lo t,.int hi u,.int 1 v]}).objs.size:=by simpa using hb
  subst e;exact I1.DS (aK _)<|I1.hok.fresh<|aK _
abbrev qM (ta:TA):TI:=λσ H R=>ta σ H λd H1=>∃j:Int,d=[.int j]/\-(2 ^ 62)<=j/\j<2 ^ 62/\R (Itr 0 j.toNat) H1
abbrev vL (ta:TA):TI:=λσ H R=>ta σ H λd H1=>∃i j:Int,d=[.int i,.int j]/\(-(2 ^ 62)<=i/\i<2 ^ 62/\-(2 ^ 62)<=j/\j<2 ^ 62)/\R (Itr i (j-i).toNat) H1
def K6{a:aE}{ta:TA}{p:Pos}(hg:Gl X "range")(hm:X.mg "range" = none)(ha:PA X [a] ta)(hs:starEach [a] X.env=[(false,eval a X.env)]:=by rfl):PI X tg (.Call (.Name "range" p) [a] [] pos) (qM ta):=by
 intro pins s σ H R I h;refine Call_<|ye I hg hm boot_range<|eg (mX (ha pos pins s σ H _ I h) λus B ⟨z,H1,f,r1,d⟩=>?_) hs rfl;obtain⟨j,e,d,k,q⟩:=d;subst e
 cases r1 with
 | cons r g=>
  cases g
  obtain⟨t,rfl⟩:=r;exact call_range_1<|EJ f () () d k<|by simpa using q
def Li{a b:aE}{ta:TA}{p:Pos}(hg:Gl X "range")(hm:X.mg "range" = none)(ha:PA X [a,b] ta)(hs:starEach [a,b] X.env=[(false,eval a X.env),(false,eval b X.env)]:=by rfl)(hs2:starEach [b] X.env=[(false,eval b X.env)]:=by rfl) :
  PI X tg (.Call (.Name "range" p) [a,b] [] pos) (vL ta):=by
 intro pins s σ H R I h;refine Call_ (ye I hg hm boot_range<|eg (mX (ha pos pins s σ H _ I h) λus J ⟨F,H1,z,r1,f⟩=>?_) (by rw[hs,hs2])<|by rw[hs2];rfl);obtain⟨i,j,e,⟨f,k,g,B⟩,q⟩:=f;subst e
 cases r1 with
 | cons r d=>
  cases d with
  | cons C d=>
   cases d
   obtain⟨t,rfl⟩:=r;obtain⟨G,rfl⟩:=C;exact call_range_2<|EJ z f k g B q
abbrev aa9 (wi:TI)(g:TG)(tb:TS):TS:=λD σ H=>wi σ H λJ H1=>∃W:Nat->Nat->St->Hp->Prop,(∃m,W 0 m σ H1)/\∀i m σ H,W i m σ H ->
 (J.stop i H/\D.nx σ H)\/(J.go i H/\∃N:St->Hp->Prop,(∀d H',N d H'->∃j,j<m/\W (i+1) j d H')/\∀x H',J.yld i H x H'->g x σ H' λf H2=>tb { D with nx:=N,ct:=N,bk:=D.nx } f H2)
abbrev xY (fp:bb)(h:aq):bn:=fp.filterMap λb=>(h.get? b).map λo=>(b,o)
def nU{fp:bb}{h:aq}{b:ak}(hb:b∈fp)(e:h.get? b=some o):(b,o)∈xY fp h:=List.mem_filterMap.mpr ⟨b,hb,by rw[e];rfl⟩
def LD{fp:bb}{h:aq}{p:ak×Obj}(hp:p∈xY fp h):p.1∈fp/\h.get? p.1=some p.2:=by
 obtain⟨b,hb,e⟩:=List.mem_filterMap.mp hp
 cases q:h.get? b with
 | none=>rw[q]at e;cases e
 | some o=>
  rw[q]at e;have d:(b,o)=p:=bf e;subst d;exact⟨hb,q⟩
def Inv.pinned{H:Hp}{s:aC}{fp:bb}(I:Inv X pins σ H s)(hf:∀b∈fp,vH X pins H b)(ho:∀b∈fp,∃o,s.heap.get? b=some o/\∀v,o.data≠.cell v):Inv X (pins++xY fp s.heap) σ H s:=
 I.Kg λp g=>(bq.mp g).elim (λz=>I.pin p<|bM _ z) λz=>by
  obtain⟨hb,e⟩:=LD z;obtain⟨f0,f1,f2,_⟩:=hf p.1 hb;obtain⟨o,f,d⟩:=ho p.1 hb;rw[e]at f;cases f;exact⟨e,f0,f1,f2,d⟩
def Inv.sH{pl:bn}{H:Hp}(I:Inv X (pins++pl) σ H s):Inv X pins σ H s:=I.Kg λp d=>I.pin p<|bM _<|eZ _ d
def XD{iter:aE}{wi:TI}{g:TG}{tb:TS}(hp:PassesOwn (model X.prog X.w) X.A X.env X.xe)(hc:X.calm=true)(hi:PI X tg iter wi)(hg:PG X tg g)(hb:CI X body tb)
  (hs:∀x,foldedSetIterable iter X.env x=pure x:=by intro _;rfl):PS X (.For tg iter body [] pos) (aa9 wi g tb):=by
 o_rec;refine wpAny_For (mX (hi pins s σ H _ I h) λv s1 h1=>mX h1 λitv s2 h2=>?_) hs;obtain⟨it,M,tn,J,H2,e,I2,T,Y,f2,W,⟨m0,w0⟩,turn⟩:=h2;subst e;have z:∀{H':Hp},(∀b∈M,H' b=none)->∀b∈M,vH X pins H' b:=λhn b hb=>⟨hn b hb,(f2 b hb).2⟩;refine codeAny_forLoop_any (λn s'=>∃i k H',Inv X pins k H' s'/\tn i s'.heap/\(∀b∈M,H' b=none)/\W i n k H') ?_ m0 ⟨0,σ,H2,I2,Y,λb hb=>(f2 b hb).1,w0⟩;rintro n s3 ⟨i,q,H3,I3,K,F,w3⟩
 rcases turn i n q H3 w3 with⟨L,qn⟩|⟨go,N,hN,step⟩
 ·refine eX hp<|mX (T.done X rfl rfl rfl hc i pins s3 q H3 X.xe I3 (z F) K L) λr s4 ⟨Z,I4⟩=>?_;subst Z;exact iM ⟨q,H3,I4,qn⟩
 ·refine eX hp<|mX (T.item X rfl rfl rfl hc i pins s3 q H3 X.xe I3 (z F) K go) λr s4 ⟨u,Z,h4⟩=>?_;subst Z;refine eX hp<|mX h4 λ_ s5 ⟨x,H5,I5,r5,y5,C,V⟩=>?_;have P:=I5.pinned (z V)<|T.obj _ _ C;refine eX hp<|mX (hg _ s5 q H5 x u _ P r5<|step x H5 y5) λ_ s6 ⟨O,H6,I6,q6⟩=>?_;refine eX hp<|mX (hb _ s6 O H6 _ I6 q6) λf U B=>?_;have again:∀{j:St} {p:Hp},Inv X (pins++xY M s5.heap) j p U->N j p->∃m,m<n/\∃i k H',Inv X pins k H' U/\tn i U.heap/\(∀b∈M,H' b=none)/\W i m k H':=λ{j p} t G=>by
   obtain⟨m',hm,w7⟩:=hN j p G;refine⟨m',hm,i+1,j,p,t.sH,T.keep _ _ _ C λb hb o e=>(t.pin (b,o)<|bM _<|bM _<|nU hb e).1,λb hb=>?_,w7⟩;obtain⟨o,e,d⟩:=T.obj _ _ C b hb;exact(t.pin (b,o)<|bM _<|bM _<|nU hb e).2.1
  cases f with
  | next=>obtain⟨j,p,t,G⟩:=B;exact again t G
  | cont=>obtain⟨j,p,t,G⟩:=B;exact again t G
  | brk=>obtain⟨j,p,t,B⟩:=B;exact⟨j,p,t.sH,B⟩
  | ret v=>obtain⟨x7,j,p,t,r7,B⟩:=B;exact⟨x7,j,p,t.sH,r7,B⟩
end
def zR{c:TT}{tb:TS}{D:Ends}{H:Hp}(Pv:St->Hp->Prop)(μ:St->Hp->Nat)(h0:Pv σ H)
  (hs:∀σ H,Pv σ H->c σ H λb H1=>if b=true then tb { D with nx:=λσ' H'=>Pv σ' H'/\μ σ' H'<μ σ H,ct:=λσ' H'=>Pv σ' H'/\μ σ' H'<μ σ H,bk:=D.nx } σ H1 else D.nx σ H1)
  (mono:∀σ H Q Q',(∀b H1,Q b H1->Q' b H1)->c σ H Q->c σ H Q'):QT c tb D σ H:=by
 refine⟨λm σ H=>m=μ σ H/\Pv σ H,⟨_,rfl,h0⟩,?_⟩;rintro m σ H ⟨rfl,p⟩;refine mono σ H _ _ (λb H1 q=>?_) (hs σ H p)
 cases b with
 | true=>exact⟨_,λσ' H' ⟨d,l⟩=>⟨_,l,rfl,d⟩,q⟩
 | false=>exact q
meta abbrev R2:=V->V->Hp->VK->Prop
abbrev n5 (X:Cx)(f:af->af->Sem af)(r:R2):Prop:=
 ∀(pins:bn) (s:aC) (σ:St) (H:Hp) (x y:V) (v u:af) (Q:VK),Inv X pins σ H s->RelV x v->RelV y u->r x y H Q ->
  wpAny (model X.prog X.w) X.A (f v u) (EP X pins σ Q) X.xe s
abbrev UnR (X:Cx)(f:af->Sem af)(r:V->Hp->VK->Prop):Prop:=
 ∀(pins:bn) (s:aC) (σ:St) (H:Hp) (x:V) (v:af) (Q:VK),Inv X pins σ H s->RelV x v->r x H Q ->
  wpAny (model X.prog X.w) X.A (f v) (EP X pins σ Q) X.xe s
abbrev kj (X:Cx)(f:af)(r:List V->Hp->VK->Prop):Prop:=
 ∀(pins:bn) (s:aC) (σ:St) (H:Hp) (xs:List V) (us:ba) (Q:VK),Inv X pins σ H s->Vals xs us->r xs H Q ->
  wpAny (model X.prog X.w) X.A (call f us) (EP X pins σ Q) X.xe s
abbrev abh (X:Cx)(r:V->Hp->(Bool->Hp->Prop)->Prop):Prop:=
 ∀(pins:bn) (s:aC) (σ:St) (H:Hp) (x:V) (v:af) (Q:Bool->Hp->Prop),Inv X pins σ H s->RelV x v->r x H Q ->
  wpAny (model X.prog X.w) X.A (truthy v) (TP X pins σ Q) X.xe s
abbrev Y7 (r:R2)(ta tb:TE):TE:=λσ H Q=>ta σ H λx H1=>tb σ H1 λy H2=>r x y H2 Q
abbrev tUn (r:V->Hp->VK->Prop)(ta:TE):TE:=λσ H Q=>ta σ H λx H1=>r x H1 Q
abbrev rI (C:Int->Int->Prop)(g:Int->Int->V):R2:=λx y H Q=>∃i j,x=.int i/\y=.int j/\C i j/\Q (g i j) H
abbrev UW (g:Int->Int->V):R2:=λx y H Q=>∃i j,x=.int i/\y=.int j/\Q (g i j) H
abbrev rU (g:Int->V):V->Hp->VK->Prop:=λx H Q=>∃i,x=.int i/\Q (g i) H
section
variable {X:Cx}{a b:aE}{ta tb:TE}{pos:Pos}
def Yq(ha:PE X a ta)(hb:PE X b tb){H:Hp}{R:V->V->Hp->Prop}(I:Inv X pins σ H s)
  (h:ta σ H λx H1=>tb σ H1 λy H2=>R x y H2) {Q:af->aC->Prop} {f:af->af->Sem af}
  (hf:∀v u s2 x y H2,Inv X pins σ H2 s2->RelV x v->RelV y u->R x y H2->wpAny (model X.prog X.w) X.A (f v u) Q X.xe s2) :
  wpAny (model X.prog X.w) X.A (eval a X.env) (λv s₁=>wpAny (model X.prog X.w) X.A (eval b X.env) (λu s₂=>wpAny (model X.prog X.w) X.A (f v u) Q X.xe s₂) X.xe s₁) X.xe s:=by
 refine mX (ha pins s σ H _ I h) λv g ⟨x,H1,d,r1,p⟩=>?_;refine mX (hb pins g σ H1 _ d p) λu s2 ⟨y,H2,j,r2,k⟩=>?_;exact hf v u s2 x y H2 j r1 r2 k
def Ze{r:R2}(ho:n5 X (binaryOp op) r)(ha:PE X a ta)(hb:PE X b tb):PE X (.BinOp a op b pos) (Y7 r ta tb):=by
 gp_on;exact wpAny_BinOp<|Yq ha hb I h λv u f x y H2 d rx ry q=>ho pins f σ H2 x y v u Q d rx ry q
def Zw{r:V->Hp->VK->Prop}(ho:UnR X (unaryOp op) r)(ha:PE X a ta):PE X (.UnaryOp op a pos) (tUn r ta):=by
 gp_on;exact UnaryOp_<|mX (ha pins s σ H _ I h) λv f ⟨x,H1,d,r1,g⟩=>ho pins f σ H1 x v Q d r1 g
def opI{f:af->af->Sem af}{C:Int->Int->Prop}{g:Int->Int->Int}
  (rule:∀(i j:Int) (t u:Tok) (s:aC) (Q:af->aC->Prop) (E:af->aC->Prop),C i j->Q (.int (g i j) s.toks) { s with toks:=s.toks+1 }->wpAny (model X.prog X.w) X.A (f (.int i t)<|.int j u) Q E s) :
  n5 X f (rI C λi j=>.int<|g i j):=by
 kcj_m;obtain⟨i,j,rfl,rfl,hc,q⟩:=h;obtain⟨t,rfl⟩:=rx;obtain⟨d,rfl⟩:=ry;exact rule i j t d s _ _ hc ⟨.int<|g i j,H,I.tok _,⟨_,rfl⟩,q⟩
def ZM{f:af->af->Sem af}{g:Int->Int->Int}
  (rule:∀(i j:Int) (t u:Tok) (s:aC) (Q:af->aC->Prop) (E:af->aC->Prop),Q (.int (g i j) s.toks) { s with toks:=s.toks+1 }->wpAny (model X.prog X.w) X.A (f (.int i t)<|.int j u) Q E s) :
  n5 X f (UW λi j=>.int<|g i j):=by
 kcj_m;obtain⟨i,j,rfl,rfl,q⟩:=h;obtain⟨t,rfl⟩:=rx;obtain⟨d,rfl⟩:=ry;exact rule i j t d s _ _ ⟨.int<|g i j,H,I.tok _,⟨_,rfl⟩,q⟩
def Rk{f:af->af->Sem af}{g:Int->Int->Bool}
  (rule:∀(i j:Int) (t u:Tok) (s:aC) (Q:af->aC->Prop) (E:af->aC->Prop),Q (.bool<|g i j) s->wpAny (model X.prog X.w) X.A (f (.int i t)<|.int j u) Q E s) :
  n5 X f (UW λi j=>.bl<|g i j):=by
 kcj_m;obtain⟨i,j,rfl,rfl,q⟩:=h;obtain⟨t,rfl⟩:=rx;obtain⟨d,rfl⟩:=ry;exact rule i j t d s _ _ ⟨.bl<|g i j,H,I,rfl,q⟩
abbrev abY (i j:Int):Prop:=0<=j/\j<=1000000/\i.natAbs<2 ^ 64
abbrev Q_ (i j:Int):Prop:=(-(2 ^ 64)<i/\i<2 ^ 64)\/(-(2 ^ 64)<j/\j<2 ^ 64)
def Q_.ok{i j:Int}(h:Q_ i j):IntMulOk i j:=by
 rcases h with⟨h1,h2⟩|⟨h1,h2⟩
 ·exact .of_left (intBits_le_64 h1 h2)
 ·exact .of_right<|intBits_le_64 h1 h2
def Xa:n5 X (binaryOp .Add) (UW λi j=>.int<|i+j):=ZM λ_ _ _ _ _ _ _ q=>add_int q
def WJ:n5 X (binaryOp .Sub) (UW λi j=>.int<|i-j):=ZM λ_ _ _ _ _ _ _ q=>sub_int q
def VW:n5 X (binaryOp .Mult) (rI Q_ λi j=>.int<|i * j):=opI λ_ _ _ _ _ _ _ hc q=>mul_int q hc.ok
def XH:n5 X (binaryOp .Mod) (rI (λ_ j=>0<j) λi j=>.int<|i % j):=opI λi j _ _ _ _ _ hc q=>by
 have h1:(0:Int)<j:=hc;exact mod_int' ()<|by rw[Int.fmod_eq_emod_of_nonneg i ()];exact q
def Yk:n5 X (binaryOp .Pow) (rI abY λi j=>.int<|i ^ j.toNat):=opI λ_ _ _ _ _ _ _ hc q=>pow_int_small hc.1 hc.2.1 hc.2.2 q
def unI{f:af->Sem af}{g:Int->Int}
  (rule:∀(i:Int) (t:Tok) (s:aC) (Q:af->aC->Prop) (E:af->aC->Prop),Q (.int (g i) s.toks) { s with toks:=s.toks+1 }->wpAny (model X.prog X.w) X.A (f<|.int i t) Q E s) :
  UnR X f (rU λi=>.int<|g i):=by
 intro pins s σ H x v Q I rx h;obtain⟨i,rfl,q⟩:=h;obtain⟨t,rfl⟩:=rx;exact rule i t s _ _ ⟨.int<|g i,H,I.tok _,⟨_,rfl⟩,q⟩
def XS:UnR X (unaryOp .USub) (rU λi=>.int<|-i):=unI λ_ _ _ _ _ q=>neg_int q
end
abbrev X9:V->V->Bool
 | .non,.non=>true | .non,.int _=>true | .int _,.non=>true | .non,.bl _=>true | .bl _,.non=>true | .non,.str _=>true | .str _,.non=>true
 | .int _,.int _=>true | .bl _,.bl _=>true | .str _,.str _=>true | .byt _,.byt _=>true
 | .int _,.str _=>true | .str _,.int _=>true | .bl _,.str _=>true | .str _,.bl _=>true
 | _,_=>false
section
variable {X:Cx}{a b c:aE}{ta tb tc:TE}{pos:Pos}
def Yw{H:Hp}{Q:VK}{k:Bool}(I:Inv X pins σ H s)(q:Q (.bl k) H)(e:k=k'):EP X pins σ Q (.bool k') s:=by
 subst e;exact⟨.bl k,H,I,rfl,q⟩
def YY:n5 X (compareOp .Lt) (UW λi j=>.bl<|decide<|i<j):=Rk λ_ _ _ _ _ _ _ q=>lt_int q
def ZY:n5 X (compareOp .LtE) (UW λi j=>.bl<|decide<|i<=j):=Rk λ_ _ _ _ _ _ _ q=>le_int q
def Zh:n5 X (compareOp .Gt) (UW λi j=>.bl<|decide<|j<i):=Rk λ_ _ _ _ _ _ _ q=>gt_int q
def ZH:n5 X (compareOp .GtE) (UW λi j=>.bl<|decide<|j<=i):=Rk λ_ _ _ _ _ _ _ q=>ge_int q
def RB:n5 X (compareOp .IsNot) (λx y H Q=>y=.non/\Q (.bl<|!decide (x=.non)) H):=by
 kcj_m;obtain⟨rfl,q⟩:=h
 cases ry
 refine isnot_none_gen (Yw I q ?_)
 cases x<;>first
  | (cases rx;rfl)
  | (obtain⟨t,rfl⟩:=rx;rfl)
def MQ(b:aE)(h:op≠.In:=by decide)(h2:op≠.NotIn:=by decide):behindInMarks op b=false:=by
 have e1:(op == CmpOp.In)=false:=by cases op<;>first|rfl|exact absurd rfl h
 have e2:(op == CmpOp.NotIn)=false:=by cases op<;>first|rfl|exact absurd rfl h2
 cases b<;>simp[behindInMarks,e1,e2]
def RN{op:CmpOp}{r:R2}(ho:n5 X (compareOp op) r)(ha:PE X a ta)(hb:PE X b tb)(hm:behindInMarks op b=false):PE X (.Compare a [op] [b] pos) (Y7 r ta tb):=by
 gp_on;exact wpAny_Compare1 (Yq ha hb I h λv u f x y H2 d rx ry q=>ho pins f σ H2 x y v u Q d rx ry q) hm
abbrev aab (t:TE):TT:=λσ H Q=>t σ H λx H'=>∃k,x=.bl k/\Q k H'
def Tz{op:CmpOp}{r:R2}(ho:n5 X (compareOp op) r)(ha:PE X a ta)(hb:PE X b tb)(hm:behindInMarks op b=false):PT X (.Compare a [op] [b] pos) (aab<|Y7 r ta tb):=by
 gp_on;refine wpAny_isTrue_Compare1 (mX (ha pins s σ H _ I h) λv B ⟨x,H1,p,r1,g⟩=>mX (hb pins B σ H1 _ p g) λu q ⟨y,H2,f,r2,j⟩=>
  mX (ho pins q σ H2 x y v u _ f r1 r2 j) λc F ⟨z,H3,C,t,k,e,d⟩=>?_) hm
 subst e
 cases t
 exact dh ⟨H3,C,d⟩
abbrev Pn (r r':R2)(ta tb tc:TE):TE:=λσ H Q=>ta σ H λx H1=>tb σ H1 λy H2=>r x y H2 λz H3=>∃k,z=.bl k /\
 (if k=true then tc σ H3 λf d=>r' y f d Q else Q (.bl false) H3)
def Qh{r r':R2}(ho:n5 X (compareOp op) r)(ho':n5 X (compareOp op') r')(ha:PE X a ta)(hb:PE X b tb)(hc:PE X c tc)
  (hm:lastMarks [op,op'] [b,c]=false:=by with_unfolding_all rfl):PE X (.Compare a [op,op'] [b,c] pos) (Pn r r' ta tb tc):=by
 gp_on;refine Compare_chain (mX (ha pins s σ H _ I h) λv O ⟨x,H1,F,r1,p⟩=>chain_link (mX (hb pins O σ H1 _ F p) λu L ⟨y,H2,j,r2,t⟩=>
  mX (ho pins L σ H2 x y v u _ j r1 r2 t) λd P ⟨z,H3,g,M,k,e,f⟩=>?_)) hm
 subst e
 cases M
 refine dh ?_
 cases k with
 | false=>exact ite_ff ⟨.bl false,H3,g,rfl,f⟩
 | true=>exact ite_tt<|chain_last<|mX (hc pins P σ H3 _ g f) λN q ⟨J,B,G,C,K⟩=>ho' pins q σ B y J u N Q G r2 C K
abbrev Yt (K:au)(x:V)(H:Hp)(k:Bool):Prop:=
 match x with
 | .non=>k=false
 | .bl b=>k=b
 | .int i=>k=(i != 0)
 | .str y=>y.length<=sizeLine/\k=((y.length:Int) != 0)
 | .byt y=>y.size<=sizeLine/\k=((y.size:Int) != 0)
 | .ref p=>(∃xs,qK K H p xs/\k=!xs.isEmpty)\/(∃xs,nF K H p xs/\k=!xs.isEmpty)\/∃kvs,H p=some (.dK kvs)/\k=!kvs.isEmpty
 | _=>False
def G6{κ:Type}{kvs:List<|κ×V}{vs:List<|κ×af}(r:KV kvs vs):(!vs.isEmpty)=!kvs.isEmpty:=by
 cases r<;>rfl
def AJ{xs:List V}{its:ba}(r:Vals xs its):(!its.toArray.isEmpty)=!xs.isEmpty:=by
 cases r<;>simp
def xQ:(sizeLine:Nat)<2 ^ 63:=by rw[dU];decide
def WM:abh X (λx H Q=>∃k,Yt X.K x H k/\Q k H):=by
 intro pins s σ H x v Q I rx h;obtain⟨k,e,q⟩:=h;have C:=xQ;have hs:sizeLine=16777216:=dU
 cases x with
 | non=>
  cases rx
  have d:k=false:=e;subst d;exact truthy_none ⟨H,I,q⟩
 | bl b=>
  cases rx
  have d:k=b:=e;subst d;exact dh ⟨H,I,q⟩
 | int i=>
  obtain⟨t,rfl⟩:=rx;have d:k=(i != 0):=e;subst d;exact PySem.P.truthy_int ⟨H,I,q⟩
 | str y=>
  obtain⟨t,rfl⟩:=rx;obtain⟨hy,d⟩:y.length<=sizeLine/\k=((y.length:Int) != 0):=e;subst d;exact PySem.P.truthy_str () ⟨H,I.tok _,q⟩
 | byt y=>
  obtain⟨t,rfl⟩:=rx;obtain⟨hy,d⟩:y.size<=sizeLine/\k=((y.size:Int) != 0):=e;subst d;exact PySem.W.truthy_bytes () ⟨H,I.tok _,q⟩
 | ref p=>
  cases rx
  have d:(∃xs,qK X.K H p xs/\k=!xs.isEmpty)\/(∃xs,nF X.K H p xs/\k=!xs.isEmpty)\/∃kvs,H p=some (.dK kvs)/\k=!kvs.isEmpty:=e
  rcases d with⟨xs,g,d⟩|⟨xs,g,d⟩|⟨kvs,g,d⟩
  ·subst d;obtain⟨z,r,pl,B⟩:=I.list g;have f:=r.length;exact wpAny_truthy_list pl.isList (by dsimp[aZ];lia) ⟨H,I.tok _,by rw[AJ r];exact q⟩
  ·subst d;obtain⟨z,r,pl,B⟩:=I.tuple g;have f:=r.length;exact truthy_tuple pl (by dsimp[aZ];lia) ⟨H,I.tok _,by rw[AJ r];exact q⟩
  ·subst d;obtain⟨B,hS,j,r,m⟩:kvs.length<=sizeLine/\(p == sysModules)=false/\∃j,KV kvs j/\s.heap.DictOf (kJ X.prog X.w) p j:=I.hok p _ g;have f:kvs.length=j.length:=iJ r;exact wpAny_truthy_dict hS m () ⟨H,I.tok _,by rw[G6 r];exact q⟩
 | _=>exact(show False from e).elim
def MI(ha:PE X a ta)(he:∀whole,isTrue a X.env whole=(do let v <- whole;standAt a.pos;holding [v] (truthy v))) :
  PT X a (λσ H Q=>ta σ H λx H'=>∃k,Yt X.K x H' k/\Q k H'):=by
 gp_on;exact isTrue_plain (mX (ha pins s σ H _ I h) λv f ⟨x,H1,d,r1,g⟩=>WM pins f σ H1 x v Q d r1 g)<|he _
def Gv:n5 X (binaryOp .Add) (λx y H Q=>∃i j,x=.str i/\y=.str j/\i.length+j.length<=sizeLine/\Q (.str<|i++j) H):=by
 kcj_m;obtain⟨i,j,rfl,rfl,d,q⟩:=h;obtain⟨t,rfl⟩:=rx;obtain⟨f,rfl⟩:=ry;exact add_str (λf g=>⟨.str<|i++j,H,I.tok _,⟨_,rfl⟩,q⟩) d
def vals1{x:V}(r:Vals [x] us):∃u,us=[u]/\RelV x u:=by
 cases r with
 | cons r1 r2=>cases r2;exact⟨_,rfl,r1⟩
def vals2{x:V}(r:Vals [x,y] us):∃u w',us=[u,w']/\RelV x u/\RelV y w':=by
 cases r with
 | cons r1 r2=>
  cases r2 with
  | cons f d=>cases d;exact⟨_,_,rfl,r1,f⟩
def NP:kj X (.builtin "abs") (λxs H Q=>∃i,xs=[.int i]/\Q (.int<|if i<0 then -i else i) H):=by
 kt_k;obtain⟨i,rfl,q⟩:=h;obtain⟨u,rfl,t,rfl⟩:=vals1 r;exact call_abs_int λu d=>⟨.int<|if i<0 then -i else i,H,I.tok _,⟨_,rfl⟩,q⟩
abbrev abB (K:au)(x:V)(H:Hp)(n:Nat):Prop:=
 match x with
 | .str y=>y.length<=sizeLine/\n=y.length
 | .byt y=>y.size<=sizeLine/\n=y.size
 | .ref p=>(∃xs,qK K H p xs/\n=xs.length)\/∃xs,nF K H p xs/\n=xs.length
 | _=>False
def Pe:kj X (.builtin "len") (λxs H Q=>∃x n,xs=[x]/\abB X.K x H n/\Q (.int n) H):=by
 kt_k;obtain⟨x,n,rfl,e,q⟩:=h;kpc_g;have B:=xQ;have hs:sizeLine=16777216:=dU
 cases x with
 | str y=>
  obtain⟨t,rfl⟩:=rx;obtain⟨hy,f⟩:y.length<=sizeLine/\n=y.length:=e;subst f;exact len_str () ⟨.int _,H,I.tok _,⟨_,rfl⟩,q⟩
 | byt y=>
  obtain⟨t,rfl⟩:=rx;obtain⟨hy,f⟩:y.size<=sizeLine/\n=y.size:=e;subst f;exact PySem.W.len_bytes () ⟨.int _,H,I.tok _,⟨_,rfl⟩,q⟩
 | ref p=>
  cases rx
  have f:(∃xs,qK X.K H p xs/\n=xs.length)\/∃xs,nF X.K H p xs/\n=xs.length:=e
  rcases f with⟨xs,j,f⟩|⟨xs,j,f⟩
  ·subst f;obtain⟨g,k,pl,z⟩:=I.list j;have d:=k.length;exact Calls.call_len_list pl.isList (by dsimp[aZ];lia) ⟨.int xs.length,H,I.tok _,⟨_,by dsimp[aZ];rw[d]⟩,q⟩
  ·subst f;obtain⟨g,k,pl,z⟩:=I.tuple j;have d:=k.length;exact len_tuple pl (by dsimp[aZ];lia) ⟨.int xs.length,H,I.tok _,⟨_,by dsimp[aZ];rw[d]⟩,q⟩
 | _=>exact(show False from e).elim
end
structure ObjM (h:aq)(x dx C:ak)(mA:Str->bd):Prop where
 obj:h.get? x=some (PySem.W.instObj C dx)
 ns:h.Ns1 dx mA
 ne:dx≠x
def Lv{h:aq}{mA:Str->bd}(n:h.Ns1 dx mA):∃od,h.get? dx=some od/\∀name,PySem.W.lookIn name od=some (mA name):=by
 obtain⟨o,es,ep,p,k,j,_,g⟩:=n;refine⟨o,p,λname=>?_⟩;have e:=g name;unfold nsFind findBy at e;rw[<- Array.find?_toList]at e;unfold PySem.W.lookIn;rw[k];dsimp only;split
 ·rename_i y q;rw[q]at e;exact c7 some e
 ·rename_i q;rw[q]at e;have a:es.toList.any (·.refKey)=false:=by
   rw[List.any_eq_false];intro y hy;obtain⟨z,t,d⟩:=j y<|Array.mem_toList_iff.mp hy;simp[DictEntry.refKey,d]
  have f:¬es.toList.any (·.refKey)=true:=by rw[a];exact bN
  rw[aM f];exact c7 some e
def ObjM.look{x:ak}{mA:Str->bd}(I:ObjM h x dx C mA):∃od,PySem.W.InstAt h x (PySem.W.instObj C dx) C (some od)/\∀name,PySem.W.lookIn name od=some (mA name):=
 let⟨od,ho,hl⟩:=Lv I.ns
 ⟨od,⟨I.obj,rfl,rfl,ho⟩,hl⟩
def yf.some_of{v:V}(r:yf (some v) o):∃u,o=some u/\RelV v u:=by
 cases o with
 | none=>exact(show False from r).elim
 | some u=>exact⟨u,rfl,r⟩
section
variable {P:aj}{w:ah}{H:Hp}{h:aq}{a C dx:ak}{fs:List (Str×V)}
def Sj(hok:wK P w H h)(e:H a=some (.ins C dx fs)):∃mA,ObjM h a dx C mA/\(∀f,yf (fs.lookup f)<|mA f)/\PySem.Within mA (fs.map (·.1))/\fs.length<=1000/\H dx=some (.own a):=by
 obtain⟨d,z,ne,ob,mA,n,r,q⟩:=(show kO P w H h a (.ins C dx fs)from hok a _ e);exact⟨mA,⟨ob,n,ne⟩,r,q,z,d⟩
end
structure Cls (K:au)(C:ak):Prop where
 pg:PySem.W.plainGet K C Str.empty=true
 hd:PySem.W.hasDictIn K C=true
 po:PySem.W.plainOver K C=true
 sa:PySem.W.findIn K (.ref C) "__setattr__" = some (some<|.builtin "object.__setattr__")
def Cls.get{K:au}(c:Cls K C)(f:Str):PySem.W.plainGet K C f=true:=c.pg
structure Con (K:au)(C:ak)(f:Str)(v:V)(u:af):Prop where
 at_:PySem.W.findIn K (.ref C) f=some (some u)
 rel:RelV v u
 get:PySem.W.specialIn K u "__get__" = some none
 cp:PySem.W.copiedNames.contains f=false
structure Meth (K:au)(C:ak)(m:Str)(f:ak):Prop where
 at_:PySem.W.findIn K (.ref C) m=some (some<|.ref f)
 fn:PySem.W.isFn K (.ref f)=true
 kp:PySem.W.keepIn K (.ref f)=true
section
variable {X:Cx}{pins:bn}{σ:St}{H:Hp}{s:aC}{A:aA}{E:af->aC->Prop}{Q:af->aC->Prop}{c:af}{b:Bool}
inductive TyOf (K:au) (H:Hp):V->af->Prop where
 | non:TyOf K H .non (.type "NoneType")
 | bl (x:Bool):TyOf K H (.bl x) (.type "bool")
 | int (i:Int):TyOf K H (.int i) (.type "int")
 | str (x:Str):TyOf K H (.str x) (.type "str")
 | flt (x:UInt64):TyOf K H (.flt x) (.type "float")
 | lst {a:ak} {xs:List V} (e:H a=some (.lst xs)):TyOf K H (.ref a) (.type "list")
 | frz {a:ak} {o:Obj} {xs:List V} (e:H a=some (.frz o<|.lst xs)):TyOf K H (.ref a) (.type "list")
 | tup {a:ak} {xs:List V} (e:H a=some (.tup xs)):TyOf K H (.ref a) (.type "tuple")
 | dK {a:ak} {kvs:List<|Key×V} (e:H a=some (.dK kvs)):TyOf K H (.ref a) (.type "dict")
 | dT {a:ak} {kvs:List<|List Key×V} (e:H a=some (.dT kvs)):TyOf K H (.ref a) (.type "dict")
 | ins {a C dx:ak} {fs:List<|Str×V} (e:H a=some (.ins C dx fs)) (cl:Cls K C) (ha:PySem.W.findIn K (.ref C) "__class__" = some (some<|.builtin "object.__class__"))
   (hn:PySem.W.specialIn K (.builtin "object.__class__") "__get__" = some (some<|.builtin "getset_descriptor.__get__")) (htk:PySem.W.takesIn K (.builtin "object.__class__")=some true)
   (hm:PySem.W.mroIn K C (.type "object")=some true):TyOf K H (.ref a)<|.ref C
def LG{x:V}{t:af}(I:Inv X pins σ H s)(rx:RelV x u)(ty:TyOf X.K H x t)(e:PySem.W.kitOne X.K t c=some b)(h:∀tk,Q (.bool b) { s with toks:=tk }) :
  wpAny (model X.prog X.w) A (call (.builtin "isinstance") [u,c]) Q E s:=by
 cases ty with
 | non=>cases(show u=Value.none from rx);exact cU PySem.W.kitx_none I.D3 True.intro e (λz=>nomatch z) h
 | bl y=>cases(show u=Value.bool y from rx);exact cU PySem.W.kitx_bool I.D3 True.intro e (λz=>nomatch z) h
 | int i=>obtain⟨t,q⟩:=(show ∃t,u=Value.int i t from rx);cases q;exact cU PySem.W.kitx_int I.D3 True.intro e (λz=>nomatch z) h
 | str y=>obtain⟨t,q⟩:=(show ∃t,u=Value.str y t from rx);cases q;exact cU PySem.W.kitx_str I.D3 True.intro e (λz=>nomatch z) h
 | flt y=>obtain⟨t,q⟩:=(show ∃t,u=Value.float y t from rx);cases q;exact cU PySem.W.kitx_float I.D3 True.intro e (λz=>nomatch z) h
 | @lst a xs d=>
  cases(show u=Value.ref a from rx)
  obtain⟨_,_,n,_,h1⟩:=(show kO X.prog X.w H s.heap a (.lst xs)from I.hok a _ d);exact cU PySem.W.kitx_list I.D3 ⟨_,h1,rfl⟩ e (λz=>nomatch z) h
 | @frz a ob xs d=>
  cases(show u=Value.ref a from rx)
  obtain⟨_,_,_,n,_,h1⟩:=(show kO X.prog X.w H s.heap a (.frz ob<|.lst xs)from I.hok a _ d);exact cU PySem.W.kitx_list I.D3 ⟨_,h1,rfl⟩ e (λz=>nomatch z) h
 | @tup a xs d=>
  cases(show u=Value.ref a from rx)
  obtain⟨_,_,_,p⟩:=(show kO X.prog X.w H s.heap a (.tup xs)from I.hok a _ d);obtain⟨o,h1,h2,_⟩:=p;exact cU PySem.W.kitx_tuple I.D3 ⟨o,h1,h2⟩ e (λz=>nomatch z) h
 | @dK a kvs d=>
  cases(show u=Value.ref a from rx)
  obtain⟨_,_,k,_,p⟩:=(show kO X.prog X.w H s.heap a (.dK kvs)from I.hok a _ d);obtain⟨o,es,ep,h1,h2,_⟩:=p;exact cU PySem.W.kitx_dict I.D3 ⟨o,h1,h2.1⟩ e (λz=>nomatch z) h
 | @dT a kvs d=>
  cases(show u=Value.ref a from rx)
  obtain⟨_,_,xs,_,o,es,ep,h1,h2,_⟩:=(show kO X.prog X.w H s.heap a (.dT kvs)from I.hok a _ d);exact cU PySem.W.kitx_dict I.D3 ⟨o,h1,h2.1⟩ e (λz=>nomatch z) h
 | @ins a C dx fs d g ha hn f j=>
  cases(show u=Value.ref a from rx)
  obtain⟨F,O,_⟩:=Sj I.hok d;obtain⟨B,J,_⟩:=O.look;exact cU (PySem.W.kitx_own (g.get _) g.hd ha hn f j) I.D3 J e (λz=>nomatch z) h
end
structure Room (k:Nat)(A:aA):Prop where
 hd:A.handled=none
 dp:A.depth+3 * k+5<recursionLimit
 un:A.units+16 * k+200<cLine
 gs:A.guards=some []
def Room.mono{k:Nat}{A:aA}(r:Room k A)(h:j<=k):Room j A:=⟨r.hd,by have:=r.dp;lia,by have:=r.un;lia,r.gs⟩
def Room.deeper{k:Nat}{A:aA}(r:Room (k+1) A)(env:Env):Room k (A.deeper env):=
 ⟨r.hd,by have:=r.dp;show A.depth+1+3 * k+5<_;lia,by have:=r.un;show A.units+3+16 * k+200<_;lia,r.gs⟩
def Room.depth{k:Nat}{A:aA}(r:Room k A):A.depth<recursionLimit:=by have:=r.dp;lia
def Room.units{k:Nat}{A:aA}(r:Room k A):A.units+64<cLine:=by have:=r.un;lia
abbrev aa4:TA:=λ_ H Q=>Q [] H
abbrev aag (ta:TE)(tr:TA):TA:=λσ H Q=>ta σ H λx H1=>tr σ H1 λxs H2=>Q (x::xs) H2
section
variable {X:Cx}{e:aE}{es:List aE}{te:TE}{t:TA}{pos:Pos}
def DC:PA X [] aa4:=λ_ _ _ _ H Q I h=>Calls.spliced_nil ⟨[],H,I,.nil,h⟩
def wN(ha:PE X e te)(hr:PA X es t)(hs:starEach (e::es) X.env=(false,eval e X.env)::starEach es X.env:=by rfl):PA X (e::es) (aag te t):=by
 intro pos pins s σ H Q I h;rw[hs]
 skip
 refine Calls.spliced_cons<|mX (ha pins s σ H _ I h) λu k ⟨x,H1,j,r1,f⟩=>?_;exact mX (hr pos pins k σ H1 _ j f) λus p ⟨xs,H2,d,r2,g⟩=>⟨x::xs,H2,d,.cons r1 r2,g⟩
abbrev ab3 (t:TA):TE:=λσ H Q=>t σ H λxs H1=>xs.length<=sizeLine/\∀p,H1 p=none->Q (.ref p) (upd H1 p<|.tup xs)
abbrev abd (t:TA):TE:=λσ H Q=>t σ H λxs H1=>xs.length<=sizeLine/\∀p,H1 p=none->Q (.ref p) (upd H1 p<|.lst xs)
def Wr{x1}(h:PA X es t):PE X (.Tuple es x1 pos) (ab3 t):=by
 intro pins s σ H Q I hq;refine wpAny_Tuple_spliced (mX (h pos pins s σ H _ I hq) λus d ⟨xs,H1,f,r,z,q⟩=>⟨by rw[<- r.length];exact z,?_⟩);have hf:H1 d.heap.objs.size=none:=f.hok.fresh<|aK _;refine⟨.ref d.heap.objs.size,upd H1 d.heap.objs.size<|.tup xs,f.laid (t':=d.toks) (λb u e=>aV _ e) (aK _) ?_,rfl,q _ hf⟩;exact⟨z,us,r,⟨_,bA _ rfl,rfl,rfl,_,rfl⟩⟩
def V6(h:PA X es t):PE X (.List es pos) (abd t):=by
 intro pins s σ H Q I hq;refine wpAny_List_spliced (mX (h pos pins s σ H _ I hq) λus d ⟨xs,H1,f,r,z,q⟩=>⟨by rw[<- r.length];exact z,?_⟩);have hf:H1 d.heap.objs.size=none:=f.hok.fresh<|aK _;refine⟨.ref d.heap.objs.size,upd H1 d.heap.objs.size<|.lst xs,f.laid (t':=d.toks) (λb u e=>aV _ e) (aK _) ?_,rfl,q _ hf⟩;exact⟨z,us,0,r,bA _ rfl⟩
end
meta abbrev Sp:=List V->Hp->VK->XK->Prop
meta abbrev Q3:=List Env->Hp->aC->XK->af->aC->Prop
structure Env0 (P:aj)(w:ah)(K:au)(mg:Str->bd)(base:aq)(A:aA)(outer:List Env)(s:aC)(H:Hp):Prop where
 frames:A.frames=some outer
 mod:Mod K mg base
 bs:∀b o,base.get? b=some o->s.heap.get? b=some o/\H b=none
 bsz:base.objs.size<=s.heap.objs.size
 Aq:s.heap.FunFrames base outer
 frf:∀b∈frs outer,H b=none
 hok:wK P w H s.heap
 bare:AllBare s.gens
abbrev CE (outer:List Env)(P:aj)(w:ah)(H:Hp)(s:aC)(Q:VK)(u:af)(s':aC):Prop:=
 ∃v H',s'.os=s.os/\AllBare s'.gens/\Un (frs outer) [] H H' s.heap s'.heap/\wK P w H' s'.heap/\RelV v u/\Q v H'
abbrev CR (CX:Q3)(outer:List Env)(P:aj)(w:ah)(H:Hp)(s:aC)(Q:VK)(E:XK)(r:Result)(s':aC):Prop:=
 match r with
 | .ok (.ret u)=>CE outer P w H s Q u s'
 | .ok _=>False
 | .error e=>CX outer H s E e s'
structure FnOk (P:aj)(w:ah)(K:au)(mg:Str->bd)(base:aq)(CX:Q3)(k:Nat)(f:ak)(fd:FuncData)(ps:ar)(sp:Sp):Prop where
 len:∀vs H Q E,sp vs H Q E->vs.length=ps.length
 run:∀(A:aA) (outer:List Env) (s:aC) (H:Hp) (args:Args) (us:ba) (vs:List V) (Q:VK) (E:XK),Room k A->Env0 P w K mg base A outer s H->BindsTo s fd args (ps.zip us)->Vals vs us->sp vs H Q E ->
  codeAny (model P w) A (.call (.ref f) args) (CR CX outer P w H s Q E) s
section
variable {X:Cx}{pins:bn}{σ:St}{H:Hp}{s s':aC}
def Inv.abj(I:Inv X pins σ H s):Env0 X.prog X.w X.K X.mg X.base X.A X.stack s H:=
 ⟨I.ok.frames,I.ok.mod,I.bs,bH I.ok.bsz I.sz,I.stack,I.IM,I.hok,I.bare⟩
def Inv.after{Q:VK}(I:Inv X pins σ H s)(h:CE X.stack X.prog X.w H s Q u s'):EP X pins σ Q u s':=by
 obtain⟨v,H',os,f,un,j,r,q⟩:=h;obtain⟨p,g,d,t,k⟩:=s';obtain rfl:k=s.os:=os;exact⟨v,H',I.call (h':=p) (g':=g) (d':=d) (t':=t) (ch:=[]) un j f λb z=>absurd z<|by simp,r,q⟩
end
abbrev U4 (sp:Sp)(dvs:List V)(E:XK)(t:TA):TE:=λσ H Q=>t σ H λd H1=>sp (d++dvs) H1 Q E
abbrev Binds (K:au)(fd:FuncData)(ps:ar)(ds:ba):Prop:=
 ∀(s:aC) (us:ba),K.In s.heap->(us++ds).length=ps.length->BindsTo s fd ⟨us,[]⟩ (ps.zip<|us++ds)
def Binds.all{K:au}{ps:ar}(h:∀us:ba,us.length=ps.length->bindArgs fd ⟨us,[]⟩=pure (ps.zip us)):Binds K fd ps []:=λs us _ d=>by
 rw[b8]at d ⊢;exact .of_eq<|h us d
abbrev Passes (CX:Q3)(X:Cx)(E:XK):Prop:=∀(pins:bn) (σ:St) (H:Hp) (s:aC) (e:af) (s':aC),Inv X pins σ H s->CX X.stack H s E e s'->X.xe e s'
section
variable {X:Cx}{CX:Q3}{k:Nat}{f C:ak}{fd:FuncData}{ps:ar}{sp:Sp}{dvs:List V}{ds:ba}{E:XK}{x:Str}{p pos:Pos}{e:aE}{es:List aE}{t:TA}
def WQ{H:Hp}{Q:VK}(F:FnOk X.prog X.w X.K X.mg X.base CX k f fd ps sp)(hr:Room k X.A)(hb:Binds X.K fd ps ds)(hd:Vals dvs ds)(hx:Passes CX X E)
  (I:Inv X pins σ H s) (r:Vals vs us) (h:sp (vs++dvs) H Q E):wpAny (model X.prog X.w) X.A (call (.ref f) us) (EP X pins σ Q) X.xe s:=by
 have r2:Vals (vs++dvs) (us++ds):=r.append hd;have d:(us++ds).length=ps.length:=by rw[<- r2.length];exact F.len _ _ _ _ h
 refine wpAny_call (jq (F.run X.A X.stack s H ⟨us,[]⟩ (us++ds) (vs++dvs) Q E hr I.abj (hb s us I.D3 d) r2 h) λr s' hq=>?_)
 cases r with
 | error e=>exact hx pins σ H s e s' I hq
 | ok fl=>
  cases fl with
  | ret u=>exact I.after hq
  | next=>exact False.elim hq
  | brk=>exact False.elim hq
  | cont=>exact False.elim hq
def Sf(F:FnOk X.prog X.w X.K X.mg X.base CX k f fd ps sp)(hr:Room k X.A)(hg:Gl X x)(hm:X.mg x=some (.ref f))(hk:PySem.W.keepIn X.K (.ref f)=true)(hb:Binds X.K fd ps ds)(hd:Vals dvs ds)(hx:Passes CX X E)
  (ha:PA X (e::es) t) (hdb:(x == ("__debug__" : Str))=false:=by decide) (he:starEach (e::es) X.env=(false,eval e X.env)::starEach es X.env:=by rfl) (hpl:(backTo pos<|starEach es X.env).any (·.1)=false:=by rfl) :
  PE X (.Call (.Name x p) (e::es) [] pos) (U4 sp dvs E t):=by
 gp_on;refine iV<|J2 I hg hm ?_ hdb;refine PySem.W.callWith_K (h₀:=X.base) I.ok.mod.kin hk (mX (ha pos pins s σ H _ I h) λus g ⟨d,H1,I1,r,q⟩=>⟨I1.D3,?_⟩) he hpl;exact WQ F hr hb hd hx I1 r q
structure Mk (K:au)(C f:ak):Prop where
 makes:PySem.W.makesIn K C=true
 init:PySem.W.findIn K (.ref C) "__init__" = some (some<|.ref f)
 fn:PySem.W.isFn K (.ref f)=true
 kp:PySem.W.keepIn K (.ref C)=true
end
section
variable {fd:FuncData}{ps ks:ar}
structure KBinds (K:au)(fd:FuncData)(ps ks:ar)(g:ba->ba->ba)(gV:List V->List V->List V):Prop where
 to:∀(s:aC) (us ws:ba),K.In s.heap->(g us ws).length=ps.length->BindsTo s fd ⟨us,ks.zip ws⟩ (ps.zip<|g us ws)
 rel:∀{vs:List V} {us:ba} {zs:List V} {ws:ba},Vals vs us->Vals zs ws->Vals (gV vs zs) (g us ws)
end
structure FnScope (N P:ar)(sc:Scope):Prop where
 kind:sc.kind=.function
 co:sc.isCoroutine=false
 gen:sc.isGenerator=false
 nd:N.Nodup
 pre:N.take P.length=P
 par:∀x∈P,sc.names.lookup x=some .local\/sc.names.lookup x=some .cell
 nofree:∀y∈sc.names,y.2≠.free
theorem B9{kindOf:Str->Option NameKind}{x:Str}:∀{binds:List<|Str×af}{m:Str->bd},(∀v,(x,v)∉binds)->bindL kindOf binds m x=m x
 | [],_,_=>rfl
 | (n,v)::r,m,h=>by
  unfold bindL;rw[B9 λw hw=>h w<|aQ _ hw];split
  ·have:x≠n:=by rintro rfl;exact h v aO
   simp[this]
  ·rfl
theorem Bu{kindOf:Str->Option NameKind}{x:Str}:∀{binds:List<|Str×af}{m:Str->bd},(∀v,(x,v)∉binds)->bindC kindOf binds m x=m x
 | [],_,_=>rfl
 | (n,v)::r,m,h=>by
  unfold bindC;rw[Bu λw hw=>h w<|aQ _ hw];split
  ·rfl
  ·have:x≠n:=by rintro rfl;exact h v aO
   simp[this]
theorem B_{kindOf:Str->Option NameKind}{x:Str}{v:af}:∀{P:ar}{vs:ba}{i:Nat}{m:Str->bd},P.Nodup->P[i]?=some x->vs[i]?=some v->kindOf x=some .local ->
  bindL kindOf (P.zip vs) m x=some v
 | [],_,_,_,_,h,_,_=>by simp at h
 | _::_,[],_,_,_,_,h,_=>by simp at h
 | p::P,w::vs,0,m,nd,h1,h2,hk=>by
  simp at h1 h2;subst h1;subst h2;show bindL kindOf ((p,w)::P.zip vs) m p=_;unfold bindL;rw[B9 λv hv=>(bU.mp nd).1 (jz hv).1,aN hk];simp
 | p::P,w::vs,i+1,m,nd,h1,h2,hk=>by
  skip
  unfold bindL;exact B_ (i:=i) (bU.mp nd).2 (by simpa using h1) (by simpa using h2) hk
theorem BD{kindOf:Str->Option NameKind}{x:Str}{v:af}:∀{P:ar}{vs:ba}{i:Nat}{m:Str->bd},P.Nodup->P[i]?=some x->vs[i]?=some v->kindOf x≠some .local ->
  bindC kindOf (P.zip vs) m x=some v
 | [],_,_,_,_,h,_,_=>by simp at h
 | _::_,[],_,_,_,_,h,_=>by simp at h
 | p::P,w::vs,0,m,nd,h1,h2,hk=>by
  simp at h1 h2;subst h1;subst h2;show bindC kindOf ((p,w)::P.zip vs) m p=_;unfold bindC;rw[Bu λv hv=>(bU.mp nd).1 (jz hv).1,aM hk];simp
 | p::P,w::vs,i+1,m,nd,h1,h2,hk=>by
  skip
  unfold bindC;exact BD (i:=i) (bU.mp nd).2 (by simpa using h1) (by simpa using h2) hk
abbrev start (N:ar)(vs:List V):St:=vs.map some++List.replicate (N.length-vs.length) none
abbrev GK (CX:Q3)(P:aj)(w:ah)(K:au)(mg:Str->bd)(base:aq)(N:ar)(qual:Str)(scope:Scope)(f:ak)(cd:af)(A:aA)(outer:List Env)(s:aC)(H:Hp)(E:XK):Cx where
 prog:=P
 w:=w
 K:=K
 mg:=mg
 base:=base
 A:=A.deeper (envOfC qual scope s.heap.objs.size f cd)
 N:=N
 s₀:=s
 H₀:=H
 env:=envOfC qual scope s.heap.objs.size f cd
 outer:=outer
 stack:=envOfC qual scope s.heap.objs.size f cd::outer
 ex:=[]
 calm:=true
 fn:=λ_=>true
 pn:=[]
 xe:=λe s'=>wpAny (model P w) (A.deeper<|envOfC qual scope s.heap.objs.size f cd) (leaving (envOfC qual scope s.heap.objs.size f cd) e) (λ_ d=>CX outer H s E e d) (λg d=>CX outer H s E g d) s'
def Fe{sc:Scope}{n:Nat}{x:Str}(h:sc.names.lookup x=some .cell):∃c,(cellsFrom n sc.names []).lookup x=some c:=by
 have q:=fJ sc.names n []<|.inl h;exact cY.mp q
def KJ{CX:Q3}{P:aj}{w:ah}{K:au}{mg:Str->bd}{base:aq}{N ps:ar}{scope:Scope}{f:ak}{A:aA}{outer:List Env}{s:aC}{H:Hp}{E:XK}{vs:List V}
  (S:FnScope N ps scope) (hd:A.handled=none) (e0:Env0 P w K mg base A outer s H) (hl:vs.length=ps.length) (r:Vals vs us)
  (x:InCallC s s.heap.objs.size (bindL (envOfC qual scope s.heap.objs.size f cd).kindOf (ps.zip us) λ_=>none) (cellsFrom (s.heap.objs.size+1) scope.names []) (bindC (envOfC qual scope s.heap.objs.size f cd).kindOf (ps.zip us) λ_=>none) s1) :
  Inv (GK CX P w K mg base N qual scope f cd A outer s H E) [] (start N vs) H s1:=by
 have F:ps.length<=N.length:=by have:=c7 List.length S.pre;rw[bP]at this;lia
 obtain⟨h1,J,rfl,C⟩:=x.done;have d:∀b:ak,b∉(GK CX P w K mg base N qual scope f cd A outer s H E).ex:=λb z=>absurd (show b∈([]:bb)from z) (by simp);refine⟨⟨e0.mod,S.kind,rfl,rfl,aK _,λy z c h1 h2=>?_,λy hy=>?_,λy c _ h=>?_,λ_=>hd,Around.frames_deeper e0.frames,.inr ⟨rfl,rfl⟩,λb z=>absurd z<|d b,e0.bs,e0.bsz,λb _ _=>d b,λb z=>absurd z<|d b,e0.Aq,e0.frf⟩,
  rfl,e0.bare,Un.kept C,⟨_,x.toInCall.ns,λi y v h1 h2 h3=>?_⟩,λy c h=>⟨_,x.cell y c h⟩,e0.hok.fresh<|aK _,λy c h=>?_,λp g=>absurd (show p∈([]:bn)from g)<|by simp,e0.hok.kept C,?_⟩
 ·exact name_of_addr x.apart (c5 h1) (c5 h2)
 ·have hy:scope.names.lookup y=some .cell\/scope.names.lookup y=some .free:=hy
  rcases hy with hy|hy
  ·exact Fe hy
  ·exact absurd rfl<|S.nofree _<|c5 hy
 ·exact dR (x.above y c<|c5 h)
 ·have t:i<vs.length:=by
   unfold start at h2;by_cases t:i<vs.length
   ·exact t
   ·rw[iW<|by simpa using t]at h2;rw[List.getElem?_replicate]at h2;split at h2<;>cases h2
  have ha:vs[i]?=some v:=by
   unfold start at h2;rw[bw<|by simpa using t,aX]at h2
   cases e:vs[i]? with
   | none=>rw[e]at h2;cases h2
   | some a=>rw[e]at h2;cases h2;rfl
  obtain⟨u,B,G⟩:=r.get ha;have g:ps[i]?=some y:=by
   rw[<- S.pre,gB ()];exact h1
  have j:ps.Nodup:=by rw[<- S.pre];exact S.nd.sublist (List.take_sublist _ _)
  refine⟨u,G,?_⟩
  rcases S.par y (aS g)with k|k
  ·exact .inl ⟨k,B_ j g B k⟩
  ·obtain⟨c,e⟩:=Fe (n:=s.heap.objs.size+1) k;refine .inr ⟨.inl k,c,e,?_⟩;have q:=x.cell y c e;rw[BD j g B<|by show scope.names.lookup y≠_;rw[k];decide]at q;exact q
 ·exact e0.hok.fresh (dR<|x.above y c<|c5 h)
 ·unfold start;show _=N.length;rw[aW,aG,List.length_replicate]
  lia
def ZO{CX:Q3}{P:aj}{w:ah}{K:au}{mg:Str->bd}{base:aq}{k:Nat}{f:ak}{kV pm ct:af}
  {osl:Array<|bd} {N ps:ar} {sp:Sp} (lk:K.lookup f=some ⟨oc,od,.func<|PySem.W.fnOf name qual params body scope dV kV doc pm an cdv ct,osl⟩) (hcd:PySem.W.codeIn K cdv qual=true) (S:FnScope N ps scope)
  (len:∀vs H Q E,sp vs H Q E->vs.length=ps.length)
  (hbody:∀(A:aA) (outer:List Env) (s:aC) (H:Hp) (vs:List V) (Q:VK) (E:XK),Room k (A.deeper<|envOfC qual scope s.heap.objs.size f cdv)->sp vs H Q E ->
   ∃t,CI (GK CX P w K mg base N qual scope f cdv A outer s H E) body t/\t { nx:=λ_ H'=>Q .non H',rt:=Q } (start N vs) H) :
  FnOk P w K mg base CX (k+1) f (PySem.W.fnOf name qual params body scope dV kV doc pm an cdv ct) ps sp:=by
 refine⟨len,λA outer s H F us vs Q E p e0 hb r j=>?_⟩;have L:=len _ _ _ _ j;have C:K.In s.heap:=e0.mod.kin.keeps λb o e=>(e0.bs b o e).1;have B:s.heap.NoLimit:=e0.mod.nolimit.keeps λb o e=>(e0.bs b o e).1;have g:∀y∈ps.zip us,scope.names.lookup y.1=some .local\/(scope.names.lookup y.1=some .cell/\((cellsFrom (s.heap.objs.size+1) scope.names []).lookup y.1).isSome=true):=λ⟨n,v⟩ hy=>by
  rcases S.par n (jz hy).1 with q|q
  ·exact .inl q
  ·exact .inr ⟨q,fJ _ _ _<|.inl q⟩
 refine codeAny_call_function p.depth (C _ _ lk) rfl S.co S.gen rfl (PySem.W.codeRec_of C hcd)<|hb _ _ _ _ ?_;refine wpAny_newFunctionEnv_cells S.kind g λenv O G x=>?_;subst O;refine⟨B.keeps x.toInCall.keep,codeAny_func ?_⟩;obtain⟨t,M,hq⟩:=hbody A outer s H vs Q E (p.deeper _) j;have I:Inv (GK CX P w K mg base N qual scope f cdv A outer s H E) [] (start N vs) H G:=KJ S p.hd e0 L r x;refine gb (M [] G (start N vs) H _ I hq) (λfl s' hs=>?_) λe s' hs=>hs;have fin:∀{d:St} {H':Hp} {v:V} {u:af},Inv (GK CX P w K mg base N qual scope f cdv A outer s H E) [] d H' s'->RelV v u->Q v H'->CE outer P w H s Q u s':=
  λ{d H' v u} J z q=>⟨v,H',J.os,J.bare,J.base,J.hok,z,q⟩
 cases fl with
 | ret u=>
  obtain⟨v,d,H',J,z,q⟩:=hs;exact fin J z q
 | next=>
  obtain⟨d,H',J,q⟩:=hs;exact fin (v:=V.non) (u:=Value.none) J rfl q
 | brk=>
  obtain⟨_,_,_,q⟩:=hs;exact False.elim q
 | cont=>
  obtain⟨_,_,_,q⟩:=hs;exact False.elim q
section
variable {X:Cx}{x:Str}{p pos:Pos}{e:aE}{es:List aE}{t:TA}{id T:String}{r:List V->Hp->VK->Prop}
abbrev tCB (r:List V->Hp->VK->Prop)(t:TA):TE:=λσ H Q=>t σ H λd H1=>r d H1 Q
def MK(hc:kj X (.builtin id) r)(hg:Gl X x)(hm:X.mg x=none)(hv:bootBuiltins x=some (.builtin id))(ha:PA X (e::es) t)(hn:x ≠ "__name__" := by decide)(hdb:(x == ("__debug__" : Str))=false:=by decide)
  (he:starEach (e::es) X.env=(false,eval e X.env)::starEach es X.env:=by rfl) (hpl:(backTo pos<|starEach es X.env).any (·.1)=false:=by rfl):PE X (.Call (.Name x p) (e::es) [] pos) (tCB r t):=by
 gp_on;refine iV<|ye I hg hm hv ?_ hn hdb;exact PyProof.Rows.callWith_builtin1 (mX (ha pos pins s σ H _ I h) λus g ⟨d,H1,f,r1,j⟩=>hc pins g σ H1 d us Q f r1 j) he hpl
def Lm(hc:kj X (.type T) r)(hg:Gl X x)(hm:X.mg x=none)(hv:bootBuiltins x=some (.type T))(ha:PA X (e::es) t)(hn:x ≠ "__name__" := by decide)(hdb:(x == ("__debug__" : Str))=false:=by decide)
  (he:starEach (e::es) X.env=(false,eval e X.env)::starEach es X.env:=by rfl) (hpl:(backTo pos<|starEach es X.env).any (·.1)=false:=by rfl):PE X (.Call (.Name x p) (e::es) [] pos) (tCB r t):=by
 gp_on;refine iV<|ye I hg hm hv ?_ hn hdb;exact eg (mX (ha pos pins s σ H _ I h) λus g ⟨d,H1,f,r1,j⟩=>hc pins g σ H1 d us Q f r1 j) he hpl
end
end L2
namespace HT
open PySem PyProof.Rows
abbrev lexLt:ag->ag->Bool
 | [],[]=>false
 | [],_::_=>true
 | _::_,[]=>false
 | x::xs,y::ys=>if x=y then lexLt xs ys else decide (x<y)
def tu(x y:Int)(xs ys:ag):lexLt (x::xs) (y::ys)=if x=y then lexLt xs ys else decide (x<y):=rfl
def rZ:lexLt [] []=false:=rfl
def oG(y:Int)(ys:ag):lexLt [] (y::ys)=true:=rfl
def qE(x:Int)(xs:ag):lexLt (x::xs) []=false:=rfl
section
variable {prog:aj}{w:ah}{A:aA}{E:af->aC->Prop}{s:aC}
def Tf{t:ak}{vs ws:ba}{Q:af->aC->Prop}(ht:IsTup s.heap t vs.toArray)(hb:IsTup s.heap b ws.toArray)(hv:vs≠[])
  (h1:ws=[]->Q (.ref t) s) (h2:ws≠[]->Q (.ref s.heap.objs.size) { s with heap:=s.heap.push { cls:=.type "tuple",data:=.seq (vs++ws).toArray }})
  (hsz:vs.length+ws.length<=sizeLine):wpAny (model prog w) A (binaryOp .Add (.ref t)<|.ref b) Q E s:=by
 obtain⟨⟨cls,G,data,B⟩,p,hc,n,F⟩:=id ht;obtain⟨⟨C,g,q,j⟩,d,k,z,f⟩:=id hb;simp only at hc F k f;subst hc F k f;have e:vs.toArray++ws.toArray=(vs++ws).toArray:=by simp
 by_cases hw:ws=[]
 ·exact concat_meets ⟨_,p,rfl⟩ ⟨_,d,rfl⟩ noFill_tuple_add seq_tuple_add gS gO (gC _ _)
   (tuple_addW1 t b vs.toArray ws.toArray n z G g B j (by simpa using hv)<|by simp[hw]) ⟨p,d,h1 hw⟩
 ·refine concat_meets ⟨_,p,rfl⟩ ⟨_,d,rfl⟩ noFill_tuple_add seq_tuple_add gS gO (gC _ _)
   (tuple_addW2 t b vs.toArray ws.toArray n z G g B j (by simpa using hv) (by simpa using hw)<|by rw[aZ,aZ];exact hsz) ⟨p,d,?_⟩
  rw[e];exact h2 hw
abbrev sIx (n d:Nat):Option Int->Nat
 | none=>d
 | some v=>if v<0 then(v+(n:Int)).toNat else min v.toNat n
end
end HT
namespace L2
open PySem PySem.Spec PyProof.Rows
meta abbrev TO:=St->Hp->(Option Int->Hp->Prop)->Prop
def intsAre_of{ns:ag}:∀{us:ba},Vals (ns.map V.int) us->IntsAre us ns:=by
 induction ns with
 | nil=>intro us r;rw[fK]at r;cases r;exact .nil
 | cons n ns d=>
  intro us r;rw[bI]at r
  cases r with
  | cons r1 r2=>
   obtain⟨t,e⟩:=r1;subst e;exact .cons n t<|d r2
section
variable {X:Cx}{p2:Pos}
abbrev aav (K:au):R2:=λx y H Q=>∃a b xs ys,x=.ref a/\y=.ref b/\nF K H a xs/\nF K H b ys/\xs≠[]/\xs.length+ys.length<=sizeLine /\
 (ys=[]->Q (.ref a) H)/\(ys≠[]->∀p,H p=none->Q (.ref p) (upd H p<|.tup<|xs++ys))
def Vals.Dv(r:Vals xs us):us=[] ↔ xs=[]:=by
 cases r with
 | nil=>simp
 | cons _ _=>simp
def Ry:n5 X (binaryOp .Add) (aav X.K):=by
 kcj_m;obtain⟨a,b,xs,ys,rfl,rfl,ha,hb,p,f,g,k⟩:=h
 cases rx
 cases ry
 obtain⟨j,r1,p1,_⟩:=I.tuple ha;obtain⟨d,r2,p2,_⟩:=I.tuple hb;refine HT.Tf p1 p2 (λz=>p<|r1.Dv.mp z) (λz=>⟨.ref a,H,I,rfl,g<|r2.Dv.mp z⟩) (λz=>?_) (by rw[<- r1.length,<- r2.length];exact f);refine⟨.ref s.heap.objs.size,_,I.laid (t':=s.toks) (o:=.tup<|xs++ys) (λb ob q=>aV _ q) (aK _) ?_,rfl,k (λw=>z<|r2.Dv.mpr w) _<|I.hok.fresh<|aK _⟩;exact⟨by rw[aW];exact f,_,r1.append r2,qA.new _ _⟩
end
abbrev EK (n:Nat)(i:Int):bj:=if 0<=i then(if i<n then some i.toNat else none)else if -(n:Int)<=i then some (i+n).toNat else none
abbrev t8 {α:Type}(xs:List α)(i:Int):Option α:=(EK xs.length i).bind λj=>xs[j]?
def Jm{n:Nat}{i:Int}(h:EK n i=some j):seqIndex? i n=some j/\j<n/\-(n:Int)<=i/\i<n:=by
 unfold EK at h;by_cases h0:0<=i
 ·rw[aN h0]at h;by_cases h1:i<n
  ·rw[aN h1]at h;have e:i.toNat=j:=bf h;exact⟨by rw[seqIndex_of h0 h1,e],(),(),h1⟩
  ·rw[aM h1]at h;cases h
 ·rw[aM h0]at h;by_cases h1:-(n:Int)<=i
  ·rw[aN h1]at h;have e:(i+n).toNat=j:=bf h;exact⟨by rw[seqIndex_neg () h1,e],(),h1,()⟩
  ·rw[aM h1]at h;cases h
def DT{α:Type}{xs:List α}{i:Int}{v:α}(h:t8 xs i=some v):∃j,seqIndex? i xs.length=some j/\xs[j]?=some v/\j<xs.length/\-(xs.length:Int)<=i/\i<xs.length:=by
 unfold t8 at h
 cases e:EK xs.length i with
 | none=>rw[e]at h;cases h
 | some j=>
  rw[e]at h;obtain⟨h1,h2,h3,d⟩:=Jm e;exact⟨j,h1,h,h2,h3,d⟩
def Rw{α:Type}{xs:List α}{j:Nat}{v:α}(h:xs[j]?=some v):t8 xs (j:Int)=some v:=by
 have d:j<xs.length:=(aJ.mp h).1;have e:EK xs.length (j:Int)=some j:=by
  unfold EK;rw[aN (),aN ()];simp
 unfold t8;rw[e];exact h
abbrev xw (b:aE):Prop:=∀o i,subscripted b false o i=operate [o,i] (getItem o i)
abbrev Um (X:Cx)(r:R2):Prop:=
 ∀(f d:aE) (pins:bn) (s:aC) (σ:St) (H:Hp) (x y:V) (v u:af) (Q:VK),Inv X pins σ H s->RelV x v->RelV y u->r x y H Q ->
  subscripted d false v u=operate [v,u] (getItem v u)->wpAny (model X.prog X.w) X.A (subscriptTail f d v u) (EP X pins σ Q) X.xe s
abbrev LW (X:Cx)(id:String)(r:V->List V->Hp->VK->Prop):Prop:=
 ∀(pins:bn) (s:aC) (σ:St) (H:Hp) (x:V) (xs:List V) (v:af) (us:ba) (Q:VK),Inv X pins σ H s->RelV x v->Vals xs us->r x xs H Q ->
  wpAny (model X.prog X.w) X.A (call (.builtin id) (v::us)) (EP X pins σ Q) X.xe s
section
variable {X:Cx}{a b:aE}{ta tb:TE}{pos:Pos}
def IL{r:R2}(hr:Um X r)(ha:PE X a ta)(hb:PE X b tb)(hs:xw b):PE X (.Subscript a b pos) (Y7 r ta tb):=by
 gp_on;exact Subscript_<|Yq ha hb I h λv u f x y H2 d rx ry q=>hr a b pins f σ H2 x y v u Q d rx ry q<|hs _ _
abbrev aa1 (K:au):R2:=λx y H Q=>∃p xs i v,x=.ref p/\y=.int i/\qK K H p xs/\t8 xs i=some v/\Q v H
abbrev abQ (K:au):R2:=λx y H Q=>∃p xs i v,x=.ref p/\y=.int i/\nF K H p xs/\t8 xs i=some v/\Q v H
abbrev abk:R2:=λx y H Q=>∃z i c,x=.str z/\y=.int i/\z.length<=sizeLine/\t8 z.cps.toList i=some c/\Q (.str ⟨#[c]⟩) H
def J5:Um X (aa1 X.K):=by
 intro d k pins s σ H x y v u Q I rx ry h hs;obtain⟨p,xs,i,z,rfl,rfl,hq,L,q⟩:=h
 cases rx
 obtain⟨t,rfl⟩:=ry;obtain⟨f,r,pl,M⟩:=I.list hq;obtain⟨j,h1,h2,h3,J,F⟩:=DT L;obtain⟨w,C,g⟩:=r.get h2;have G:=r.length;have hn:=xQ;have fin:EP X pins σ Q w s:=⟨z,H,I,g,q⟩;by_cases h0:0<=i
 ·have B:i.toNat=j:=by
   rw[seqIndex_of h0 F]at h1;exact bf h1
  exact item_listR pl.isList h0 () (by rw[B];simpa using C) fin hs
 ·have B:(i+(f.toArray.size:Int)).toNat=j:=by
   rw[seqIndex_neg () J]at h1;rw[aZ,<- G];exact bf h1
  exact subscriptTail_builtinR (x:=w) pl.isList.typeIs slot_list_getitem.lookup
   (wpAny_getItem_list_neg (Q:=λr s'=>r=w/\EP X pins σ Q r s') pl.isList () (by rw[aZ]<;>lia) () (by rw[B];simpa using C) ⟨rfl,fin⟩) hs
def WE:Um X (abQ X.K):=by
 intro d g pins s σ H x y v u Q I rx ry h hs;obtain⟨p,xs,i,z,rfl,rfl,hq,F,q⟩:=h
 cases rx
 obtain⟨t,rfl⟩:=ry;obtain⟨B,r,pl,L⟩:=I.tuple hq;obtain⟨j,h1,h2,h3,J,G⟩:=DT F;obtain⟨w,k,f⟩:=r.get h2;have C:=r.length;have hn:=xQ;have fin:EP X pins σ Q w s:=⟨z,H,I,f,q⟩;exact subscriptTail_builtinR (x:=w) pl.typeIs slot_tuple_getitem.lookup
  (getItem_tuple (j:=j) (Q:=λr s'=>r=w/\EP X pins σ Q r s') pl () () (by rw[aZ,<- C];exact h1) (by simpa using k) ⟨rfl,fin⟩) hs
def Yv:Um X abk:=by
 intro d f pins s σ H x y v u Q I rx ry h hs;obtain⟨z,i,c,rfl,rfl,F,B,q⟩:=h;obtain⟨t,rfl⟩:=rx;obtain⟨C,rfl⟩:=ry;obtain⟨j,h1,h2,h3,p,g⟩:=DT B;have k:z.cps.toList.length=z.length:=by simp[Str.length]
 rw[k]at h1 p g;have hn:=xQ;exact tail_any (typeIs_str s z t) slot_str_getitem.lookup (getItem_str (c:=c) (by
  have e1:decide (i < -(2 ^ 63:Int))=false:=bB ();have e2:decide (i>=2 ^ 63)=false:=bB ();rw[e1,e2,Bool.or_false]) (by rw[h1];simpa using h2) ⟨.str ⟨#[c]⟩,H,I.tok _,⟨_,rfl⟩,q⟩) hs
def GX(its:ba)(n j:Nat)(u:af):Obj.mapSeq (·.setIfInBounds j u) { cls:=.type "list",data:=.seq its.toArray n }={ cls:=.type "list",data:=.seq (its.set j u).toArray n }:=by
 simp[Obj.mapSeq]
def Inv.lst{H:Hp}{s:aC}{p:ak}{xs:List V}(I:Inv X pins σ H s)(h:H p=some (.lst xs)) :
  ∃(its:ba) (n:Nat),Vals xs its/\s.heap.get? p=some { cls:=.type "list",data:=.seq its.toArray n }/\xs.length<=sizeLine:=by
 obtain⟨z,its,n,r,e⟩:=I.hok p _ h;exact⟨its,n,r,e,z⟩
def Inv.Yd{H:Hp}{s:aC}{p:ak}{ys:List V}{its its':ba}{n:Nat}{f:Obj->Obj}(I:Inv X pins σ H s)(h:H p=some (.lst xs))
  (ho:s.heap.get? p=some { cls:=.type "list",data:=.seq its.toArray n }) (hf:f { cls:=.type "list",data:=.seq its.toArray n }={ cls:=.type "list",data:=.seq its'.toArray n' }) (r:Vals ys its') (hz:ys.length<=sizeLine) (t:Nat) :
  Inv X pins σ (upd H p<|.lst ys) { s with heap:=s.heap.update p f,toks:=t }:=by
 have e:(s.heap.update p f).get? p=some { cls:=.type "list",data:=.seq its'.toArray n' }:=by
  rw[iu f ho<|by rw[hf]<;>rfl,hf]
 refine I.write (x:=p) (e:=p) (by rw[h];trivial) (.inl rfl) (λb u hb q=>(Heap.get?_update_other _ _<|cR hb).trans q) ⟨_,e⟩ ?_;exact⟨hz,its',n',r,e⟩
abbrev Zc:V->V->V->Hp->(Hp->Prop)->Prop:=λo i v H Q=>∃p xs k j,o=.ref p/\i=.int k/\H p=some (.lst xs)/\EK xs.length k=some j/\Q (upd H p<|.lst<|xs.set j v)
def set_list:E3 X Zc:=by
 intro pins s σ H o i v N iv u Q I G K J h;obtain⟨p,xs,k,j,rfl,rfl,F,M,q⟩:=h
 cases G
 obtain⟨t,rfl⟩:=K;obtain⟨d,n,r,g,L⟩:=I.lst F;obtain⟨h1,h2,h3,C⟩:=Jm M;have f:=r.length;have hn:=xQ;have B:Inv X pins σ (upd H p<|.lst<|xs.set j v) { s with heap:=s.heap.update p<|Obj.mapSeq (·.setIfInBounds j u)}:=
  I.Yd F g (GX d n j u) (r.set J j) (by rw[bV];exact L) s.toks
 by_cases h0:0<=k
 ·have z:k.toNat=j:=by
   rw[seqIndex_of h0 C]at h1;exact bf h1
  exact PySem.W.ki_setAt g h0 () (by rw[aZ,<- f];exact C)<|by rw[z];exact⟨_,B,q⟩
 ·have z:(k+(d.toArray.size:Int)).toNat=j:=by
   rw[seqIndex_neg () h3]at h1;rw[aZ,<- f];exact bf h1
  exact PySem.W.ki_setBack g () (by rw[aZ,<- f];exact h3) ()<|by rw[z];exact⟨_,B,q⟩
def tH:kj X (.type "list") (λxs H Q=>∃p ys,xs=[.ref p]/\(qK X.K H p ys\/nF X.K H p ys)/\∀l,H l=none->Q (.ref l) (upd H l<|.lst ys)):=by
 kt_k;obtain⟨p,ys,rfl,hq,q⟩:=h;kpc_g
 cases rx
 have fin:∀(d:ba),Vals ys d->ys.length<=sizeLine->∀(h':aq) (f:Nat),(∀b o',s.heap.get? b=some o'->h'.get? b=some o') ->
   h'.get? s.heap.objs.size=some { cls:=.type "list",dict:=none,data:=.seq d.toArray f,slots:=#[]}->EP X pins σ Q (.ref s.heap.objs.size) { s with heap:=h' }:=λd g k h' f kp e=>
  ⟨.ref s.heap.objs.size,_,I.laid (t':=s.toks) kp (aK _)<|show kO X.prog X.w _ h' _ (.lst ys)from⟨k,d,f,g,e⟩,rfl,q _<|I.hok.fresh<|aK _⟩
 rcases hq with hq|hq
 ·obtain⟨d,g,pl,k⟩:=I.list hq;have j:=g.length;obtain⟨o,t,hc,n,z⟩:=pl.isList;exact call_list_seq p (.inl rfl) t hc z (λh' f kp e=>fin d g k h' f kp e) (by dsimp[aZ]<;>lia)
 ·obtain⟨d,g,pl,k⟩:=I.tuple hq;have j:=g.length;obtain⟨o,t,hc,n,z⟩:=pl;exact call_list_seq p (.inr rfl) t hc z (λh' f kp e=>fin d g k h' f kp e)<|by dsimp[aZ]<;>lia
def rX:kj X (.type "tuple") (λxs H Q=>∃p ys,xs=[.ref p]/\((qK X.K H p ys/\∀l,H l=none->Q (.ref l) (upd H l<|.tup ys))\/(nF X.K H p ys/\Q (.ref p) H))):=by
 kt_k;obtain⟨p,ys,rfl,h⟩:=h;kpc_g
 cases rx
 rcases h with⟨hq,q⟩|⟨hq,q⟩
 ·obtain⟨d,f,pl,k⟩:=I.list hq;have g:=f.length;refine call_tuple_list pl.isList (λh' kp=>?_) (by dsimp[aZ]<;>lia);have j:Inv X pins σ H { s with heap:=h' }:=I.kept (t':=s.toks) kp;have t:Inv X pins σ (upd H h'.objs.size<|.tup ys) { s with heap:=h'.push { cls:=.type "tuple",data:=.seq d.toArray }}:=
   j.laid (t':=s.toks) (λb o e=>aV _ e) (aK _) (show kO X.prog X.w _ _ _ (.tup ys)from⟨k,d,f,qA.new _ _⟩)
  exact⟨.ref h'.objs.size,_,t,rfl,q _<|j.hok.fresh<|aK _⟩
 ·obtain⟨d,f,pl,k⟩:=I.tuple hq;exact call_tuple_same pl ⟨.ref p,H,I,rfl,q⟩
abbrev YK (K:au)(T:String)(x:V)(H:Hp):Prop:=match x with
 | .str _=>T = "str"
 | .int _=>T = "int"
 | .ref p=>(T = "list" /\ ∃xs,qK K H p xs)\/(T = "tuple" /\ ∃o,K.lookup p=some o/\o.cls=.type "tuple" /\ o.dict=none) \/
   (T = "dict" /\ ((∃kvs,H p=some (.dK kvs))\/∃kvs,H p=some (.dT kvs)))\/(T = "set" /\ ∃S n,H p=some (.set S n))
 | _=>False
def Mc{H:Hp}{s:aC}{x:V}{v:af}(I:Inv X pins σ H s)(r:RelV x v)(ty:YK X.K T x H) :
  s.TypeIs v T/\∀a,v=.ref a->∃ob,s.heap.get? a=some ob/\ob.dict=none:=by
 cases x with
 | str z=>
  obtain⟨t,rfl⟩:=r
  cases(show T = "str" from ty)
  exact⟨typeIs_str s z t,nofun⟩
 | int i=>
  obtain⟨t,rfl⟩:=r
  cases(show T = "int" from ty)
  exact⟨typeIs_int s i t,nofun⟩
 | ref p=>
  cases r
  rcases ty with⟨rfl,xs,hq⟩|⟨rfl,o,d,hc,f⟩|⟨rfl,d⟩|⟨rfl,S,n,d⟩
  ·obtain⟨g,_,pl,_⟩:=I.list hq;refine⟨pl.isList.typeIs,λa e=>?_⟩
   cases e
   obtain⟨o,n,e,c,f,_⟩:=pl;exact⟨o,e,f⟩
  ·refine⟨⟨o,I.D3 p o d,hc⟩,λa e=>?_⟩
   cases e
   exact⟨o,I.D3 _ o d,f⟩
  ·have z:∃o,s.heap.get? p=some o/\o.ExactDict:=by
    rcases d with⟨kvs,d⟩|⟨kvs,d⟩
    ·obtain⟨_,_,_,_,o,_,_,e,ex,_⟩:=I.hok p _ d;exact⟨o,e,ex⟩
    ·obtain⟨_,_,_,_,o,_,_,e,ex,_⟩:=I.hok p _ d;exact⟨o,e,ex⟩
   obtain⟨o,e,ex⟩:=z;refine⟨⟨o,e,ex.1⟩,λa e2=>?_⟩
   cases e2
   exact⟨o,e,ex.2.1⟩
  ·obtain⟨o,_,_,_,e,ex,_⟩:=I.hok p _ d;refine⟨⟨o,e,ex.1⟩,λa e2=>?_⟩
   cases e2
   exact⟨o,e,ex.2.1⟩
 | _=>exact False.elim ty
abbrev aaY (K:au)(T:String)(r:V->List V->Hp->VK->Prop)(to:TE):TE:=λσ H Q=>to σ H λx H1=>YK K T x H1/\r x [] H1 Q
abbrev tBM (K:au)(T:String)(r:V->List V->Hp->VK->Prop)(to:TE)(t:TA):TE:=λσ H Q=>to σ H λx H1=>YK K T x H1/\t σ H1 λxs H2=>r x xs H2 Q
variable {o e:aE}{es:List aE}{to:TE}{t:TA}{name:Str}{apos cpos:Pos}{T id:String}{r:V->List V->Hp->VK->Prop}
def Wu(pa:PlainAttrs T)(slot:Slot T name id)(hty:typeOf (.builtin id)=pure (.type "method_descriptor"))(hm:LW X id r)(ho:PE X o to)
  (hbase:attributeBase o name X.env (eval o X.env)=eval o X.env:=by rfl) (hline:(apos.endLine == cpos.line)=true:=by rfl):PE X (.Call (.Attribute o name apos) [] [] cpos) (aaY X.K T r to):=by
 gp_on;refine wpAny_Call_method0_late hbase hline<|mX (ho pins s σ H _ I h) λv f ⟨x,H1,d,r1,ty,g⟩=>?_;obtain⟨h1,h2⟩:=Mc d r1 ty;exact⟨T,id,pa,slot,hty,h1,h2,Calls.callWith_builtin rfl<|PySem.evalArgs_none<|hm pins f σ H1 x [] v [] Q d r1 .nil g⟩
def Mn(pa:PlainAttrs T)(slot:Slot T name id)(hty:typeOf (.builtin id)=pure (.type "method_descriptor"))(hm:LW X id r)(ho:PE X o to)(ha:PA X (e::es) t)
  (hbase:attributeBase o name X.env (eval o X.env)=eval o X.env:=by rfl)
  (hfew:((backTo cpos<|starEach (e::es) X.env).all (λx=>!x.1) && (backToKw cpos<|keywordEach [] X.env).all (λx=>x.1.isSome)
   && decide ((e::es).length+([]:List Keyword).length+(if ([]:List Keyword).isEmpty then 0 else 1)<30))=true:=by rfl)
  (hline:(apos.endLine == cpos.line)=true:=by rfl) (hs:starEach (e::es) X.env=(false,eval e X.env)::starEach es X.env:=by rfl) (hplain:(backTo cpos<|starEach es X.env).any (·.1)=false:=by rfl) :
  PE X (.Call (.Attribute o name apos) (e::es) [] cpos) (tBM X.K T r to t):=by
 gp_on;refine wpAny_Call_method_late hbase hfew hline rfl<|mX (ho pins s σ H _ I h) λv j ⟨x,H1,d,r1,ty,z⟩=>?_;obtain⟨h1,h2⟩:=Mc d r1 ty;refine⟨T,id,pa,slot,hty,h1,h2,?_⟩;have f:=ha cpos pins j σ H1 _ d z;rw[hs]at f ⊢;refine Calls.callWith_builtin (by show(false || (backTo cpos<|starEach es X.env).any (·.1))=false;rw[hplain]<;>rfl)<|Calls.evalArgs_plain ?_;exact mX f λus p ⟨g,H2,k,r2,q⟩=>hm pins p σ H2 x g v us Q k r1 r2 q
end
abbrev ZS (X:Cx)(id:String)(r:V->List V->Hp->VK->Prop):Prop:=
 ∀(pins:bn) (s:aC) (σ:St) (H:Hp) (x:V) (xs:List V) (v:af) (us:ba) (Q:VK),Inv X pins σ H s->RelV x v->Vals xs us->r x xs H Q ->
  wpAny (model X.prog X.w) X.A (call (.builtin id) (v::us)) (EP X pins σ Q) X.xe s
def Vals.one:∀{x:V}{us:ba},Vals [x] us->∃u,us=[u]/\RelV x u
 | _,_,.cons r .nil=>⟨_,rfl,r⟩
def Vals.zero:∀{us:ba},Vals [] us->us=[]
 | _,.nil=>rfl
def Vals.dropLast{xs:List V}{us:ba}(h:Vals xs us):Vals xs.dropLast us.dropLast:=by
 induction h with
 | nil=>exact .nil
 | cons r t d=>
  cases t with
  | nil=>exact .nil
  | cons q f=>exact .cons r d
theorem Vals.eraseIdx:∀{xs:List V}{us:ba}(i:Nat),Vals xs us->Vals (xs.eraseIdx i) (us.eraseIdx i)
 | _,_,_,.nil=>.nil
 | _,_,0,.cons _ t=>t
 | _,_,i+1,.cons r t=>.cons r<|Vals.eraseIdx i t
theorem Vals.rep(h:Vals xs us):∀k:Nat,Vals (List.replicate k xs).flatten (List.replicate k us).flatten
 | 0=>.nil
 | k+1=>by
  rw[dG,dG,e_,e_];exact Vals.append h<|Vals.rep h k
def GS{α:Type}(l:List α):l.eraseIdx (l.length-1)=l.dropLast:=by
 induction l with
 | nil=>rfl
 | cons a r d=>
  cases r with
  | nil=>rfl
  | cons b r=>
   have e:(a::b::r).length-1=((b::r).length-1)+1:=by
    have h1:(a::b::r).length=r.length+2:=rfl;have h2:(b::r).length=r.length+1:=rfl
    lia
   rw[e,List.eraseIdx_cons_succ,d]
   all_goals rfl
theorem By{α:Type}:∀(l:List α) (i:Nat),(l.eraseIdx i).length<=l.length
 | [],_=>aK _
 | _::_,0=>Nat.le_succ _
 | _::r,i+1=>Nat.succ_le_succ<|By r i
theorem foldl_rep(its:ba):∀(k:Nat) (acc:ba),
  List.foldl (λx1 x2=>x1++x2) acc.toArray (List.replicate k its.toArray)=(acc++(List.replicate k its).flatten).toArray
 | 0,acc=>by simp
 | k+1,acc=>by
  have e:acc.toArray++its.toArray=(acc++its).toArray:=by simp
  have e2:(acc++its)++(List.replicate k its).flatten=acc++(List.replicate (k+1) its).flatten:=by
   rw[dG,e_,bX]
  rw[<- e2,<- foldl_rep its k (acc++its),<- e,dG,dH]
section
variable {X:Cx}{pins:bn}{σ:St}{H:Hp}{s:aC}{l:ak}{xs ys:List V}
def Inv.Q6{its its':ba}{n:Nat}{f:Array af->Array af}{t':Nat}(I:Inv X pins σ H s)(hH:H l=some (.lst xs))
  (e:s.heap.get? l=some { cls:=.type "list",data:=.seq its.toArray n }) (hf:f its.toArray=its'.toArray) (hv:Vals ys its') (hz:ys.length<=sizeLine) :
  Inv X pins σ (upd H l<|.lst ys) { s with heap:=s.heap.update l<|Obj.mapSeq f,toks:=t' }:=by
 have q:=PySem.IsL.update e f;rw[hf]at q;refine I.write (x:=l) (e:=l) (by rw[hH];exact trivial) (.inl rfl) (λg u hb d=>(Heap.get?_update_other s.heap (Obj.mapSeq f)<|cR hb).trans d) ⟨_,q⟩ ?_;exact⟨hz,its',_,hv,q⟩
def Inv.XW{its:ba}{t':Nat}(I:Inv X pins σ H s)(hv:Vals ys its)(hz:ys.length<=sizeLine) :
  Inv X pins σ (upd H s.heap.objs.size<|.lst ys) { s with heap:=s.heap.push { cls:=.type "list",data:=.seq its.toArray },toks:=t' }:=
 I.laid (λ_ _ q=>aV _ q) (aK _) ⟨hz,its,0,hv,bA _ rfl⟩
def Inv.fresh(I:Inv X pins σ H s):H s.heap.objs.size=none:=I.hok.fresh<|aK _
def Inv.Ek(I:Inv X pins σ H s)(hH:H l=some (.lst xs)):xs.length<=sizeLine/\∃(its:ba) (n:Nat),Vals xs its/\xs.length=its.length/\s.heap.get? l=some { cls:=.type "list",data:=.seq its.toArray n }:=by
 obtain⟨z,its,n,r,e⟩:=I.hok l _ hH;exact⟨z,its,n,r,r.length,e⟩
def FI{n:Nat}(h:n<=sizeLine):Builtin.List.listTooLong n=false:=by
 unfold Builtin.List.listTooLong;exact bB ()
end
section
variable {X:Cx}
abbrev SX:V->List V->Hp->VK->Prop:=λx d H Q=>∃l xs y,x=.ref l/\d=[y]/\H l=some (.lst xs)/\xs.length<sizeLine/\Q .non (upd H l<|.lst<|xs++[y])
def BO:ZS X "list.append" SX:=by
 intro pins s σ H x k v us Q I rx g h;obtain⟨l,xs,y,rfl,rfl,f,t,q⟩:=h
 cases rx
 obtain⟨u,rfl,j⟩:=g.one;obtain⟨z,d,n,r,p,e⟩:=I.Ek f;refine iC F.slot_list_append ⟨_,e,rfl⟩ F.entry_list_append (F.args_list_append_2 _ _) (PySem.list_append l d.toArray n u<|by rw[aZ];lia) ⟨e,?_⟩;refine⟨.non,_,I.Q6 (its':=d++[u]) f e (by simp) (r.append<|.cons j .nil) ?_,rfl,q⟩;rw[aW,List.length_singleton]
 lia
abbrev SG:V->List V->Hp->VK->Prop:=λx d H Q=>∃l b xs zs,x=.ref l/\d=[.ref b]/\H l=some (.lst xs)/\H b=some (.lst zs)/\xs.length+zs.length<=sizeLine/\Q .non (upd H l<|.lst<|xs++zs)
def Lh:ZS X "list.extend" SG:=by
 intro pins s σ H x J v us Q I rx B h;obtain⟨l,b,xs,zs,rfl,rfl,k,p,M,q⟩:=h
 cases rx
 obtain⟨u,rfl,G⟩:=B.one
 cases G
 obtain⟨z,f,n,r,L,e⟩:=I.Ek k;obtain⟨K,d,C,r2,t,e2⟩:=I.Ek p;have j:f.toArray.size+d.toArray.size<=sizeLine:=by rw[aZ,aZ];lia
 have g:¬(!f.toArray.isEmpty && Builtin.List.listTooLong (f.toArray.size+d.toArray.size))=true:=by
  rw[FI j,Bool.and_false];exact bN
 refine iC F.slot_list_extend ⟨_,e,rfl⟩ F.entry_list_extend (F.args_list_extend_2 _ _)
  (AutoSeq1.list_extend_list_list_0 l f.toArray n b d.toArray C g (by rw[aZ];lia) ()) ⟨e,e2,?_⟩
 refine⟨.non,_,I.Q6 (its':=f++d) k e (by simp) (r.append r2) ?_,rfl,q⟩;rw[aW]
 lia
abbrev ab4:V->List V->Hp->VK->Prop:=λx d H Q=>∃l xs y,x=.ref l/\d=[]/\H l=some (.lst xs)/\xs[xs.length-1]?=some y/\Q y (upd H l<|.lst xs.dropLast)
def WK:ZS X "list.pop" ab4:=by
 intro pins s σ H x C v us Q I rx p h;obtain⟨l,xs,y,rfl,rfl,j,hy,q⟩:=h
 cases rx
 have g:=p.zero;subst g;obtain⟨z,d,n,r,k,e⟩:=I.Ek j;obtain⟨u,t,B⟩:=r.get hy;have f:d.toArray[d.toArray.size-1]?=some u:=by
  show d.toArray[d.length-1]?=some u;rw[<- c6,<- k];exact t
 refine iC F.slot_list_pop ⟨_,e,rfl⟩ F.entry_list_pop (F.args_list_pop_1 _) (MeetsSeq.list_pop_last l d.toArray n u f<|by rw[aZ];lia) ⟨e,?_⟩;refine⟨y,_,I.Q6 (its':=d.dropLast) j e ?_ r.dropLast ?_,B,q⟩
 ·skip
  rw[aZ,fC,GS]
 ·rw[List.length_dropLast]
  lia
abbrev Wj:V->List V->Hp->VK->Prop:=λx d H Q=>∃l xs i k y,x=.ref l/\d=[.int i]/\H l=some (.lst xs)/\-(2 ^ 63)<=i/\i<2 ^ 63/\seqIndex? i xs.length=some k/\xs[k]?=some y/\Q y (upd H l<|.lst<|xs.eraseIdx k)
def QF:ZS X "list.pop" Wj:=by
 intro pins s σ H x G v us Q I rx p h;obtain⟨l,xs,i,k,y,rfl,rfl,g,h1,h2,C,hy,q⟩:=h
 cases rx
 obtain⟨u,rfl,B⟩:=p.one;obtain⟨t,rfl⟩:=B;obtain⟨z,d,n,r,j,e⟩:=I.Ek g;obtain⟨w,hw,f⟩:=r.get hy;refine iC F.slot_list_pop ⟨_,e,rfl⟩ F.entry_list_pop (F.args_list_pop_2 _ _)
  (MeetsSeq.list_pop_at l d.toArray n i t k w (fitsIndex_both h1 h2) (by rw[aZ,<- j];exact C) (by rw[<- c6];exact hw)<|by rw[aZ];lia) ⟨e,?_⟩
 refine⟨y,_,I.Q6 (its':=d.eraseIdx k) g e ?_ (r.eraseIdx k) ?_,f,q⟩
 ·skip
  rw[fC]
 ·have:=By xs k
  lia
abbrev abD:R2:=λx y H Q=>∃l b xs zs,x=.ref l/\y=.ref b/\H l=some (.lst xs)/\H b=some (.lst zs)/\xs.length+zs.length<=sizeLine/\∀p,H p=none->Q (.ref p) (upd H p<|.lst<|xs++zs)
def YA:n5 X (binaryOp .Add) abD:=by
 kcj_m;obtain⟨l,b,xs,zs,rfl,rfl,p,g,F,q⟩:=h
 cases rx
 cases ry
 obtain⟨z,f,n,r,B,e⟩:=I.Ek p;obtain⟨t,d,C,r2,k,e2⟩:=I.Ek g;refine PySem.P.add_list e e2 ?_ (by rw[aZ,aZ];lia);have j:f.toArray++d.toArray=(f++d).toArray:=by simp
 rw[j];exact⟨.ref _,_,I.XW (t':=s.toks) (r.append r2)<|by rw[aW];lia,rfl,q _ I.fresh⟩
abbrev abu:R2:=λx y H Q=>∃l k xs,x=.ref l/\y=.int k/\H l=some (.lst xs)/\-(2 ^ 63)<=k/\k<2 ^ 63/\xs.length * k.toNat<=sizeLine /\
 ∀p,H p=none->Q (.ref p) (upd H p<|.lst (List.replicate k.toNat xs).flatten)
def len_rep{α:Type}(xs:List α)(k:Nat):(List.replicate k xs).flatten.length=k * xs.length:=by
 induction k with
 | zero=>simp
 | succ k d=>rw[dG,e_,aW,d,fL,Nat.add_comm]
def Wo:n5 X (binaryOp .Mult) abu:=by
 kcj_m;obtain⟨l,k,xs,rfl,rfl,L,h1,h2,J,q⟩:=h
 cases rx
 obtain⟨t,rfl⟩:=ry;obtain⟨z,d,n,r,K,e⟩:=I.Ek L;have j:d.toArray.size * k.toNat<=sizeLine:=by rw[aZ,<- K];exact J
 have p:¬d.toArray.size * k.toNat>(2 ^ 63-1) / 8:=by
  have:(sizeLine:Nat)<=(2 ^ 63-1) / 8:=by decide
  omega
 have g:¬(!Builtin.List.listFitsIndex k)=true:=by
  rw[fitsIndex_both h1 h2];exact bN
 have f:¬Builtin.List.listTooLong (d.toArray.size * k.toNat)=true:=by
  rw[FI j];exact bN
 have B:List.foldl (λG C=>G++C) #[] (List.replicate (if d.toArray.isEmpty=true then 0 else k.toNat) d.toArray)=(List.replicate k.toNat d).flatten.toArray:=by
  have f0:∀m:Nat,List.foldl (λG C=>G++C) #[] (List.replicate m d.toArray)=(List.replicate m d).flatten.toArray:=λm=>by
   have:=foldl_rep d m [];rw[List.nil_append]at this;exact this
  rw[f0]
  cases d with
  | nil=>simp
  | cons a M=>rw[aM<|by simp]
 refine wpAny_binaryOp_repeat_ref (T := "list") (U := "int") ⋯ ⟨_,e,rfl⟩ (λs'=>typeIs_int s' k t) noFill_list_mul F.fills_int_mul F.slot_int_rmul repeat_list F.slot_int_index.lookup
  (iC F.slot_int_rmul (typeIs_int s k t) F.entry_int_rmul (F.args_int_rmul_2 _ _) (int___rmul___int_list k t l d.toArray n)
   ⟨e,rfl,⟨_,e,rfl⟩,iC F.slot_list_mul ⟨_,e,rfl⟩ F.entry_list_mul (F.args_list_mul_2 _ _) (AutoListH.list___mul___list_int_3 l d.toArray n k t g p f) ⟨e,?_⟩⟩)
 rw[B];exact⟨.ref _,_,I.XW (t':=s.toks) (r.rep k.toNat)<|by rw[len_rep,mul_comm];exact J,rfl,q _ I.fresh⟩
end
end L2
namespace Att
open PySem PySem.W PySem.Calls PyProof.Rows
def yJ{P:Params}:∀(ns:ag) (vs:ba),WellAll P h vs (ns.map WData.int)->IntsAre vs ns:=by
 intro ns
 induction ns with
 | nil=>
  intro vs w;rw[fK]at w
  cases w
  exact .nil
 | cons n ns d=>
  intro vs w;rw[bI]at w
  cases w with
  | cons a b=>
   cases a
   exact .cons _ _<|d _ b
def KA{l:OpenLaw}{n:Nat}(hn:l.most=some n){P:Params}{h:aq}
  (hpre:l.row.toRowW.claim.pre args=true) (hwl:WellAll P h vals args) :
  ∃a vs ns,vals=[Value.ref a]/\args=[WData.list<|ns.map WData.int]/\h.get? a=some { cls:=.type "list",data:=.seq vs.toArray }/\IntsAre vs ns/\ns.length<=n:=by
 have p:WShape.hasAll [] args [.list .int]=true:=(pre_splitW hpre).1;have hc:l.pre.holds [] { args:=args }=true:=(pre_splitW hpre).2;obtain⟨d,r,rfl,h1,h2⟩:=hasAllW_cons p;obtain rfl:=hasAllW_nil h2;obtain⟨xs,rfl,h3⟩:=hasW_list h1;obtain⟨ns,rfl⟩:=items_int h3;have g:ns.length<=n:=by
  unfold OpenLaw.pre at hc;have k:(WTm.not<|.lt (.lit<|.int (n:Int))<|.len<|.arg 0).holds [] { args:=[.list<|ns.map .int]}=true:=by
   have k:=(holds_andW hc).1;rw[hn]at k;exact k
  have j:=condW_of k<|w_not<|w_lt w_lit<|w_len_list<|w_arg rfl;rw[aG]at j;refine Nat.le_of_not_lt λq=>?_;have t:(n:Int)<((ns.length:Nat):Int):=by omega
  first
   | (rw[bg t]at j;exact absurd j ⋯)
   | (simp at j;omega)
 cases hwl with
 | cons C B=>
  cases B
  cases C with
  | list z f=>exact⟨_,_,ns,rfl,rfl,z,yJ ns _ f,g⟩
def LI(l:OpenLaw)(args:List WData):l.row.toRowW.claim.post args (.bool true) args=true:=
 postW_of (r:=l.row.toRowW) (X:=(true == true))
  (show WShape.has [] (.bool true) .bool=true by first|rfl|decide|simp[WShape.has,WShape.arms,WShape.armsAll])
  (show(WTm.eq .res<|.lit<|.bool true).value [] { args:=args,res:=some<|.bool true,after:=args }=some (.bool<|true == true)from w_eq_bool (w_res rfl) w_lit) rfl
def EL{l:OpenLaw}{n:Nat}{q:aj}{XP:(Str->bd)->aq->Prop}{YP:ah->aq->Prop}{d:DefRec}
  (hn:l.most=some n) (hdf:d.params.defaults=[])
  (call:∀(w:ah) (s₀ s₁:aC) (mg mb:Str->bd) (fa:ak) (o:Obj) (pm cd doc:af) (a:ak) (vs:ba) (ns:ag),
   Ground q loose [] XP w s₀ mg mb s₁.heap->YP w s₁.heap ->
   s₁.heap.get? fa=some o->o.data=.func (docDef d.name d.params d.body d.scope pm cd doc)->s₁.heap.CodeRec cd d.name->mg d.name=some (.ref fa) ->
   s₁.heap.get? a=some { cls:=.type "list",data:=.seq vs.toArray }->IntsAre vs ns->ns.length<=n->s₁.gens=#[] ->
   codeAny (model l.prog w) callerA (.call (.ref fa) ⟨[.ref a],[]⟩) (λr s'=>r=.ok (.ret<|.bool true)/\OldK s₁.heap s'.heap/\s'.os=s₁.os/\AllBare s'.gens) s₁) :
  WalkO q loose XP YP l.row.toRowW d [] (λf vs=>PySem.call f vs):=by
 intro w s₀ s₁ mg mb G Y fa o pm cd doc L kV O U B K z hg F J V j C T t N;obtain rfl:L=.none:=Dflts.none K hdf;obtain rfl:kV=.none:=Dflts.noKw K;obtain⟨a,vs,ns,rfl,rfl,k,g,p⟩:=KA hn j t;refine enter_call<|jq (call w s₀ s₁ mg mb fa o pm cd doc a vs ns G Y O (fd_plain U) B z k g p hg) λr s' hq=>?_;obtain⟨rfl,h2,h3,M⟩:=hq;exact⟨.inl ⟨.bool true,.bool true,[],rfl,λ_=>rfl,.bool true,LI l _,λ_=>⟨List.Pairwise.nil,λ_ P=>(nomatch P)⟩⟩,h2,h3,M⟩
end Att
namespace L2
open PySem PySem.Spec PyProof.Rows
theorem xW:∀{vs:ba}{ns:ag},IntsAre vs ns->Vals (ns.map V.int) vs
 | _,_,.nil=>.nil
 | _,_,.cons n t h=>.cons ⟨t,rfl⟩<|xW h
abbrev TF (H:Hp):Prop:=∀b,H b=none\/∃o xs,H b=some (.frz o<|.lst xs)
def MU{P:aj}{w:ah}{K:au}{mg mb:Str->bd}{CX:Q3}{k:Nat}{fa a:ak}{x:Str}{sp:Sp}{s₁:aC}{vs:ba}{ns:ag}
  (KX:K.In s₁.heap) (hns:s₁.heap.Ns mainGlobals mg) (hb:s₁.heap.Ns builtinsNs mb) (hbb:∀x:Str,x ≠ "__name__" -> mb x=bootBuiltins x) (hlim:s₁.heap.NoLimit) (hg:s₁.gens=#[])
  (ha:s₁.heap.get? a=some { cls:=.type "list",data:=.seq vs.toArray }) (hi:IntsAre vs ns) (hl:ns.length<=sizeLine) (hr:Room k callerA)
  (F:∀base:aq,K.In base->base.Ns mainGlobals mg->FnOk P w K mg base CX k fa fd [x] sp) (hbind:∀(s:aC) (u:af),BindsTo s fd ⟨[u],[]⟩ [(x,u)])
  (hsp:∀H:Hp,TF H->qK K H a (ns.map V.int)->sp [.ref a] H (λv _=>v=.bl true) λ_ _ _=>False)
  (hCX:∀H e s',CX [] H s₁ (λ_ _ _=>False) e s'->False) :
  codeAny (model P w) callerA (.call (.ref fa) ⟨[.ref a],[]⟩) (λr s'=>r=.ok (.ret<|.bool true)/\OldK s₁.heap s'.heap/\s'.os=s₁.os/\AllBare s'.gens) s₁:=by
 have O:=xW hi;have p:=hi.length;have j:∀H:Hp,TF H->qK K H a (ns.map V.int)->wK P w H s₁.heap->(∀b,H b≠none->b=a)->(H a≠none->K.lookup a=none) ->
   codeAny (model P w) callerA (.call (.ref fa) ⟨[.ref a],[]⟩) (λr s'=>r=.ok (.ret<|.bool true)/\OldK s₁.heap s'.heap/\s'.os=s₁.os/\AllBare s'.gens) s₁:=by
  intro H T hS B U hK;have f:∀{b:ak} {o:Obj},s₁.heap.get? b=some o->H b=none->(C1 s₁.heap H).get? b=some o:=λe n=>Nj e n;have L:∀{b:ak} {o:Obj} {es:Array DictEntry} {ep:Nat},s₁.heap.get? b=some o->o.data=.dict es ep->H b=none:=λ{b o es ep} e d=>by
   cases q:H b with
   | none=>rfl
   | some u=>
    have M:b=a:=U b (by rw[q];simp);subst M;rw[ha]at e;cases e;have W:Data.seq vs.toArray _=Data.dict es ep:=d
    cases W
  have g:∀{b:ak} {m:Str->bd},s₁.heap.Ns b m->(C1 s₁.heap H).Ns b m:=λ{b m} ⟨o,es,ep,e,d,r⟩=>⟨o,es,ep,f e<|L e d,d,r⟩;have G:K.In (C1 s₁.heap H):=λb o e=>f (KX b o e) (by
   cases q:H b with
   | none=>rfl
   | some u=>
    have M:b=a:=U b (by rw[q];simp);subst M;rw[hK<|by rw[q];simp]at e;cases e)
  have Z:Mod K mg (C1 s₁.heap H):=⟨G,g hns,⟨mb,g hb,hbb⟩,let⟨mc,h1,h2⟩:=hlim;⟨mc,g h1,h2⟩⟩;have e0:Env0 P w K mg (C1 s₁.heap H) callerA [] s₁ H:=⟨rfl,Z,λb o e=>TN e,Nat.le_of_eq<|KR _ _,trivial,λb hb=>absurd (show b∈([]:bb)from hb)<|by simp,B,.of_eq hg⟩;refine jq ((F _ G<|g hns).run callerA [] s₁ H ⟨[.ref a],[]⟩ [.ref a] [.ref a] _ _ hr e0 (hbind s₁<|.ref a) (.cons rfl .nil)<|hsp H T hS) λr s' h=>?_
  cases r with
  | error e=>exact(hCX H e s' h).elim
  | ok fl=>
   cases fl with
   | next=>exact False.elim h
   | brk=>exact False.elim h
   | cont=>exact False.elim h
   | ret u=>
    obtain⟨v,H',os,t,un,J,r',q⟩:=h;have q':v=.bl true:=q;subst q';obtain rfl:u=Value.bool true:=r';refine⟨rfl,OldK.of_keep λb o e=>?_,os,t⟩
    cases q:H b with
    | none=>exact un.keep b o e q (by intro z;exact absurd (show b∈([]:bb)from z)<|by simp) (by simp)
    | some u=>
     rcases T b with z|⟨ob,xs,z⟩
     ·rw[q]at z;cases z
     ·have Y:=un.frzs b ob _ z;obtain⟨e1,_⟩:=B b _ z;obtain⟨e2,_⟩:=J b _ Y;rw[e]at e1;cases e1;exact e2
 cases N:K.lookup a with
 | some o=>
  have e:=KX a o N;rw[ha]at e
  cases e
  refine j (λ_=>none) (λ_=>.inl rfl) (.inr ⟨_,vs.toArray,_,N,rfl,rfl,rfl,by rw[aZ,p];exact hl,by simpa using O⟩) (λb u z=>by have C:(none:Option HO)=some u:=z;cases C) (λb z=>absurd rfl z) λz=>absurd rfl z
 | none=>
  refine j (λb=>if b=a then some (.frz { cls:=.type "list",data:=.seq vs.toArray } (.lst<|ns.map V.int))else none) (λb=>?_) (.inl<|.inr ⟨{ cls:=.type "list",data:=.seq vs.toArray },aN rfl⟩) (λb u z=>?_) (λb z=>?_) λ_=>N
  ·by_cases hb:b=a
   ·exact .inr ⟨_,_,aN hb⟩
   ·exact .inl<|aM hb
  ·by_cases hb:b=a
   ·have C:=(aN hb).symm.trans z
    cases C
    subst hb;exact⟨ha,by rw[aG];exact hl,vs,_,O,ha⟩
   ·have C:=(aM hb).symm.trans z
    cases C
  ·by_cases hb:b=a
   ·exact hb
   ·exact absurd (aM hb) z
def Q7{l:PySem.W.OpenLaw}{n k:Nat}{q:aj}{XP:(Str->bd)->aq->Prop}{YP:ah->aq->Prop}{d:DefRec}{K:Params->au}{CX:ah->Q3}{sp:ah->Sp}{x:Str}
  (hn:l.most=some n) (hn2:n<=sizeLine) (hdf:d.params.defaults=[]) (hr:Room k callerA)
  (hY:∀(w:ah) (h:aq),YP w h->(K w.params).In h)
  (F:∀(w:ah) (mg:Str->bd) (fa:ak) (h:aq),(K w.params).In h->h.Ns mainGlobals mg->mg d.name=some (.ref fa) ->
   ∃fd:FuncData,(∀(s:aC) (u:af),BindsTo s fd ⟨[u],[]⟩ [(x,u)]) /\
    ∀base:aq,(K w.params).In base->base.Ns mainGlobals mg->FnOk l.prog w (K w.params) mg base (CX w) k fa fd [x] (sp w))
  (hsp:∀(w:ah) (H:Hp) (a:ak) (ns:ag),ns.length<=n->TF H->qK (K w.params) H a (ns.map V.int)->sp w [.ref a] H (λv _=>v=.bl true) λ_ _ _=>False)
  (hCX:∀(w:ah) (H:Hp) (s:aC) (e:af) (s':aC),CX w [] H s (λ_ _ _=>False) e s'->False) :
  PySem.W.WalkO q loose XP YP l.row.toRowW d [] (λf vs=>PySem.call f vs):=by
 refine Att.EL hn hdf λw J z mg mb fa o P U M a vs ns G Y Z hd N B t p j hg=>?_;have C:=hY w _ Y;obtain⟨fd,hb,O⟩:=F w mg fa _ C G.T.g B;exact MU C G.T.g G.T.b G.T.builtins G.T.nolimit hg t p (bH j hn2) hr O hb (λH L hS=>hsp w H a ns j L hS) λH e s'=>hCX w H z e s'
abbrev vj (s:aF):Arguments:=match s with
 | .FunctionDef _ a _ _ _ _ _ _ _ _=>a
 | _=>{ posonlyargs:=[],args:=[],vararg:=none,kwonlyargs:=[],kw_defaults:=[],kwarg:=none,defaults:=[]}
abbrev rF (s:aF):List aF:=match s with
 | .FunctionDef _ _ b _ _ _ _ _ _ _=>b
 | _=>[]
abbrev jV (s:aF):Scope:=match s with
 | .FunctionDef _ _ _ _ _ _ d _ _ _=>d
 | _=>{ kind:=.function,names:=[],isGenerator:=false,isCoroutine:=false }
meta abbrev qb:Q3:=λ_ _ _ _ _ _=>False
meta abbrev E0:XK:=λ_ _ _=>False
def ZF{X:Cx}:Passes qb X E0:=λ_ _ _ _ _ _ _ h=>h.elim
structure Fun (K:au)(x qual:Str)(st:aF)(f:ak)(fd:FuncData):Prop where
 ex:∃(oc:af) (od:Option ak) (kV doc pm:af) (an:Option ak) (cdv ct:af) (osl:Array<|bd),
  fd=PySem.W.fnOf x qual (vj st) (rF st) (jV st) .none kV doc pm an cdv ct/\K.lookup f=some ⟨oc,od,.func fd,osl⟩/\PySem.W.codeIn K cdv qual=true
 kp:PySem.W.keepIn K (.ref f)=true
section
variable {P:aj}{w:ah}{K:au}{mg:Str->bd}{base:aq}
def Fun.ok{x:Str}{st:aF}{f:ak}{N ps:ar}{k:Nat}{sp:Sp}(F:Fun K x qual st f fd)(S:FnScope N ps<|jV st)(len:∀vs H Q E,sp vs H Q E->vs.length=ps.length)
  (hbody:∀(cdv:af) (A:aA) (outer:List Env) (s:aC) (H:Hp) (vs:List V) (Q:VK) (E:XK),Room k (A.deeper<|envOfC qual (jV st) s.heap.objs.size f cdv)->sp vs H Q E ->
   ∃t,CI (GK qb P w K mg base N qual (jV st) f cdv A outer s H E).nox (rF st) t/\t { nx:=λ_ H'=>Q .non H',rt:=Q } (start N vs) H):FnOk P w K mg base qb (k+1) f fd ps sp:=by
 obtain⟨C,L,kV,B,G,J,cdv,ct,j,rfl,z,g⟩:=F.ex;refine ZO z g S len λA outer s H vs Q E p d=>?_;obtain⟨t,h,q⟩:=hbody cdv A outer s H vs Q E p d;exact⟨t,h.nox,q⟩
def Fun.binds{x:Str}{st:aF}{f:ak}{ps:ar}(F:Fun K x qual st f fd)
  (h:∀(kV doc pm:af) (an:Option ak) (cdv ct:af) (us:ba),us.length=ps.length->bindArgs (PySem.W.fnOf x qual (vj st) (rF st) (jV st) .none kV doc pm an cdv ct) ⟨us,[]⟩=pure (ps.zip us)):Binds K fd ps []:=by
 obtain⟨k,p,kV,doc,pm,an,cdv,ct,d,rfl,j,g⟩:=F.ex;exact .all<|h kV doc pm an cdv ct
def Xv{x:Str}{st:aF}{f:ak}{kV pm ct:af}(l:K.lookup f=some ⟨oc,od,.func<|PySem.W.fnOf x qual (vj st) (rF st) (jV st) .none kV doc pm an cdv ct,osl⟩)
  (c:PySem.W.codeIn K cdv qual=true) (k:PySem.W.keepIn K (.ref f)=true):Fun K x qual st f (PySem.W.fnOf x qual (vj st) (rF st) (jV st) .none kV doc pm an cdv ct):=⟨⟨oc,od,kV,doc,pm,an,cdv,ct,osl,rfl,l,c⟩,k⟩
end
section
variable {X:Cx}
def pv(i:Nat){x:Str}(hN:X.N[i]?=some x:=by rfl)(hv:YJ X.env.scope x:=by first|exact Or.inl rfl|exact Or.inr (Or.inl rfl)|exact Or.inr<|Or.inr rfl)(hd:(x == ("__debug__" : Str))=false:=by decide)
  (hcd:(x == ("__classdict__" : Str))=false:=by decide):PE X (.Name x pos) (aan i):=Pz hN hv hd hcd
end
set_option maxHeartbeats 4000000
abbrev Rr (σ:St):bj->Option V
 | some j=>(σ[j]?).getD none
 | none=>none
abbrev vC (env:Env):List (Str×NameKind)->List (Str×ak)->List (Str×ak)
 | [],cs=>cs
 | (n,k)::r,cs=>vC env r (if k == .free then(n,(env.cells.lookup n).getD 0)::cs else cs)
def zK{scope:Scope}{env:Env}(h:∀y∈scope.names,y.2=.free->∃c,env.cells.lookup y.1=some c):closureFor scope env=pure (vC env scope.names []):=by
 have f:∀(l:List<|Str×NameKind) (d:List<|Str×ak),(∀y∈l,y.2=.free->∃c,env.cells.lookup y.1=some c) ->
   (forIn l d (λ(x:Str×NameKind) (r:List<|Str×ak)=>(match x with
    | (name,kind)=>if (kind == NameKind.free)=true then(do let c <- cellOf env name;pure (ForInStep.yield ((name,c)::r)))else pure (ForInStep.yield r):Sem<|ForInStep<|List<|Str×ak)))=(pure (vC env l d):Sem<|List<|Str×ak):=by
  intro l
  induction l with
  | nil=>intro d _;rfl
  | cons y r p=>
   intro d g;obtain⟨n,k⟩:=y;rw[jA];by_cases q:k=.free
   ·subst q;obtain⟨c,hc⟩:=g (n,.free) aO rfl;have e1:cellOf env n=pure c:=by
     unfold cellOf;rw[hc]
    dsimp[bT,dJ,e1,pure_bind];rw[p _ λz j=>g z<|aQ _ j];dsimp[vC,bT,dJ,hc,dN]
   ·have hb:(k == NameKind.free)=false:=by simpa using q
    dsimp[hb,bD,cF,pure_bind];rw[p _ λz j=>g z<|aQ _ j];dsimp[vC,hb,bD,cF]
 have:=f scope.names [] h;exact(c7 (λz=>z >>= λd=>(pure d:Sem<|List<|Str×ak)) this).trans (pure_bind _ _)
theorem Ax:∀{l:List<|Str×NameKind}{x:Str}{k:NameKind},l.lookup x=some k->(x,k)∈l
 | [],_,_,h=>nomatch h
 | (n,k')::r,x,k,h=>by
  rw[eB]at h
  cases d:x == n with
  | true=>
   rw[d]at h;have e:x=n:=by simpa using d
   subst e
   cases h
   exact aO
  | false=>rw[d]at h;exact aQ _<|Ax h
theorem BP{env:Env}{x:Str}{c:ak}:∀{l:List<|Str×NameKind}{cs:List<|Str×ak},(∀y∈l,y.2=.free->∃c,env.cells.lookup y.1=some c)->(vC env l cs).lookup x=some c->env.cells.lookup x=some c\/cs.lookup x=some c
 | [],cs,_,h=>.inr h
 | (n,k)::r,cs,hl,h=>by
  have h':=BP (l:=r) (λz g=>hl z<|aQ _ g) h
  rcases h' with h'|h'
  ·exact .inl h'
  ·by_cases f:k=.free
   ·subst f;dsimp[bT,dJ]at h';obtain⟨j,hc⟩:=hl (n,.free) aO rfl;rw[hc,dN,eB]at h'
    cases d:x == n with
    | true=>
     rw[d]at h';have e:x=n:=by simpa using d
     subst e;left;rw[hc];exact h'
    | false=>rw[d]at h';exact .inr h'
   ·have hb:(k == NameKind.free)=false:=by simpa using f
    dsimp[hb,bD,cF]at h';exact .inr h'
theorem Bh{env:Env}{x:Str}:∀{l:List<|Str×NameKind}{cs:List<|Str×ak},(cs.lookup x).isSome=true->((vC env l cs).lookup x).isSome=true
 | [],cs,h=>h
 | (n,k)::r,cs,h=>by
  skip
  refine Bh (l:=r) ?_;by_cases d:(k == NameKind.free)=true
  ·rw[aN d,eB]
   cases f:x == n with
   | true=>rfl
   | false=>exact h
  ·rw[aM d];exact h
theorem AN{env:Env}{x:Str}:∀{l:List<|Str×NameKind}{cs:List<|Str×ak},(x,NameKind.free)∈l->((vC env l cs).lookup x).isSome=true
 | [],_,h=>nomatch h
 | (n,k)::r,cs,h=>by
  rcases bF.mp h with e|h
  ·cases e
   skip
   refine Bh (l:=r) ?_;rw[aN<|by rfl,eB];simp
  ·exact AN (l:=r) h
theorem qB:∀(names:List<|Str×NameKind) (n:Nat) (acc:List<|Str×ak),cellsFrom n names acc=cellsFrom n names []++acc
 | [],_,_=>rfl
 | (x,k)::r,n,acc=>by
  unfold cellsFrom;split
  ·rw[qB r (n+1) ((x,n)::acc),qB r (n+1) [(x,n)],bX];rfl
  ·exact qB r n acc
theorem zM:∀(names:List<|Str×NameKind) (n:Nat) {x:Str}{c:ak},(x,c)∈cellsFrom n names []->(x,NameKind.cell)∈names
 | [],_,_,_,h=>nomatch h
 | (y,k)::r,n,x,c,h=>by
  unfold cellsFrom at h;split at h
  ·rename_i d;rw[qB]at h
   rcases bq.mp h with z|z
   ·exact aQ _ (zM r _ z)
   ·rw[aP]at z
    cases z
    have:k=.cell:=by simpa using d
    rw[this];exact aO
  ·exact aQ _<|zM r _ h
theorem wV{α:Type}{x:Str}:∀{l m:List<|Str×α},(l++m).lookup x=match l.lookup x with|some c=>some c|none=>m.lookup x
 | [],_=>rfl
 | (y,c)::l,m=>by
  rw[iD,eB,eB]
  cases x == y with
  | true=>rfl
  | false=>exact wV
def Sl{n:Nat}{acc:List<|Str×ak}{x:Str}{c:ak}(h:(cellsFrom n names acc).lookup x=some c):(cellsFrom n names []).lookup x=some c\/((cellsFrom n names []).lookup x=none/\acc.lookup x=some c):=by
 rw[qB,wV]at h
 cases e:(cellsFrom n names []).lookup x with
 | some d=>rw[e]at h;exact .inl h
 | none=>rw[e]at h;exact .inr ⟨rfl,h⟩
def Xy{n:Nat}{acc:List<|Str×ak}{x:Str}(h:(x,NameKind.cell)∉names):(cellsFrom n names acc).lookup x=acc.lookup x:=by
 rw[qB,wV]
 cases e:(cellsFrom n names []).lookup x with
 | some d=>exact absurd (zM names n<|c5 e) h
 | none=>rfl
def J1{A:aA}{E:af->aC->Prop}{s:aC}{scope:Scope}{globals:ak}{cl:List<|Str×ak}{env:Env}{Q:Env->aC->Prop}
  (hQ:∀h':aq,h'.Ns s.heap.objs.size (λ_=>none)->(∀b o,s.heap.get? b=some o->h'.get? b=some o)->CellsOk h' (s.heap.objs.size+1) (cellsFrom (s.heap.objs.size+1) scope.names []) ->
   Q (newEnv scope s.heap.objs.size globals (cellsFrom (s.heap.objs.size+1) scope.names cl) qual none .none (some env) builtinsNs) { s with heap:=h',toks:=s.toks+([]:List<|Str×af).length }) :
  wpAny M A (newFunctionEnv scope globals cl [] qual none .none<|some env) Q E s:=by
 dsimp[newFunctionEnv,iX,dJ];refine aH<|wpAny_alloc ?_;refine aH (wpAny_layCells _ (λname kind cells=>by cases d:kind == NameKind.cell<;>simp[d]) _ _ _ _ ?_);have ok:=cellsFrom_ok scope.names (s.heap.push { cls:=.type "dict",data:=.dict #[]}) (s.heap.objs.size+1) [] ⟨λ_ _ f=>(nomatch f),List.Pairwise.nil⟩ (by rw[dw];exact aK _);rw[dw]at ok;rw[show({ s with heap:=s.heap.push { cls:=.type "dict",data:=.dict #[]}}:aC).heap.objs.size=s.heap.objs.size+1 from dw ..];rw[iY];refine aH<|aR<|aR ?_;exact hQ _ ((Heap.Ns.new s.heap<|.type "dict").keeps<|pushCells_keeps _ _) (λb o e=>pushCells_keeps _ _ b o<|aV _ e) ok
abbrev kX (X:Cx)(scope:Scope)(N:ar)(C:ak)(s₀:aC)(H₀:Hp)(ex:bb):Cx where
 prog:=X.prog
 w:=X.w
 K:=X.K
 mg:=X.mg
 base:=X.base
 A:=X.A
 N:=N
 s₀:=s₀
 H₀:=H₀
 env:=compEnvC scope (cellsFrom (C+1) scope.names<|vC X.env scope.names []) C X.env
 outer:=X.stack
 stack:=X.stack
 ex:=ex
 fn:=λx=>scope.names.lookup x == some .cell
 calm:=X.calm
 pn:=[]
 xe:=λ_ _=>False
structure CpScope (X:Cx)(scope:Scope)(N:ar)(cap:List (bj)):Prop where
 kind:scope.kind=.function
 nocf:∀x,(x,NameKind.free)∈scope.names->(x,NameKind.cell)∉scope.names
 nm:∀y∈scope.names,y.2=.local->scope.names.lookup y.1=some .local
 fr:∀y∈scope.names,y.2=.free->X.env.kindOf y.1=some .cell\/X.env.kindOf y.1=some .free
 rl:∀y,((relabel scope X.env).names.lookup y=some .cell\/(relabel scope X.env).names.lookup y=some .free)->(y,NameKind.free)∈scope.names\/scope.names.lookup y=some .cell
 len:cap.length=N.length
 nolf:∀x,(x,NameKind.free)∈scope.names->scope.names.lookup x≠some .local
 cp:∀(i j:Nat) (x:Str),N[i]?=some x->cap[i]?=some (some j)->X.N[j]?=some x/\(x,NameKind.free)∈scope.names
def OX{X:Cx}{scope:Scope}{N:ar}{cap:List<|bj}{H:Hp}{s:aC}{fp:bb}{h₁:aq}{m:Str->bd}{tk:Nat}(S:CpScope X scope N cap)(I:Inv X pins σ H s)
  (hf:∀b∈fp,vH X pins H b) (ho:∀b∈fp,∃o,s.heap.get? b=some o) (hn:h₁.Ns s.heap.objs.size m) (hC:CellsOk h₁ (s.heap.objs.size+1)<|cellsFrom (s.heap.objs.size+1) scope.names []) (hk:∀b o,s.heap.get? b=some o->h₁.get? b=some o) :
  Inv (kX X scope N s.heap.objs.size s H fp) [] (cap.map<|Rr σ) H { s with heap:=h₁,toks:=tk }:=by
 kst_p;have V:∀x c,(vC X.env scope.names []).lookup x=some c->X.env.cells.lookup x=some c:=λx c e=>by
  rcases BP hfree e with z|z
  ·exact z
  ·cases z
 have f:∀x c,(cellsFrom (s.heap.objs.size+1) scope.names<|vC X.env scope.names []).lookup x=some c->((x,c)∈cellsFrom (s.heap.objs.size+1) scope.names []/\h₁.IsCell c none/\s.heap.objs.size+1<=c)\/X.env.cells.lookup x=some c:=λx c e=>by
  rcases Sl e with z|z
  ·exact .inl ⟨c5 z,hC.empty x c<|c5 z⟩
  ·exact .inr<|V x c z.2
 have old:∀x c,X.env.cells.lookup x=some c->c<s.heap.objs.size:=λx c e=>by
  obtain⟨v,z⟩:=I.cell x c e;exact z.lt
 have lt:∀b o,s.heap.get? b=some o->b≠s.heap.objs.size:=λb o e=>bE<|bh e;refine⟨⟨I.ok.mod,?_,I.ok.glob,I.ok.blt,aK _,?_,?_,?_,I.ok.hd,I.ok.frames,.inl rfl,?_,I.bs,bH I.ok.bsz I.sz,?_,?_,I.stack,I.IM⟩,rfl,I.bare,Un.kept hk,?_,?_,I.hok.fresh<|aK _,?_,?_,I.hok.kept hk,?_⟩
 ·exact S.kind
 ·intro x y c e1 e2
  rcases f x c e1 with a|a
  ·rcases f y c e2 with b|b
   ·exact name_of_addr hC.apart a.1 b.1
   ·exact absurd (old y c b)<|not_lt.mpr<|dR a.2.2
  ·rcases f y c e2 with b|b
   ·exact absurd (old x c a) (not_lt.mpr<|dR b.2.2)
   ·exact I.ok.inj x y c a b
 ·intro x e;refine cY.mp (fJ _ _ _ ?_)
  rcases S.rl x e with t|t
  ·exact .inr (AN (env:=X.env) (cs:=[]) t)
  ·exact .inl t
 ·intro x c e F;have e:scope.names.lookup x=some .cell:=by
   have e:(scope.names.lookup x == some .cell)=true:=e;simpa using e
  obtain⟨d,hd⟩:=cY.mp<|fJ scope.names (s.heap.objs.size+1) []<|.inl e;have F:(cellsFrom (s.heap.objs.size+1) scope.names<|vC X.env scope.names []).lookup x=some c:=F;rw[qB,wV,hd]at F
  cases F
  exact dR (hC.empty x c<|c5 hd).2
 ·intro b hb;obtain⟨o,e⟩:=ho b hb;refine⟨lt b o e,λx c e2=>?_⟩
  rcases f x c e2 with z|z
  ·exact jo (jt (bh e) z.2.2)
  ·exact(hf b hb).2.2.2.2.1 x c z
 ·intro b o e hb;obtain⟨_,_,_,h3,_⟩:=hf b hb
  rcases h3 with z|z
  ·exact I.ok.noex b o e z
  ·exact absurd (bR (bh (I.ok.bs b o e).1) z)<|fV _
 ·intro b hb hz;obtain⟨_,h1,h2,_⟩:=hf b hb
  rcases bF.mp (I.F_ b hz)with z|z
  ·exact h1 z
  ·exact h2 z
 ·refine⟨m,hn,λi x v e1 e2 e3=>?_⟩;rw[aX]at e2
  cases hc:cap[i]? with
  | none=>rw[hc]at e2;cases e2
  | some oj=>
   rw[hc]at e2
   cases oj with
   | none=>cases e2
   | some j=>
    have q:(σ[j]?).getD none=some v:=bf e2;obtain⟨hj,t⟩:=S.cp i j x e1 hc;obtain⟨m0,Z,O⟩:=I.loc;have M:σ[j]?=some (some v):=by
     cases h:σ[j]? with
     | none=>rw[h]at q;cases q
     | some z=>rw[h,dN]at q;rw[q]
    have K:=S.fr (x,.free) t rfl;have hv:YJ X.env.scope x:=.inr K;obtain⟨u,ru,L⟩:=O j x v hj M hv;refine⟨u,ru,?_⟩
    rcases L with⟨L,_⟩|⟨_,c,F,Y⟩
    ·rcases K with z|z<;>(rw[z]at L;cases L)
    ·have h2:=AN (env:=X.env) (cs:=[]) t;obtain⟨P,B⟩:=cY.mp h2;have:P=c:=bf<|(V x P B).symm.trans F;subst this;refine .inr ⟨?_,P,(Xy<|S.nocf x t).trans B,?_⟩
     ·rcases e3 with z|z|z
      ·exfalso;have:(relabel scope X.env).names.lookup x=some .local:=z;have J:scope.names.lookup x=some .local:=by
        have G:∃k,(x,k)∈(relabel scope X.env).names/\k=.local:=by
         clear B h2;have:=Ax this;exact⟨_,this,rfl⟩
        obtain⟨k,T,rfl⟩:=G;obtain⟨⟨n',k'⟩,U,g⟩:=bu.mp T;dsimp only at g;split at g
        ·cases g
        ·cases g
         exact S.nm (x,.local) U rfl
       exact False.elim<|S.nolf x t J
      ·exact .inl z
      ·exact .inr z
     ·obtain⟨o,C,hd⟩:=Y;exact⟨o,hk _ _ C,hd⟩
 ·intro x c e
  rcases f x c e with z|z
  ·exact⟨_,z.2.1⟩
  ·obtain⟨v,o,C,hd⟩:=I.cell x c z;exact⟨v,o,hk _ _ C,hd⟩
 ·intro x c e
  rcases f x c e with z|z
  ·exact I.hok.fresh (dR z.2.2)
  ·exact I.freeC x c z
 ·intro p W
  cases W
 ·rw[aG,S.len];rfl
abbrev QY (X:Cx)(ifs:List aE)(t:TT):Prop:=
 ∀(pins:bn) (s:aC) (σ:St) (H:Hp) (Q:Bool->Hp->Prop),Inv X pins σ H s->t σ H Q ->
  wpAny (model X.prog X.w) X.A (forIn ifs true λc r=>if r=true then do let ok <- isTrue c X.env (eval c X.env);pure (ForInStep.yield ok)else pure (ForInStep.yield r)) (TP X pins σ Q) X.xe s
abbrev abI:TT:=λ_ H Q=>Q true H
def Ss{X:Cx}:QY X [] abI:=λ_ _ _ H _ I h=>wpAny_tests_nil ⟨H,I,h⟩
def Tp{X:Cx}{c:aE}{t:TT}(h:PT X c t):QY X [c] t:=λpins s σ H Q I q=>wpAny_tests_one<|h pins s σ H Q I q
abbrev V7 (cap:List<|bj)(g:TG)(tc:TT)(te:TE)(σ:St)(Q:VK)(J:It)(H1:Hp):Prop:=∀D,H1 D=none ->
 ∃W:Nat->Nat->St->Hp->Prop,(∃m,W 0 m (cap.map<|Rr σ)<|upd H1 D<|.lst [])/\∀i m j H',W i m j H' ->
  (J.stop i H'/\Q (.ref D) H')\/(J.go i H'/\∀x H2,J.yld i H' x H2->g x j H2 λd H3=>tc d H3 λb k=>
   if b=true then te d k λy p=>∃ys,p D=some (.lst ys)/\ys.length<sizeLine/\∃f,f<m/\W (i+1) f d (upd p D<|.lst<|ys++[y])
   else ∃f,f<m/\W (i+1) f d k)
abbrev tLC (cap:List<|bj)(wi:TI)(g:TG)(tc:TT)(te:TE):TE:=λσ H Q=>wi σ H<|V7 cap g tc te σ Q
def EV{α:Type}{t:Sem α}{Q Q':α->aC->Prop}{A:aA}{E:af->aC->Prop}(h:wpAny M A t Q (λ_ _=>False) s)(hQ:∀a s,Q a s->Q' a s):wpAny M A t Q' E s:=
 gb h hQ λ_ _ f=>f.elim
structure TurnG (ok:Cx->Prop)(P:aj)(w:ah)(K:au)(tg:aE)(J:It)(fp:bb)(it:ak)(tn:Nat->aq->Prop):Prop where
 obj:∀i h,tn i h->∀b∈fp,∃o,h.get? b=some o/\∀v,o.data≠.cell v
 keep:∀i h h',tn i h->(∀b∈fp,∀o,h.get? b=some o->h'.get? b=some o)->tn i h'
 item:∀(X:Cx),X.prog=P->X.w=w->X.K=K->ok X->∀(i:Nat) (pins:bn) (s:aC) (σ:St) (H:Hp) (E:af->aC->Prop),Inv X pins σ H s->(∀b∈fp,vH X pins H b)->tn i s.heap->J.go i H ->
  wpAny (model P w) X.A (pyNext<|.ref it) (λr s1=>∃u,r=some u /\
   wpAny (model P w) X.A (letOwnedTupleGo tg (.ref it) u) (λ_ s2=>∃x H',Inv X pins σ H' s2/\RelV x u/\J.yld i H x H'/\tn (i+1) s2.heap/\∀b∈fp,H' b=none) E s1) E s
 done:∀(X:Cx),X.prog=P->X.w=w->X.K=K->ok X->∀(i:Nat) (pins:bn) (s:aC) (σ:St) (H:Hp) (E:af->aC->Prop),Inv X pins σ H s->(∀b∈fp,vH X pins H b)->tn i s.heap->J.stop i H ->
  wpAny (model P w) X.A (pyNext<|.ref it) (λr s1=>r=none/\Inv X pins σ H s1) E s
 self:∀(A:aA) (i:Nat) (s:aC) (Q:af->aC->Prop) (E:af->aC->Prop),tn i s.heap->Q (.ref it) s->wpAny (model P w) A (pyIter<|.ref it) Q E s
abbrev aa3 (ok:Cx->Prop)(X:Cx)(pins:bn)(σ:St)(tg:aE)(R:It->Hp->Prop)(itv:af)(s2:aC):Prop:=
 ∃(it:ak) (d:bb) (f:Nat->aq->Prop) (J:It) (H':Hp),itv=.ref it/\Inv X pins σ H' s2/\TurnG ok X.prog X.w X.K tg J d it f/\f 0 s2.heap/\(∀b∈d,vH X pins H' b)/\R J H'
abbrev ZQ (ok:Cx->Prop)(X:Cx)(tg iter:aE)(wi:TI):Prop:=
 ∀(pins:bn) (s:aC) (σ:St) (H:Hp) (R:It->Hp->Prop),Inv X pins σ H s->wi σ H R ->
  wpAny (model X.prog X.w) X.A (eval iter X.env) (λv d=>wpAny (model X.prog X.w) X.A (pyIter v) (aa3 ok X pins σ tg R) X.xe d) X.xe s
def PI.g{X:Cx}{iter:aE}{wi:TI}(h:PI X tg iter wi):ZQ (λY=>Y.calm=true) X tg iter wi:=λpins s σ H R I q=>
 mX (h pins s σ H R I q) λv t h1=>mX h1 λk p ⟨it,j,f,J,H',e,d,T,a,b,c⟩=>⟨it,j,f,J,H',e,d,⟨T.obj,T.keep,T.item,T.done,T.self⟩,a,b,c⟩
def Jp{ok:Cx->Prop}{X:Cx}{use:Option<|af->Sem Unit}{Q':af->aC->Prop}{iter:aE}{N:ar}{wi:TI}{g:TG}{tc:TT}{te:TE}(S:CpScope X scope N cap)(hok:∀C s₀ H₀ ex,(∀a o u,X.H₀ a=some (.frz o u)->H₀ a=some (.frz o u))->ok (kX X scope N C s₀ H₀ ex))(hi:ZQ ok X tg iter wi)
  (hg:∀C s₀ H₀ ex,PG (kX X scope N C s₀ H₀ ex) tg g) (ht:∀C s₀ H₀ ex,QY (kX X scope N C s₀ H₀ ex) ifs tc) (he:∀C s₀ H₀ ex,PE (kX X scope N C s₀ H₀ ex) elt te)
  (hs:∀x,foldedSetIterable iter X.env x=pure x:=by intro _;rfl):∀(pins:bn) (s:aC) (σ:St) (H:Hp) (Q:VK),Inv X pins σ H s->tLC cap wi g tc te σ H Q ->
  (∀(s6:aC) (C D:ak) (H5:Hp) (m:Str->bd),s6.heap.Ns C m->vH X pins H5 C->(∀h',Heap.SameBut C s6.heap h'->Inv X pins σ H5 { s6 with heap:=h' })->Q (.ref D) H5->∀v,compPost (model X.prog X.w) X.A X.xe use Q' (.ref D) C (.ok v) s6) ->
  wpAny (model X.prog X.w) X.A (comprehension (.ListComp elt [⟨tg,iter,ifs,0⟩] scope pos) scope X.env (firstIterPos [⟨tg,iter,ifs,0⟩] pos) (newList []) (firstAsync [⟨tg,iter,ifs,0⟩]) (firstIter [⟨tg,iter,ifs,0⟩] X.env) use) Q' X.xe s:=by
 intro pins s σ H Q I h hfin;kst_p;refine wpAny_comprehension_free (use:=use) rfl hs (zK hfree) S.kind S.nm<|mX (hi pins s σ H _ I h) λxv s1 h1=>mX h1 λitv f h2=>?_;obtain⟨it,fp,tn,J,H2,rfl,I2,T,st2,f2,h2⟩:=h2;refine di<|J1 λP k old t=>?_;obtain⟨W,⟨m0,w0⟩,turn⟩:=h2 f.heap.objs.size I2.fresh;dsimp only at k old t ⊢;have I3:Inv X pins σ (upd H2 f.heap.objs.size<|.lst []) { f with heap:=f.heap.push {}}:=I2.XW (t':=f.toks) (its:=[]) .nil<|bK _;have hfp:∀b∈fp,∃o,f.heap.get? b=some o:=λb hb=>by
  obtain⟨o,e,_⟩:=T.obj 0 _ st2 b hb;exact⟨o,e⟩
 have neD:∀b∈fp,b≠f.heap.objs.size:=λb hb=>by
  obtain⟨o,e⟩:=hfp b hb;exact bE<|bh e
 have f3:∀b∈fp,vH X pins (upd H2 f.heap.objs.size<|.lst []) b:=λb hb=>⟨by rw[jP<|neD b hb];exact(f2 b hb).1,(f2 b hb).2⟩;have hDC:f.heap.objs.size≠(f.heap.push {}).objs.size:=by rw[dw];exact bE (dD _)
 have I4:=OX (tk:=f.toks+([]:List<|Str×af).length) (fp:=fp) S I3 f3 (λb hb=>by
  obtain⟨o,e⟩:=hfp b hb;exact⟨o,aV _ e⟩) k t old
 have st4:tn 0 P:=T.keep _ _ _ st2 λb hb o e=>old b o<|aV _ e;have hc:=hok (f.heap.push {}).objs.size { f with heap:=f.heap.push {}} (upd H2 f.heap.objs.size<|.lst []) fp λa o u e=>by
  have z:=I2.base.frzs a o u e;rw[jP λq=>by rw[q,I2.fresh]at z;cases z];exact z
 have K:∀{H':Hp},(∀b∈fp,H' b=none)->∀b∈fp,vH (kX X scope N (f.heap.push {}).objs.size { f with heap:=f.heap.push {}} (upd H2 f.heap.objs.size<|.lst []) fp) [] H' b:=λhn b hb=>by
  have ok:=I4.ok;refine⟨hn b hb,(ok.exf b hb).1,ok.exfs b hb,.inl hb,λx c e=>(ok.exf b hb).2 x c e,λp hp=>nomatch hp⟩
 have O:∀s4:aC,s4={ f with heap:=P,toks:=f.toks+([]:List<|Str×af).length } ->
   codeAny (model X.prog X.w) X.A (.compLoop (.ListComp elt [⟨tg,iter,ifs,0⟩] scope pos) 0 (.ref it) (.ref f.heap.objs.size)<|compEnvC scope (cellsFrom ((f.heap.push {}).objs.size+1) scope.names<|vC X.env scope.names []) (f.heap.push {}).objs.size X.env)
    (compPost (model X.prog X.w) X.A X.xe use Q' (.ref f.heap.objs.size) (f.heap.push {}).objs.size) s4:=by
  rintro s4 rfl;refine codeAny_loop rfl (λn s'=>∃i G H',Inv (kX X scope N (f.heap.push {}).objs.size { f with heap:=f.heap.push {}} (upd H2 f.heap.objs.size<|.lst []) fp) [] G H' s'/\tn i s'.heap/\(∀b∈fp,H' b=none)/\W i n G H') (λn s5 hI=>?_) m0 ⟨0,_,_,I4,st4,λb hb=>(f3 b hb).1,w0⟩;obtain⟨i,M,H5,I5,st5,fr5,w5⟩:=hI;show wpAny _ X.A ((compTurn (.ListComp elt [⟨tg,iter,ifs,0⟩] scope pos) 0 (.ref it) (.ref f.heap.objs.size)<|compEnvC scope (cellsFrom ((f.heap.push {}).objs.size+1) scope.names<|vC X.env scope.names []) (f.heap.push {}).objs.size X.env).onRaise λx=>do noteFrame x _;theTreesLotGoes x) _ _ s5;refine wpAny_noted ?_;rw[compTurn_list];refine aH (fW<|aH ?_)
  rcases turn i n M H5 w5 with⟨stop,q⟩|⟨go,step⟩
  ·refine mX (T.done (kX X scope N (f.heap.push {}).objs.size { f with heap:=f.heap.push {}} (upd H2 f.heap.objs.size<|.lst []) fp) rfl rfl rfl hc i [] s5 M H5 _ I5 (K fr5) st5 stop) λr s6 h9=>?_;obtain⟨hr,U⟩:=h9;subst hr;obtain⟨m6,hn6,_⟩:=U.loc;refine aR<|hfin s6 _ _ H5 m6 hn6 (I3.DS (aK _) U.free) (λh' sb=>?_) q _;have u6:=U.base;have nC:∀b o,(f.heap.push {}).get? b=some o->b≠(f.heap.push {}).objs.size:=λb o e=>bE<|bh e;refine I3.Mi (ch:=fp) U.os ⟨λb o e n hb hx=>?_,λb o e n hb hx=>?_,λb o e n hx=>?_,λb o e hx=>?_,u6.tups,u6.frzs,u6.tbls⟩ ?_ U.bare ?_
   ·exact sb.extBut b o (nC b o e) (u6.keep b o e n hb hx)
   ·obtain⟨sl,z⟩:=u6.slot b o e n hb hx;exact⟨sl,sb.extBut b _ (nC b o e) z⟩
   ·exact u6.free b o e n hx
   ·obtain⟨o',z⟩:=u6.there b o e hx;exact⟨o',sb.extBut b _ (nC b o e) z⟩
   ·intro b o e;have hb:∀c v,H5 c=some v->c≠(f.heap.push {}).objs.size:=λc v e z=>by
     rw[z]at e;have:=U.free;rw[show H5 (f.heap.push {}).objs.size=none from this]at e
     cases e
    refine(U.hok b o e).stay (λc v hc q=>sb.extBut c v ?_ q) (λ_ q=>q) λ_ _ q=>q
    rcases hc with z|z
    ·rw[z];exact hb b o e
    ·exact hb c _ z
   ·intro b hb;obtain⟨_,z1,_,z3,z4,z5⟩:=f3 b hb;exact⟨z3,z1,z4,z5⟩
  ·refine mX (T.item (kX X scope N (f.heap.push {}).objs.size { f with heap:=f.heap.push {}} (upd H2 f.heap.objs.size<|.lst []) fp) rfl rfl rfl hc i [] s5 M H5 _ I5 (K fr5) st5 go) λr s6 h9=>?_;obtain⟨u,hr,h6⟩:=h9;subst hr;refine aH<|mX h6 λ_ s7 ⟨x,H7,I7,r7,y7,V,fr7⟩=>?_;have I7':=I7.pinned (K fr7)<|T.obj _ _ V;refine aH<|EV (hg _ _ _ fp _ s7 M H7 x u _ I7' r7<|step x H7 y7) λ_ s8 ⟨B,H8,I8,q8⟩=>?_;refine aH<|EV (ht _ _ _ fp _ s8 B H8 _ I8 q8) λok s9 ⟨H9,I9,q9⟩=>?_;have again:∀{F:aC} {j:Hp},Inv (kX X scope N (f.heap.push {}).objs.size { f with heap:=f.heap.push {}} (upd H2 f.heap.objs.size<|.lst []) fp) ([]++xY fp s7.heap) B j F->(∃m',m'<n/\W (i+1) m' B j) ->
     ∃m,m<n/\∃i G H',Inv (kX X scope N (f.heap.push {}).objs.size { f with heap:=f.heap.push {}} (upd H2 f.heap.objs.size<|.lst []) fp) [] G H' F/\tn i F.heap/\(∀b∈fp,H' b=none)/\W i m G H':=λ{F j} L h9=>by
    obtain⟨m',hm,Z⟩:=h9;refine⟨m',hm,i+1,B,j,L.sH,T.keep _ _ _ V λb hb o e=>(L.pin (b,o)<|bM _<|bM _<|nU hb e).1,λb hb=>?_,Z⟩;obtain⟨o,e,d⟩:=T.obj _ _ V b hb;exact(L.pin (b,o)<|bM _<|bM _<|nU hb e).2.1
   cases ok with
   | false=>
    rw[aM bN]at q9;exact aR ⟨rfl,again I9 q9⟩
   | true=>
    rw[aN rfl]at q9;refine aH<|aH<|EV (he _ _ _ fp _ s9 B H9 _ I9 q9) λy F ⟨Y,j,L,r10,ys,hD,hz,Z⟩=>?_;refine aH<|EV (BO _ F B j (.ref f.heap.objs.size) [Y] _ [y] (λ_ H'=>H'=upd j f.heap.objs.size (.lst<|ys++[Y])) L rfl (.cons r10 .nil) ⟨_,ys,Y,rfl,rfl,hD,hz,rfl⟩) λ_ s11 ⟨_,H11,I11,_,e11⟩=>?_;subst e11;exact aR<|aR ⟨rfl,again I11 Z⟩
 exact codeAny_compStart_list (O _ rfl)<|T.self _ 0 _ _ _ st4<|O _ rfl
def VH{ok:Cx->Prop}{X:Cx}{iter:aE}{N:ar}{wi:TI}{g:TG}{tc:TT}{te:TE}(S:CpScope X scope N cap)(hok:∀C s₀ H₀ ex,(∀a o u,X.H₀ a=some (.frz o u)->H₀ a=some (.frz o u))->ok (kX X scope N C s₀ H₀ ex))(hi:ZQ ok X tg iter wi)
  (hg:∀C s₀ H₀ ex,PG (kX X scope N C s₀ H₀ ex) tg g) (ht:∀C s₀ H₀ ex,QY (kX X scope N C s₀ H₀ ex) ifs tc) (he:∀C s₀ H₀ ex,PE (kX X scope N C s₀ H₀ ex) elt te)
  (hs:∀x,foldedSetIterable iter X.env x=pure x:=by intro _;rfl):PE X (.ListComp elt [⟨tg,iter,ifs,0⟩] scope pos) (tLC cap wi g tc te):=by
 gp_on;rw[eval_ListComp];exact Jp (use:=none) (Q':=EP X pins σ Q) S hok hi hg ht he hs pins s σ H Q I h λj C D d m hn k inv q v=>⟨m,hn,λh' f=>⟨.ref D,d,inv h' f,rfl,q⟩⟩
def YU{X:Cx}{iter:aE}{N:ar}{wi:TI}{g:TG}{tc:TT}{te:TE}(hc:X.calm=true)(S:CpScope X scope N cap)(hi:PI X tg iter wi)
  (hg:∀C s₀ H₀ ex,PG (kX X scope N C s₀ H₀ ex) tg g) (ht:∀C s₀ H₀ ex,QY (kX X scope N C s₀ H₀ ex) ifs tc) (he:∀C s₀ H₀ ex,PE (kX X scope N C s₀ H₀ ex) elt te)
  (hs:∀x,foldedSetIterable iter X.env x=pure x:=by intro _;rfl):PE X (.ListComp elt [⟨tg,iter,ifs,0⟩] scope pos) (tLC cap wi g tc te):=
 VH S (λ_ _ _ _ _=>hc) hi.g hg ht he hs
section
variable {X:Cx}
def EE{bs:List Bool}:∀{us:ba},Vals (bs.map V.bl) us->LSm.BoolsAre us bs:=by
 induction bs with
 | nil=>intro us r;cases r;exact .nil
 | cons b bs d=>
  intro us r
  cases r with
  | cons h t=>
   have e:_=Value.bool b:=h;subst e;exact .cons b<|d t
def LH(hc:X.calm=true):kj X (.builtin "all") (λxs H Q=>∃(p:ak) (bs:List Bool),xs=[.ref p]/\qK X.K H p (bs.map V.bl)/\Q (.bl<|bs.all id) H):=by
 kt_k;obtain⟨p,bs,rfl,hq,q⟩:=h;kpc_g
 cases rx
 obtain⟨d,k,pl,F⟩:=I.list hq;have hb:=EE k;have f:=pl.isList;have g:p<s.heap.objs.size:=by obtain⟨_,e,_⟩:=f;exact bh e
 refine call_all_walk<|gR f ?_;refine⟨s.heap.objs.size,[s.heap.objs.size,p],[s.heap.objs.size],d.toArray.size,_,_,λi=>(bs[i]?).getD true,rfl,Walks.list (A:=X.A.in1) (I.ok.hd hc) _ p (bE g) d.toArray,
  ⟨⟨_,bA _ rfl,rfl,rfl⟩,f.push _⟩,λi v s' B z hP j=>?_,λh' C t=>?_⟩
 ·obtain⟨b,e,rfl⟩:=hb.get i v (by simpa using hP);dsimp[e,dN]at j;exact dh j
 ·have e:((List.range d.toArray.size).all λi=>(bs[i]?).getD true)=bs.all id:=by
   rw[aZ,hb.length];exact LSm.range_all bs
  rw[e];exact⟨.bl _,H,I.kept<|LSm.kept_iter t,rfl,q⟩
def LQ(hc:X.calm=true):kj X (.builtin "any") (λxs H Q=>∃(p:ak) (bs:List Bool),xs=[.ref p]/\qK X.K H p (bs.map V.bl)/\Q (.bl<|bs.any id) H):=by
 kt_k;obtain⟨p,bs,rfl,hq,q⟩:=h;kpc_g
 cases rx
 obtain⟨d,k,pl,F⟩:=I.list hq;have hb:=EE k;have f:=pl.isList;have g:p<s.heap.objs.size:=by obtain⟨_,e,_⟩:=f;exact bh e
 refine call_any_walk<|gR f ?_;refine⟨s.heap.objs.size,[s.heap.objs.size,p],[s.heap.objs.size],d.toArray.size,_,_,λi=>(bs[i]?).getD false,rfl,Walks.list (A:=X.A.in1) (I.ok.hd hc) _ p (bE g) d.toArray,
  ⟨⟨_,bA _ rfl,rfl,rfl⟩,f.push _⟩,λi v s' B z hP j=>?_,λh' C t=>?_⟩
 ·obtain⟨b,e,rfl⟩:=hb.get i v (by simpa using hP);dsimp[e,dN]at j;exact dh j
 ·have e:((List.range d.toArray.size).any λi=>(bs[i]?).getD false)=bs.any id:=by
   rw[aZ,hb.length];exact LSm.range_any bs
  rw[e];exact⟨.bl _,H,I.kept<|LSm.kept_iter t,rfl,q⟩
def Dm:kj X (.builtin "sorted") (λxs H Q=>∃(p:ak) (ns:ag),xs=[.ref p]/\(qK X.K H p (ns.map V.int)\/nF X.K H p (ns.map V.int))/\ns.length<64 /\
  ∀l (ns':ag),H l=none->ns'.Perm ns->ns'.Pairwise (·<=·)->Q (.ref l) (upd H l<|.lst<|ns'.map V.int)):=by
 kt_k;obtain⟨p,ns,rfl,hq,M,q⟩:=h;kpc_g
 cases rx
 have F:∀(d:ba) (T:String) (o:Obj) (n:Nat),(T = "list" \/ T = "tuple")->s.heap.get? p=some o->o.cls=.type T->o.data=.seq d.toArray n->Vals (ns.map V.int) d ->
   wpAny (model X.prog X.w) X.A (call (.builtin "sorted") [.ref p]) (EP X pins σ Q) X.xe s:=by
  intro d T o n W t f z j;have N:=intsAre_of j;have k:d.length=ns.length:=by have:=j.length;rw[aG]at this;exact this.symm
  refine dM kind_sorted iS iT (iU _) ?_;unfold Builtin.«sorted»;f_are;refine aH (wpAny_collect_seq p W t f z (λh' U=>?_)<|by rw[aZ,k,dU];lia);refine aH<|ji ?_;have g:(h'.push<|seqObj "list" d.toArray 0).get? h'.objs.size=some (seqObj "list" d.toArray 0):=bA _ rfl
  skip
  refine aH<|c8<|c9 slot_list_sort ⟨_,g,rfl⟩ entry_list_sort (list_sort_tree g N () λout ns' Y G L=>⟨_,rfl,?_⟩)<|args_list_sort _;obtain⟨e,P⟩:=sortedHeap_at (out:=out) g;have B:ns'.length=ns.length:=G.length_eq;have J:Inv X pins σ H { s with heap:=h' }:=I.kept (t':=s.toks) U;have old:∀b ob,h'.get? b=some ob->(sortedHeap (h'.push<|seqObj "list" d.toArray 0) h'.objs.size d out).get? b=some ob:=λb ob C=>by
   rw[sortedHeap_old (bE<|bh C)<|by rw[dw];exact fh<|bh C];exact aV _ C
  refine aR ⟨_,rfl,.ref h'.objs.size,_,J.laid (t':=s.toks) (o:=.lst<|ns'.map V.int) old (aK _) ?_,rfl,q _ ns' (J.hok.fresh<|aK _) G L⟩;refine⟨by rw[aG,B,dU];lia,out.toList,e,xW Y,?_⟩;rw[P]
 rcases hq with hq|hq
 ·obtain⟨d,j,pl,O⟩:=I.list hq;obtain⟨o,t,f,n,z⟩:=pl.isList;exact F d "list" o n (.inl rfl) t f z j
 ·obtain⟨d,j,pl,O⟩:=I.tuple hq;obtain⟨o,t,f,n,z⟩:=pl;exact F d "tuple" o n (.inr rfl) t f z j
def La:n5 X (compareOp .IsNot) (λx y H Q=>∃a b,x=.bl a/\y=.bl b/\Q (.bl<|a != b) H):=by
 kcj_m;obtain⟨a,b,rfl,rfl,q⟩:=h
 cases rx;cases ry
 exact isnot_bool ⟨.bl _,H,I,rfl,q⟩
def Dy:kj X (.type "range") (λxs H Q=>∃i j,xs=[.int i,.int j]/\∀p,H p=none->Q (.ref p) (upd H p<|.rng i j)):=by
 kt_k;obtain⟨i,j,rfl,q⟩:=h;obtain⟨u,f,rfl,⟨t,rfl⟩,⟨d,rfl⟩⟩:=vals2 r;refine call_range_2 ⟨.ref s.heap.objs.size,_,I.laid (o:=.rng i j) (λb o e=>aV _ e) (aK _) ?_,rfl,q _ I.fresh⟩;exact⟨t,d,s.toks,bA _ rfl⟩
abbrev lU (i j:Int):ag:=(List.range (j-i).toNat).map λk:Nat=>i+(k:Int)
def sE(i j:Int):(lU i j).length=(j-i).toNat:=by unfold lU;rw[aG,b_]
def zI{i:Int}{n:Nat}{acc:Array af}(h:ItemsOf (λk v=>∃t,v=Value.int (i+(k:Int) * 1) t) acc n):Vals (((List.range n).map λk:Nat=>i+(k:Int)).map V.int) acc.toList:=by
 obtain⟨hs,hv⟩:=h;have d:∀(l:ba) (b:Nat),(∀j v,l[j]?=some v->∃t,v=Value.int (i+((b+j:Nat):Int)) t)->Vals (((List.range' b l.length).map λk:Nat=>i+(k:Int)).map V.int) l:=by
  intro l
  induction l with
  | nil=>intro b _;exact .nil
  | cons v l f=>
   intro b hb;rw[bG,List.range'_succ,bI,bI];refine .cons ?_ ?_
   ·obtain⟨t,e⟩:=hb 0 v rfl;exact⟨t,by rw[e];simp⟩
   ·refine f (b+1) λj w hw=>?_;obtain⟨t,e⟩:=hb (j+1) w hw;exact⟨t,by rw[e,show b+(j+1)=b+1+j by lia]⟩
 have:=d acc.toList 0 λj v g=>by
  obtain⟨t,e⟩:=hv j v (by simpa using g);exact⟨t,by rw[e,cI,Int.mul_one]⟩
 rw[d9,hs,<- fj]at this;exact this
def OG{i j:Int}:Builtin.Range.rangeSize i j 1=(((j-i).toNat:Nat):Int):=by rw[rangeSize_one];split<;>omega
def A8(hc:X.calm=true):kj X (.type "list") (λxs H Q=>∃p i j,xs=[.ref p]/\H p=some (.rng i j)/\(-(2 ^ 62)<=i/\i<2 ^ 62/\-(2 ^ 62)<=j/\j<2 ^ 62)/\(j-i).toNat<=1000/\∀l,H l=none->Q (.ref l) (upd H l<|.lst<|(lU i j).map V.int)):=by
 kt_k;obtain⟨p,i,j,rfl,B,⟨G,g,k,C⟩,hn,q⟩:=h;kpc_g
 cases rx
 obtain⟨t,J,v,e⟩:=I.hok p _ B;refine call_list_range (n:=(j-i).toNat) (I.ok.hd hc) e (small_one G g k C) OG () λh' K f z F hS d=>?_;refine⟨.ref s.heap.objs.size,_,I.laid (o:=.lst<|(lU i j).map V.int) F (aK _) ⟨?_,f.toList,z,zI d,by rw[hS]⟩,rfl,q _ I.fresh⟩;rw[aG,sE,dU];lia
end
section
variable {X:Cx}
def El{prog:aj}{w:ah}{A:aA}{E:af->aC->Prop}{s:aC}{Q:ba->aC->Prop}{r:ak}{a b c:Int}{t v:Tok}{n:Nat}(hh:A.handled=none)(hr:IsRange s.heap r a b c t u v)(hsmall:Builtin.Range.small a b c=true)
  (hn:Builtin.Range.rangeSize a b c=n) (hlen:n<=2 ^ 24)
  (hQ:∀h' tk (acc':Array af),(∀b o,s.heap.get? b=some o->h'.get? b=some o)->ItemsOf (λi v=>∃t,v=.int (a+i * c) t) acc' n->Q acc'.toList { s with heap:=h',toks:=tk }) :
  wpAny (model prog w) A (collect<|.ref r) Q E s:=by
 unfold collect;refine aH<|wpAny_runValue<|iN F.entry_proto_collect ?_;rw[gc F.plain_proto_collect _]
 skip
 refine aH<|di ?_;refine aR ⟨plainId_quiet F.plain_list_iadd _,iN F.entry_list_iadd ?_⟩;rw[gc F.plain_list_iadd _]
 skip
 have hS:(s.heap.push {}).get? s.heap.objs.size=some { cls:=.type "list",data:=.seq #[] 0 }:=bA _ rfl;have k:∀(h':aq) (tk:Nat) (acc':Array af) (j:Nat),(∀b o,b≠s.heap.objs.size->(s.heap.push {}).get? b=some o->h'.get? b=some o) ->
   h'.get? s.heap.objs.size=some { cls:=.type "list",dict:=none,data:=.seq acc' j,slots:=#[]}->ItemsOf (λi v=>∃t,v=.int (a+i * c) t) acc' n ->
   wpAny (model prog w) A (match Value.ref s.heap.objs.size with
   | Value.ref a=>do
    match (<- load a).data with
     | Data.seq xs _=>pure xs.toList
     | _=>unsupported "internal:collect"
   | _=>unsupported "internal:collect") Q E { s with heap:=h',toks:=tk }:=by
  intro h' tk acc' j p g d
  skip
  refine aH<|wpAny_load g ?_;refine aR ?_;exact hQ h' tk acc' (λb o e=>p b o (bE<|bh e)<|aV _ e) d
 refine gb (wpAny_extend_range (A:=A) (R:=λz s'=>z=.ok (.ret<|.ref s.heap.objs.size)/\∃h' tk acc' j,s'={ s with heap:=h',toks:=tk }/\(∀b o,b≠s.heap.objs.size->(s.heap.push {}).get? b=some o->h'.get? b=some o) /\
   h'.get? s.heap.objs.size=some { cls:=.type "list",dict:=none,data:=.seq acc' j,slots:=#[]}/\ItemsOf (λi v=>∃t,v=.int (a+i * c) t) acc' n)
  (s:={ s with heap:=s.heap.push {}}) hh (aV _ hr) hsmall hn hlen s.heap.objs.size (.ref s.heap.objs.size) 0 hS
  (λh' tk acc' j p g d=>⟨rfl,h',tk,acc',j,rfl,p,g,d⟩)) (λfin s' h=>?_) λe s' h=>?_
 ·cases fin with
  | done f=>
   obtain⟨e,h',tk,acc',j,rfl,p,g,d⟩:=h
   cases e
   exact k h' tk acc' j p g d
  | again j=>exact⟨h.1,jq h.2 λr q hr=>by
    obtain⟨rfl,h',tk,acc',j,rfl,p,g,d⟩:=hr;exact k h' tk acc' j p g d⟩
 ·exact absurd h.1<|by simp
def vD(l:ak){a b:Int}{t v:Tok}{n:Nat}(hsmall:Builtin.Range.small a b 1=true)
  (hn:Builtin.Range.rangeSize a b 1=n) (hlen:n<=1000) :
  Meets (Builtin.«tuple.__new__» ⟨[.type "tuple",.ref l],[]⟩)
   (λA R s=>A.handled=none/\IsRange s.heap l a b 1 t u v/\∀(h':aq) (tk:Nat) (acc':Array af),(∀b o',s.heap.get? b=some o'->h'.get? b=some o')->ItemsOf (λi v=>∃t,v=.int (a+i * 1) t) acc' n->R (.ok<|.ret<|.ref h'.objs.size) { s with heap:=h'.push { cls:=.type "tuple",data:=.seq acc' },toks:=tk }):=
 .of_wp λprog w A R s h=>by
  obtain⟨C,g,d,tk,B⟩:=s;obtain⟨G,k,h⟩:=h;have z:=sub_tuple_self;have p:=init_tuple_lookup;have F:=madeHere_tuple;have J:Shared.TypeIs ⟨C,g,d,tk,B⟩ (.ref l) "range" := ⟨_,k,rfl⟩;have q:A.in1.handled=none:=G
  wp_walk using dS k,ju J,El (A:=A.in1) q k hsmall hn (by omega)
  intro h' j acc' K f;show wpAny _ _ (Builtin.Tuple.tupleExact acc'.toList.toArray >>= λv=>ret v) _ _ _;unfold Builtin.Tuple.tupleExact;have e:acc'.toList.toArray=acc':=by simp
  refine aH (di ?_<|by show acc'.toList.toArray.size<=sizeLine;rw[e,f.1,dU];omega);refine aR ⟨_,rfl,?_⟩;rw[e];exact h h' j acc' K f
def zS(hc:X.calm=true):kj X (.type "tuple") (λxs H Q=>∃p i j,xs=[.ref p]/\H p=some (.rng i j)/\(-(2 ^ 62)<=i/\i<2 ^ 62/\-(2 ^ 62)<=j/\j<2 ^ 62)/\(j-i).toNat<=1000/\∀l,H l=none->Q (.ref l) (upd H l<|.tup<|(lU i j).map V.int)):=by
 kt_k;obtain⟨p,i,j,rfl,G,⟨L,B,C,J⟩,hn,q⟩:=h;kpc_g
 cases rx
 obtain⟨t,M,v,e⟩:=I.hok p _ G;refine callType_new F.called_tuple ⋯ (F.typeCall_tuple_1 _) (F.newCall_tuple_1 _) (λg=>F.args_object_init_2 g _) F.entry_tuple_new
  (vD (n:=(j-i).toNat) p (small_one L B C J) OG hn) ⟨I.ok.hd hc,e,λh' k d K f=>⟨⟨_,bA _ rfl,rfl⟩,?_⟩⟩
 have z:Inv X pins σ H { s with heap:=h',toks:=k }:=I.kept K;refine⟨.ref h'.objs.size,_,z.laid (t':=k) (o:=.tup<|(lU i j).map V.int) (λb o e=>aV _ e) (aK _) ⟨?_,d.toList,zI f,?_⟩,rfl,q _<|z.hok.fresh<|aK _⟩
 ·rw[aG,sE,dU];lia
 ·have e:d.toList.toArray=d:=by simp
  rw[e];exact qA.new _ _
def Fj{c:String}:kj X (.builtin "isinstance") (λxs H Q=>∃x t b,xs=[x,.ty c]/\TyOf X.K H x t/\PySem.W.kitOne X.K t (.type c)=some b/\Q (.bl b) H):=by
 kt_k;obtain⟨x,t,b,rfl,ty,e,q⟩:=h;obtain⟨u,g,rfl,rx,d⟩:=vals2 r
 cases d
 exact LG I rx ty e λf=>⟨.bl b,H,I.tok f,rfl,q⟩
abbrev XJ (K:au):R2:=λx y H Q=>∃a b ys,x=.ref a/\y=.ref b/\nF K H a []/\nF K H b ys/\Q (.ref b) H
def QE:n5 X (binaryOp .Add) (XJ X.K):=by
 kcj_m;obtain⟨a,b,ys,rfl,rfl,h1,h2,q⟩:=h
 cases rx
 cases ry
 obtain⟨us,r1,p1,_⟩:=I.tuple h1;obtain⟨G,r2,p2,_⟩:=I.tuple h2
 cases r1
 obtain⟨⟨cls,J,data,C⟩,z,hc,n,B⟩:=id p1;obtain⟨⟨t,j,p,k⟩,d,f,F,g⟩:=id p2;simp only at hc B f g;subst hc B f g;exact concat_meets ⟨_,z,rfl⟩ ⟨_,d,rfl⟩ noFill_tuple_add seq_tuple_add gS gO (gC _ _)
   (tuple_addW0 a b _ G.toArray n F J j C k<|by simp) ⟨z,d,⟨.ref b,H,I,rfl,q⟩⟩
end
def qP:bootBuiltins "len" = some (.builtin "len"):=by decide +kernel
def Xg:bootBuiltins "abs" = some (.builtin "abs"):=by decide +kernel
def XT:bootBuiltins "all" = some (.builtin "all"):=by decide +kernel
def V8:bootBuiltins "any" = some (.builtin "any"):=by decide +kernel
def sA:bootBuiltins "sorted" = some (.builtin "sorted"):=by decide +kernel
def vO:bootBuiltins "isinstance" = some (.builtin "isinstance"):=by decide +kernel
def Xj:bootBuiltins "int" = some (.type "int"):=by decide +kernel
def Tj:bootBuiltins "bool" = some (.type "bool"):=by decide +kernel
def yV:bootBuiltins "list" = some (.type "list"):=by decide +kernel
def Av:bootBuiltins "tuple" = some (.type "tuple"):=by decide +kernel
def FY:bootBuiltins "range" = some (.type "range"):=by decide +kernel
structure Blt (mg:Str->bd):Prop where
 len:mg "len" = none
 abs:mg "abs" = none
 all:mg "all" = none
 any:mg "any" = none
 max:mg "max" = none
 min:mg "min" = none
 sorted:mg "sorted" = none
 isinstance:mg "isinstance" = none
 int:mg "int" = none
 bool:mg "bool" = none
 str:mg "str" = none
 list:mg "list" = none
 tuple:mg "tuple" = none
 range:mg "range" = none
def IK:∀{a b:ag},a.Perm b->a.Pairwise (·<=·)->b.Pairwise (·<=·)->a=b:=λp ha hb=>
 fy (λx y _ _ h1 h2=>Int.le_antisymm h1 h2) ha hb p
def aaM(i j:Int):(lU i j).Pairwise (·<=·):=by
 unfold lU;rw[cJ];exact List.pairwise_lt_range.imp λh=>()
def wB(i j:Int):(lU i j).Nodup:=by
 unfold lU;rw[List.Nodup,cJ];exact List.pairwise_lt_range.imp λh=>()
def EH{i j k:Int}:k∈lU i j ↔ i<=k/\k<j:=by
 unfold lU;rw[bu];constructor
 ·rintro⟨a,ha,rfl⟩;have:=cO.mp ha;omega
 ·rintro⟨h1,h2⟩;exact⟨(k-i).toNat,cO.mpr<|by omega,by omega⟩
theorem yl:∀{l m:ag},l.Nodup->(∀x∈l,x∈m)->m.length<=l.length->l.Perm m
 | [],m,_,_,h=>by
  have:m=[]:=dZ.mp<|Nat.le_zero.mp h;rw[this]
 | a::l,m,nd,hs,hl=>by
  have ha:a∈m:=hs a aO;have d:=bU.mp nd;have k:m.Perm (a::m.erase a):=List.perm_cons_erase ha;have j:=yl (l:=l) (m:=m.erase a) d.2 (λx g=>by
   have f:x≠a:=λe=>d.1<|e ▸ g;exact(List.mem_erase_of_ne f).mpr (hs x<|aQ _ g)) (by
   rw[List.length_erase_of_mem ha];dsimp[bG]at hl;omega)
  exact(List.Perm.cons a j).trans k.symm
abbrev Kn (P:aj)(w:ah)(K:au)(mg:Str->bd)(base:aq)(k:Nat)(x:Str)(ps:ar)(sp:Sp):Prop:=
 ∃(f:ak) (fd:FuncData),FnOk P w K mg base qb k f fd ps sp/\mg x=some (.ref f)/\PySem.W.keepIn K (.ref f)=true/\Binds K fd ps []
def Y4{X:Cx}{k:Nat}{x:Str}{sp:Sp}{e:aE}{t:TA}{p:Pos}(G:Kn X.prog X.w X.K X.mg X.base k x ps sp)(hr:Room k X.A)(ha:PA X (e::es) t)(hg:Gl X x:=by rfl)
  (hdb:(x == ("__debug__" : Str))=false:=by decide) (hs:starEach (e::es) X.env=(false,eval e X.env)::starEach es X.env:=by rfl) (hplain:(backTo pos<|starEach es X.env).any (·.1)=false:=by rfl) :
  PE X (.Call (.Name x p) (e::es) [] pos) (U4 sp [] E0 t):=by
 obtain⟨f,fd,F,d,g,hb⟩:=G;exact Sf F hr hg d g hb .nil ZF ha hdb hs hplain
abbrev Aj (XN fs:ar):ar->List (bj)->Prop
 | [],[]=>True
 | _::N,none::c=>Aj XN fs N c
 | x::N,some j::c=>XN[j]?=some x/\x∈fs/\Aj XN fs N c
 | _,_=>False
theorem Aj.len{fs:ar}:∀{N:ar}{c:List<|bj},Aj XN fs N c->c.length=N.length
 | [],[],_=>rfl
 | _::N,none::c,h=>c7 (·+1) (Aj.len (N:=N) (c:=c) h)
 | _::N,some j::c,h=>c7 (·+1) (Aj.len (N:=N) (c:=c) h.2.2)
 | [],_::_,h=>h.elim
 | _::_,[],h=>h.elim
theorem Aj.cp{fs:ar}:∀{N:ar}{c:List<|bj},Aj XN fs N c->∀(i j:Nat) (x:Str),N[i]?=some x->c[i]?=some (some j)->XN[j]?=some x/\x∈fs
 | [],[],_,i,j,x,h1,_=>by simp at h1
 | y::N,none::c,h,i,j,x,h1,h2=>by
  cases i with
  | zero=>simp at h2
  | succ i=>exact Aj.cp (N:=N) (c:=c) h i j x (by simpa using h1)<|by simpa using h2
 | y::N,some k::c,h,i,j,x,h1,h2=>by
  cases i with
  | zero=>
   simp at h1 h2;subst h1 h2;exact⟨h.1,h.2.1⟩
  | succ i=>exact Aj.cp (N:=N) (c:=c) h.2.2 i j x (by simpa using h1)<|by simpa using h2
 | [],_::_,h,_,_,_,_,_=>h.elim
 | _::_,[],h,_,_,_,_,_=>h.elim
def rE{X:Cx}{scope:Scope}{N:ar}(fs:ar)(kind:scope.kind=.function)(nocf:∀y∈scope.names,y.2=.cell->scope.names.lookup y.1=some .cell/\(y.1,NameKind.free)∉scope.names)(nm:∀y∈scope.names,y.2=.local->scope.names.lookup y.1=some .local)
  (nolf:∀y∈scope.names,y.2=.free->scope.names.lookup y.1≠some .local) (hf:∀y∈scope.names,y.2=.free->y.1∈fs) (hfs:∀x∈fs,(x,NameKind.free)∈scope.names) (hk:∀x∈fs,X.env.kindOf x=some .cell\/X.env.kindOf x=some .free) (cp:Aj X.N fs N cap):CpScope X scope N cap where
 kind:=kind
 nocf:=λx hf hc=>(nocf (x,.cell) hc rfl).2 hf
 nm:=nm
 fr:=λy hy e=>hk _ (hf y hy e)
 rl:=λy h=>by
  have g:∀k,(k=NameKind.cell\/k=NameKind.free)->(relabel scope X.env).names.lookup y=some k->(y,NameKind.free)∈scope.names\/scope.names.lookup y=some .cell:=λk hk e=>by
   obtain⟨⟨t,p⟩,f,d⟩:=bu.mp<|Ax e;dsimp only at d;split at d
   ·rename_i hc
    cases d
    have:p=.free:=by
     dsimp[gh]at hc;simpa using hc.1.1
    subst this;exact .inl f
   ·cases d
    rcases hk with rfl|rfl
    ·exact .inr (nocf _ f rfl).1
    ·exact .inl f
  rcases h with h|h
  ·exact g _ (.inl rfl) h
  ·exact g _ (.inr rfl) h
 len:=cp.len
 nolf:=λx q=>nolf (x,.free) q rfl
 cp:=λi j x h1 h2=>by
  obtain⟨a,b⟩:=cp.cp i j x h1 h2;exact⟨a,hfs x b⟩
inductive Kd where
 | non|bl|int|str|lst|tup
 deriving DecidableEq
abbrev Kd.ty:Kd->af
 | .non=>.type "NoneType" | .bl=>.type "bool" | .int=>.type "int" | .str=>.type "str" | .lst=>.type "list" | .tup=>.type "tuple"
abbrev XI (H:Hp)(x:V):Kd->Prop
 | .non=>x=.non
 | .bl=>∃b,x=.bl b
 | .int=>∃i,x=.int i
 | .str=>∃s,x=.str s
 | .lst=>∃a xs,x=.ref a/\H a=some (.lst xs)
 | .tup=>∃a xs,x=.ref a/\H a=some (.tup xs)
def XI.ab7{K:au}{H:Hp}{x:V}{k:Kd}(h:XI H x k):TyOf K H x k.ty:=by
 cases k with
 | non=>cases h;exact .non
 | bl=>obtain⟨b,rfl⟩:=h;exact .bl b
 | int=>obtain⟨b,rfl⟩:=h;exact .int b
 | str=>obtain⟨b,rfl⟩:=h;exact .str b
 | lst=>obtain⟨a,xs,rfl,e⟩:=h;exact .lst e
 | tup=>obtain⟨a,xs,rfl,e⟩:=h;exact .tup e
def T_{K:au}(k:Kd):PySem.W.kitOne K k.ty (.type "int")=some (decide<|k=.int\/k=.bl):=by cases k<;>rfl
def Nl{K:au}(k:Kd):PySem.W.kitOne K k.ty (.type "bool")=some (decide<|k=.bl):=by cases k<;>rfl
def kit_tuple{K:au}(k:Kd):PySem.W.kitOne K k.ty (.type "tuple")=some (decide<|k=.tup):=by cases k<;>rfl
def Oz{K:au}(k:Kd):PySem.W.kitOne K k.ty (.type "list")=some (decide<|k=.lst):=by cases k<;>rfl
section
variable {prog:aj}{w:ah}{A:aA}{E:af->aC->Prop}{s:aC}
def xG{t:ak}{i:Nat}{x:af}{Q:af->aC->Prop}(hit:s.heap.IsTupleIter it t i)
  (ht:s.heap.IsTuple t items) (hx:items[i]?=some x) (hQ:∀h',h'.IsTupleIter it t (i+1)->Heap.SameBut it s.heap h'->Q x { s with heap:=h' }) :
  wpAny (model prog w) A (Builtin.SmallTypes.nextOf<|.ref it) Q E s:=by
 obtain⟨o,f,hc,d⟩:=id hit;obtain⟨p,j,_,k,g⟩:=ht;unfold Builtin.SmallTypes.nextOf;refine aH (fG (name:=Str.ofString "__next__") hit.typeIs eL
  (c9 eL hit.typeIs F.entry_tuple_iterator_next ?_<|F.args_tuple_iterator_next_1 _))
 show wpAny _ _ (field (.ref it) 0 >>= _) _ _ s;refine aH (wpAny_field f d (x:=.ref t) rfl ?_)
 skip
 rw[aM<|show ¬((Value.ref t == Value.none)=true)from bN]
 skip
 refine aH (wpAny_field f d (x:=.int i 0) rfl ?_)
 skip
 refine aH<|gT j g ?_;dsimp[fm,hx];refine aH (iZ f d (by simp)<|aR ⟨x,rfl,aR<|hQ _ ?_<|gu ..⟩);exact⟨_,iu _ f<|Obj.isFreed_of_fields<|gK d _,(Obj.cls_mapFields ..).trans hc,by
  rw[gK d];simp[rawInt]⟩
def yh{t:ak}{i:Nat}{Q:af->aC->Prop}(hh:A.handled=none)
  (hit:s.heap.IsTupleIter it t i) (ht:s.heap.IsTuple t items) (hx:items[i]?=none)
  (hE:∀h' e,Heap.ExtBut it s.heap h'->(∃o,h'.get? e=some o/\o.cls=.type "StopIteration")->E (.ref e) { s with heap:=h' }) :
  wpAny (model prog w) A (Builtin.SmallTypes.nextOf<|.ref it) Q E s:=by
 obtain⟨o,g,hc,f⟩:=id hit;obtain⟨p,j,_,k,d⟩:=ht;unfold Builtin.SmallTypes.nextOf;refine aH (fG (name:=Str.ofString "__next__") hit.typeIs eL
  (c9 eL hit.typeIs F.entry_tuple_iterator_next ?_<|F.args_tuple_iterator_next_1 _))
 show wpAny _ _ (field (.ref it) 0 >>= _) _ _ s;refine aH (wpAny_field g f (x:=.ref t) rfl ?_)
 skip
 rw[aM<|show ¬((Value.ref t == Value.none)=true)from bN]
 skip
 refine aH (wpAny_field g f (x:=.int i 0) rfl ?_)
 skip
 refine aH<|gT j d ?_;dsimp[fm,hx];refine aH (d8<|aH<|iZ g f (by simp) ?_)
 skip
 refine aH ?_;dsimp[newExc,newTuple];refine aH (di ?_<|by size_fits);refine aH (m:=firstArgMember _ _) (wpAny_of_eq (a:=Value.none) (by first|rfl|(dsimp[firstArgMember];rfl)) ?_);refine di ?_ (by size_fits);dsimp[raiseNew];refine aH (wpAny_handled ?_)
 first|rw[show A.in1.handled=none from hh]|rw[hh]
 refine aH<|aR<|wpAny_throw ?_;exact hE _ _ (((gu ..).extBut.push _).push _) ⟨_,bA _ rfl,rfl⟩
end
def N3{prog:aj}{w:ah}{A:aA}(hh:A.handled=none)(it l:ak)(hne:l≠it)(items:Array af) :
  Draws prog w A it [it,l] items.size (λi v=>items[i]?=some v) (λi h=>h.IsTupleIter it l i/\h.IsTuple l items) where
 live:=λ_ _ st=>let⟨o,ho,_⟩:=st.1;⟨o,ho⟩
 frame:=λ_ _ _ st g=>⟨st.1.at λo e=>g it (by simp) o e,let⟨o,ho,r⟩:=st.2;⟨o,g l (by simp) o ho,r⟩⟩
 item:=λi s Q E j st p=>by
  refine xG st.1 st.2 (x:=items[i]) (by simp[j]) λh' f d=>?_;exact p _ h' s.toks (by simp[j]) ⟨f,let⟨o,ho,r⟩:=st.2;⟨o,d.extBut l o hne ho,r⟩⟩ d
 done:=λs Q E st k=>yh hh st.1 st.2 (by simp) k
def Ep(l:ak)(items:Array af) :
  Meets (Builtin.«enumerate.__new__» ⟨[.type "enumerate",.ref l],[]⟩) (λ_ R s=>s.heap.IsTuple l items /\
   R (.ok<|.ret<|.ref (s.heap.push { cls:=.type "tuple_iterator",data:=.fields #[.ref l,.int 0 0]}).objs.size)
    { s with heap:=(s.heap.push { cls:=.type "tuple_iterator",data:=.fields #[.ref l,.int 0 0]}).push { cls:=.type "enumerate",data:=.fields #[.none,.bool false,.ref s.heap.objs.size,rawInt 0,.none,.none]}}):=
 .of_wp λprog w A R s h=>by
  obtain⟨F,g,d,C,t⟩:=s;obtain⟨j,h⟩:=h;have k:=sub_enumerate;obtain⟨B,f,q,z,p⟩:=id j
  wp_walk using dS f
  refine wpAny_stack_any λst=>aR ?_;split
  ·rename_i c _ _ _ _ _
   cases(c == Value.type "enumerate")
   ·wp_walk using dS f,gJ j
    exact⟨_,rfl,h⟩
   ·wp_walk using dS f,gJ j
    exact⟨_,rfl,h⟩
  ·wp_walk using dS f,gJ j
   exact⟨_,rfl,h⟩
abbrev Ite (K:au)(a:ak):It:=
 ⟨λi H=>∃xs x,nF K H a xs/\xs[i]?=some x,λi H x H'=>∃T,H T=none/\x=.ref T/\∀xs y,nF K H a xs->xs[i]?=some y->H'=upd H T (.tup [.int i,y]),λi H=>∃xs,nF K H a xs/\xs.length=i⟩
def G8{P:aj}{w:ah}{K:au}(a e it:ak)(hei:e≠it):Turn P w K (.Tuple elts x1 tpos) (Ite K a) [e,it] e (λi h=>(∃old,IsEnum h e it i old)/\h.IsTupleIter it a i) where
 mem:=by simp
 obj:=λi h st b hb=>by
  obtain⟨⟨old,f⟩,g⟩:=st;have J:b=e\/b=it:=by simpa using hb
  rcases J with rfl|rfl
  ·exact⟨_,f,λv z=>by cases z⟩
  ·obtain⟨o,e,c,d⟩:=g;exact⟨o,e,λv z=>by rw[d]at z;cases z⟩
 keep:=λi h h' st k=>by
  obtain⟨⟨old,f⟩,g⟩:=st;exact⟨⟨old,k e (by simp) _ f⟩,g.at λo B=>k it (by simp) o B⟩
 item:=by
  w_up;subst hP hw hK;obtain⟨⟨old,f⟩,g⟩:=st;obtain⟨xs,x,hq,hx⟩:=hg;obtain⟨C,rv,p,hz⟩:=I.tuple hq;obtain⟨u,hu,ru⟩:=rv.get hx;have T:a≠it:=by
   obtain⟨o,B,F,_⟩:=p;obtain⟨o2,N,G,_⟩:=g;intro z;rw[z,N]at B
   cases B
   rw[F]at G;exact absurd (Value.type.inj G) ⋯
  have hea:e≠a:=by
   obtain⟨o,B,F,_⟩:=p;intro z;rw[<- z,f]at B
   cases B
   exact absurd (Value.type.inj F) ⋯
  have hlt:i<C.toArray.size:=by
   rw[aZ];exact(aJ.mp hu).1
  refine wpAny_pyNext_enum_itemD (N3 (A:=X.A.in1) (I.ok.hd hc) it a T C.toArray) f ⟨g,p⟩ hlt hei (by simp[hei,hea]) λx' h' tk hP W hst hT hsz hk=>?_;have ex:x'=u:=by
   have:C.toArray[i]?=some u:=by simpa using hu
   rw[this]at hP;exact(bf hP).symm
  subst ex;refine⟨_,rfl,wpAny_letOwnedTupleGo_enum W λh2 he2 L=>?_⟩;have U:H s.heap.objs.size=none:=I.hok.fresh<|aK _;have Y:e<s.heap.objs.size:=bh f;have hil:it<s.heap.objs.size:=by obtain⟨o,B,_⟩:=g;exact bh B
  have V:∀b o,b≠e->b≠it->s.heap.get? b=some o->h2.get? b=some o:=λb o h1 h3 q=>L.extBut b o h1<|hk b o h1 h3 q;have hT2:h2.get? s.heap.objs.size=some { cls:=.type "tuple",data:=.seq #[.int i tk,x']}:=L.extBut _ _ (jo Y) hT;obtain⟨e0,e1,e2,e3,e4,e5⟩:=hf e (by simp);obtain⟨Z,i1,i2,i3,i4,i5⟩:=hf it (by simp);have nT:∀b o,s.heap.get? b=some o->b≠s.heap.objs.size:=λb o q=>bE<|bh q;have t:∀c v,H c=some v->c≠e/\c≠it:=λc v q=>⟨(λz=>by rw[z,e0]at q;cases q),(λz=>by rw[z,Z]at q;cases q)⟩;have I2:Inv X pins σ (upd H s.heap.objs.size<|.tup [.int i,x]) { s with heap:=h2,toks:=tk+1 }:=by
   refine I.step (g':=s.gens) (d':=s.drawn) (ch:=[e,it]) (λb hb=>?_) (λb o _ _ j q _=>?_) (λb o _ _ j q _=>?_) (λb o j q n=>?_) (λb o j q=>?_) (λb ys q=>?_) (λb o u' q=>?_) (λb ps q=>?_) (λm hm=>?_) (λb u' q=>?_) I.bare
   ·have J:b=e\/b=it:=by simpa using hb
    rcases J with rfl|rfl
    ·exact⟨e3,e1,e4,e5⟩
    ·exact⟨i3,i1,i4,i5⟩
   ·exact V b o (λz=>j<|by simp[z]) (λz=>j<|by simp[z]) q
   ·exact⟨o.slots,V b o (λz=>j<|by simp[z]) (λz=>j<|by simp[z]) q⟩
   ·rw[jP<|nT b o q];exact n
   ·exact⟨o,V b o (λz=>j<|by simp[z]) (λz=>j<|by simp[z]) q⟩
   ·rw[jP<|j3 q U];exact q
   ·rw[jP<|j3 q U];exact q
   ·exact⟨#[],by rw[jP<|j3 q U,q];simp⟩
   ·obtain⟨o,es,ep,B,r⟩:=hm;exact⟨o,es,ep,V _ o (cR e1) (cR i1) B,r⟩
   ·by_cases z:b=s.heap.objs.size
    ·subst z;rw[kD]at q
     cases q
     exact⟨by show 2<=sizeLine;decide,[.int i tk,x'],.cons ⟨tk,rfl⟩<|.cons ru .nil,⟨_,hT2,rfl,rfl,0,rfl⟩⟩
    ·rw[jP z]at q;refine(I.hok b u' q).stay (λc v hc O=>V c v ?_ ?_ O) (λc O=>?_) λc ys O=>?_
     ·rcases hc with z|z
      ·rw[z];exact(t b u' q).1
      ·exact(t c _ z).1
     ·rcases hc with z|z
      ·rw[z];exact(t b u' q).2
      ·exact(t c _ z).2
     ·rw[jP<|j3 O U];exact O
     ·rw[jP<|j3 O U];exact O
  refine⟨.ref s.heap.objs.size,_,I2,rfl,⟨s.heap.objs.size,U,rfl,λys y hy M=>?_⟩,⟨⟨x',by simpa using he2⟩,?_⟩,λb hb=>?_⟩
  ·rw[I.yi hy hq]at M;rw[hx]at M
   cases M
   rfl
  ·exact hst.1.at λo B=>L.extBut it o (cR hei) B
  ·have J:b=e\/b=it:=by simpa using hb
   rcases J with rfl|rfl
   ·rw[jP<|bE Y];exact e0
   ·rw[jP<|bE hil];exact Z
 done:=by
  w_up;subst hP hw hK;obtain⟨⟨old,f⟩,g⟩:=st;obtain⟨xs,hq,hx⟩:=hg;obtain⟨C,rv,p,hz⟩:=I.tuple hq;obtain⟨Z,i1,i2,i3,i4,i5⟩:=hf it (by simp);have T:a≠it:=by
   obtain⟨o,B,F,_⟩:=p;obtain⟨o2,N,G,_⟩:=g;intro z;rw[z,N]at B
   cases B
   rw[F]at G;exact absurd (Value.type.inj G) ⋯
  have hl:=rv.length;have ei:C.toArray.size=i:=by rw[aZ,<- hl,hx]
  exact wpAny_pyNext_enum_endD (N3 (A:=X.A.in1) (I.ok.hd hc) it a T C.toArray) f ⟨by rw[ei];exact g,p⟩ λh' eb=>⟨rfl,I.turned (t':=s.toks) (λb o hb q=>eb b o hb q) Z i1 i3 i4 i5⟩
 self:=λ_ _ _ _ _ st h=>let⟨⟨_,f⟩,_⟩:=st;wpAny_pyIter_enum f h
def Dk:bootBuiltins "enumerate" = some (.type "enumerate"):=by decide +kernel
section
variable {X:Cx}
abbrev ZJ (K:au)(ta:TA):TI:=λσ H R=>ta σ H λd H1=>∃a xs,d=[.ref a]/\nF K H1 a xs/\R (Ite K a) H1
def Qv{a:aE}{ta:TA}{p:Pos}(hg:Gl X "enumerate")(hm:X.mg "enumerate" = none)(ha:PA X [a] ta)(hs:starEach [a] X.env=[(false,eval a X.env)]:=by rfl):PI X (.Tuple elts x1 tpos) (.Call (.Name "enumerate" p) [a] [] pos) (ZJ X.K ta):=by
 intro pins s σ H R I h;refine Call_<|ye I hg hm Dk<|eg (mX (ha pos pins s σ H _ I h) λus d ⟨M,H1,I1,r1,G⟩=>?_) hs rfl;obtain⟨t,xs,e,hq,q⟩:=G;subst e;obtain⟨u,rfl,rx⟩:=vals1 r1
 cases rx
 obtain⟨f,N,J,O⟩:=I1.tuple hq;refine callType_new F.called_enumerate ⋯ (F.typeCall_enumerate_1 _) (F.newCall_enumerate_1 _) (λg=>F.args_object_init_2 g _) F.entry_enumerate_new (Ep t f.toArray) ⟨J,⟨_,bA _ rfl,rfl⟩,?_⟩;have B:Inv X pins σ H1 { d with heap:=d.heap.push { cls:=.type "tuple_iterator",data:=.fields #[.ref t,.int 0 0]}}:=I1.kept (t':=d.toks) λb o e=>aV _ e;have L:Inv X pins σ H1 { d with heap:=(d.heap.push { cls:=.type "tuple_iterator",data:=.fields #[.ref t,.int 0 0]}).push { cls:=.type "enumerate",data:=.fields #[.none,.bool false,.ref d.heap.objs.size,rawInt 0,.none,.none]}}:=B.kept (t':=d.toks) λb o e=>aV _ e;have C:IsEnum ((d.heap.push { cls:=.type "tuple_iterator",data:=.fields #[.ref t,.int 0 0]}).push { cls:=.type "enumerate",data:=.fields #[.none,.bool false,.ref d.heap.objs.size,rawInt 0,.none,.none]}) (d.heap.push { cls:=.type "tuple_iterator",data:=.fields #[.ref t,.int 0 0]}).objs.size d.heap.objs.size 0 .none:=bA _ rfl;have j:((d.heap.push { cls:=.type "tuple_iterator",data:=.fields #[.ref t,.int 0 0]}).push { cls:=.type "enumerate",data:=.fields #[.none,.bool false,.ref d.heap.objs.size,rawInt 0,.none,.none]}).IsTupleIter d.heap.objs.size t 0:=⟨_,aV _<|bA _ rfl,rfl,rfl⟩;have z:(d.heap.push { cls:=.type "tuple_iterator",data:=.fields #[.ref t,.int 0 0]}).objs.size≠d.heap.objs.size:=by rw[dw];exact jo (dD _)
 refine wpAny_pyIter_enum C ⟨_,[_,d.heap.objs.size],_,_,H1,rfl,L,G8 t _ d.heap.objs.size z,⟨⟨.none,C⟩,j⟩,λb hb=>?_,q⟩;have k:b=(d.heap.push { cls:=.type "tuple_iterator",data:=.fields #[.ref t,.int 0 0]}).objs.size\/b=d.heap.objs.size:=by simpa using hb
 rcases k with rfl|rfl
 ·exact I1.DS (by rw[dw];exact Nat.le_succ _) (B.hok.fresh<|aK _)
 ·exact I1.DS (aK _)<|I1.hok.fresh<|aK _
end
end L2
namespace L2
open PySem PySem.Spec PyProof.Rows
open PySem.SeqAt
open PySem.AutoSeq1 (wpAny_loadPart')
open PySem.MeetsSeq PySem.MeetsSeq2 PySem.MeetsSeq3 PySem.SeqAt
section
variable {X:Cx}
def PZ:n5 X (binaryOp .FloorDiv) (rI (λ_ j=>0<j/\j<18446744073709551616) λi j=>.int<|i / j):=opI λi j _ _ _ _ _ hc q=>by
 have h1:(0:Int)<j:=hc.1;have h2:j<18446744073709551616:=hc.2;refine floordiv_int (by omega) (by rw[Int.fdiv_eq_ediv_of_nonneg i<|by omega];exact q)<|.inl<|PyProof.noPylong_of_log2 ?_;exact bR ((Nat.log2_lt<|by omega).mpr<|show j.natAbs<2 ^ 64 by omega) ⋯
end
end L2
namespace L2
open PySem PySem.Spec PyProof.Rows
abbrev Its (x:Str):It:=⟨λi _=>i<x.cps.size,λi H v H'=>H'=H/\∃c,x.cps[i]?=some c/\v=.str ⟨#[c]⟩,λi _=>i=x.cps.size⟩
def LX{P:aj}{w:ah}{K:au}(x:Str)(t:Tok)(it:ak):Turn P w K tg (Its x) [it] it (λi h=>h.IsStrIter it "str_ascii_iterator" x t i) where
 mem:=by simp
 obj:=λi h st b hb=>by
  have e:b=it:=by simpa using hb
  subst e;obtain⟨o,e,c,d⟩:=st;exact⟨o,e,λv z=>by rw[d]at z;cases z⟩
 keep:=λi h h' st k=>let⟨o,ho,r⟩:=st;⟨o,k it (by simp) o ho,r⟩
 item:=by
  w_up;subst hP hw hK;kpf_c;have W:=Walks.strAscii (prog:=X.prog) (w:=X.w) (I.ok.hd hc) it x t;refine W.item i s _ _ hg st λv h' j hv f g=>?_;obtain⟨c,u,p,rfl⟩:=hv;have B:Inv X pins σ H { s with heap:=h',toks:=j }:=I.turned (λb o hb e=>g b o (by simpa using hb) e) f0 f1 f3 f4 f5;obtain⟨o,e,q,d⟩:=id f;exact⟨_,rfl,FG (s:={ s with heap:=h',toks:=j }) e q d ⋯ ⟨.str ⟨#[c]⟩,H,B,⟨u,rfl⟩,⟨rfl,c,p,rfl⟩,f,λb hb=>(hf b hb).1⟩⟩
 done:=by
  w_up;subst hP hw hK;kpf_c;have hg:i=x.cps.size:=hg;subst hg;have W:=Walks.strAscii (prog:=X.prog) (w:=X.w) (I.ok.hd hc) it x t;exact W.done s _ _ st λh' j g=>⟨rfl,I.turned (λb o hb e=>g b o (by simpa using hb) e) f0 f1 f3 f4 f5⟩
 self:=λ_ _ _ _ _ st h=>wpAny_pyIter_striter_ascii st h
section
variable {X:Cx}{tg:aE}
abbrev abw (tl:TE):TI:=λσ H R=>tl σ H λx H1=>∃y:Str,x=.str y/\y.cps.all (· < 128)=true/\R (Its y) H1
def Yr{l:aE}{tl:TE}(hl:PE X l tl):PI X tg l (abw tl):=by
 intro pins s σ H R I h;refine mX (hl pins s σ H _ I h) λv d h9=>?_;obtain⟨x,H1,I1,r1,f⟩:=h9;obtain⟨y,e,ha,q⟩:=f;subst e;obtain⟨t,rfl⟩:=r1;refine wpAny_pyIter_ascii ha ?_;refine⟨d.heap.objs.size,[d.heap.objs.size],_,_,H1,rfl,I1.kept (t':=d.toks) λb o e=>aV _ e,LX y t _,⟨_,bA _ rfl,rfl,rfl⟩,λb hb=>?_,q⟩;have e:b=d.heap.objs.size:=by simpa using hb
 subst e;exact I1.DS (aK _)<|I1.hok.fresh<|aK _
end
section
variable {κ:Type}[DecidableEq κ]
abbrev qv (kvs:List<|κ×V)(k:κ):Option V:=(kvs.find? λkv=>decide<|kv.1=k).map (·.2)
abbrev putK (kvs:List<|κ×V)(k:κ)(v:V):List (κ×V):=
 if (kvs.any λkv=>decide<|kv.1=k)=true then kvs.map (λkv=>if kv.1=k then(kv.1,v)else kv)else kvs++[(k,v)]
def uW{p:κ×V}{r:List<|κ×V}{k:κ}(e:p.1=k):qv (p::r) k=some p.2:=by simp[qv,b9,e]
def uC{p:κ×V}{r:List<|κ×V}{k:κ}(e:¬p.1=k):qv (p::r) k=qv r k:=by simp[qv,b9,e]
theorem wX(k:κ):∀kvs:List<|κ×V,(kvs.any λkv=>decide<|kv.1=k)=(qv kvs k).isSome
 | []=>rfl
 | p::r=>by
  rw[fX];by_cases e:p.1=k
  ·dsimp[uW e,bg e,Bool.true_or,iX]
  ·rw[uC e,bB e,fY];exact wX k r
def pJ(kvs:List<|κ×V)(k:κ)(v:V):(putK kvs k v).length<=kvs.length+1:=by
 unfold putK;split
 ·rw[aG];lia
 ·rw[aW,bG,dB];lia
def yf.sC{o:Option V}{u:bd}(r:yf o u):o.isSome=u.isSome:=by
 cases o with
 | none=>cases u with
  | none=>rfl
  | some _=>exact(show False from r).elim
 | some _=>cases u with
  | none=>exact(show False from r).elim
  | some _=>rfl
def yf.getD{o:Option V}{u:bd}{d:V}(r:yf o u)(rd:RelV d d'):RelV (o.getD d) (u.getD d'):=by
 cases o with
 | none=>cases u with
  | none=>exact rd
  | some _=>exact(show False from r).elim
 | some _=>cases u with
  | none=>exact(show False from r).elim
  | some _=>exact r
def KV.val(r:KV kvs vs)(k:κ):yf (qv kvs k) (valueAt vs k):=by
 unfold KV at r
 induction r with
 | nil=>exact True.intro
 | @cons p q ps d h t g=>
  obtain⟨h1,h2⟩:=h;by_cases e:p.1=k
  ·have f:q.1=k:=h1.symm.trans e;have b:valueAt (q::d) k=some q.2:=by simp[valueAt,b9,f]
   rw[uW e,b];exact h2
  ·have f:¬q.1=k:=λz=>e<|h1.trans z;have b:valueAt (q::d) k=valueAt d k:=by simp[valueAt,b9,f]
   rw[uC e,b];exact g
def KV.any{kvs:List<|κ×V}{vs:List<|κ×af}(r:KV kvs vs)(k:κ):(kvs.any λkv=>decide<|kv.1=k)=vs.any λkv=>decide (kv.1=k):=by
 unfold KV at r
 induction r with
 | nil=>rfl
 | cons h t d=>rw[fX,fX,d,h.1]
def KV.repl{kvs:List<|κ×V}{vs:List<|κ×af}(r:KV kvs vs)(k:κ)(ry:RelV y u) :
  KV (kvs.map λkv=>if kv.1=k then(kv.1,y)else kv) (vs.map λkv=>if kv.1=k then(kv.1,u)else kv):=by
 unfold KV at r ⊢
 induction r with
 | nil=>exact .nil
 | @cons p q ps f h t d=>
  rw[bI,bI];refine .cons ?_ d;obtain⟨h1,h2⟩:=h;by_cases e:p.1=k
  ·rw[aN e,aN<|h1.symm.trans e];exact⟨h1,ry⟩
  ·rw[aM e,aM λz=>e<|h1.trans z];exact⟨h1,h2⟩
def KV.put(r:KV kvs vs)(k:κ)(ry:RelV y u):KV (putK kvs k y) (stored vs k u):=by
 unfold putK stored;rw[r.any k];by_cases e:(vs.any λkv=>decide<|kv.1=k)=true
 ·rw[aN e,aN e];exact r.repl k ry
 ·rw[aM e,aM e];exact Paired.snoc r ⟨rfl,ry⟩
def KV.length{kvs:List<|κ×V}{vs:List<|κ×af}(r:KV kvs vs):kvs.length=vs.length:=iJ r
end
def Ag{P:aj}{w:ah}{k:Key}(r:RelV (kV k) u):(kJ P w).is k u=true:=by
 cases k with
 | inl i=>obtain⟨t,e⟩:=(show ∃t,u=Value.int i t from r);subst e;exact D8 P w i t
 | inr x=>obtain⟨t,e⟩:=(show ∃t,u=Value.str x t from r);subst e;exact EG P w x t
theorem B4{P:aj}{w:ah}:∀{ks:List Key}{us:ba},Vals (ks.map kV) us->ItemsAre (kJ P w) ks us
 | [],_,r=>by rw[fK]at r;cases r;exact .nil
 | k::ks,_,r=>by
  rw[bI]at r
  cases r with
  | cons h t=>exact .cons (Ag h)<|B4 t
meta abbrev KT (H:Hp):List (List Key×V)->List (List Key×ak×af)->Prop:=Paired λp q=>p.1=q.1/\H q.2.1=some (.tup<|p.1.map kV)/\RelV p.2 q.2.2
def KT.val{H:Hp}(r:KT H kvs xs)(k:List Key):yf (qv kvs k) ((atKey xs k).map (·.2)):=by
 induction r with
 | nil=>exact True.intro
 | @cons p q ps d h t g=>
  obtain⟨h1,_,h2⟩:=h;by_cases e:p.1=k
  ·have f:q.1=k:=h1.symm.trans e;have b:atKey (q::d) k=some q.2:=by simp[atKey,b9,f]
   rw[uW e,b];exact h2
  ·have f:¬q.1=k:=λz=>e<|h1.trans z;have b:atKey (q::d) k=atKey d k:=by simp[atKey,b9,f]
   rw[uC e,b];exact g
def KT.repl{H:Hp}{kvs:List<|List Key×V}{xs:List<|List Key×ak×af}(r:KT H kvs xs)(k:List Key)(ry:RelV y u) :
  KT H (kvs.map λkv=>if kv.1=k then(kv.1,y)else kv) (xs.map<|putAt k u):=by
 induction r with
 | nil=>exact .nil
 | @cons p q ps f h t d=>
  rw[bI,bI];refine .cons ?_ d;obtain⟨h1,h2,h3⟩:=h;unfold putAt;by_cases e:p.1=k
  ·rw[aN e,aN<|h1.symm.trans e];exact⟨h1,h2,ry⟩
  ·rw[aM e,aM λz=>e<|h1.trans z];exact⟨h1,h2,h3⟩
def KT.put{H:Hp}(r:KT H kvs xs)(k:List Key)(hb:H b=some (.tup<|k.map kV))(ry:RelV y u) :
  KT H (putK kvs k y) (storedH xs k b u):=by
 have e:(kvs.any λkv=>decide<|kv.1=k)=(atKey xs k).isSome:=by
  rw[wX,(r.val k).sC,d7]
 unfold putK storedH;rw[e];by_cases q:(atKey xs k).isSome=true
 ·rw[aN q,aN q];exact r.repl k ry
 ·rw[aM q,aM q];exact Paired.snoc r ⟨rfl,hb,ry⟩
def KT.keeps{H H':Hp}(r:KT H kvs xs)(ht:∀b ys,H b=some (.tup ys)->H' b=some (.tup ys)):KT H' kvs xs:=
 Paired.WO r λ_ _ z=>⟨z.1,ht _ _ z.2.1,z.2.2⟩
section
variable {P:aj}{w:ah}{H:Hp}{h:aq}{a:ak}
def U8(ok:wK P w H h)(e:Rd H a u):kO P w H h a u:=e.ok ok
def BW{kvs:List<|Key×V}(ok:wK P w H h)(e:Rd H a<|.dK kvs):kvs.length<=sizeLine/\(a == sysModules)=false/\∃vs,KV kvs vs/\h.DictOf (kJ P w) a vs:=
 show kO P w H h a (.dK kvs)from U8 ok e
def Mf{kvs:List<|Key×V}(ok:wK P w H h)(e:H a=some (.dK kvs)):kvs.length<=sizeLine/\(a == sysModules)=false/\∃vs,KV kvs vs/\h.DictOf (kJ P w) a vs:=BW ok<|.inl e
def tF{ks:List Key}(ok:wK P w H h)(e:H a=some (.tup<|ks.map kV)):(tupleKind<|kJ P w).is h ks a:=by
 obtain⟨_,d,r,o,h1,h2,_,n,h3⟩:=(show kO P w H h a (.tup<|ks.map kV)from ok a _ e);exact⟨o,d.toArray,n,h1,h2,h3,by simpa using B4 r⟩
def zl{kvs:List<|List Key×V}(ok:wK P w H h)(e:Rd H a<|.dT kvs):kvs.length<=sizeLine/\(a == sysModules)=false /\
  ∃xs,KT H kvs xs/\h.DictOfH (tupleKind<|kJ P w) a xs:=by
 obtain⟨z,y,xs,r,o,es,ep,h1,h2,h3,j,f⟩:=(show kO P w H h a (.dT kvs)from U8 ok e);refine⟨z,y,xs,r,o,es,ep,h1,h2,h3,j,λx d=>?_,f⟩;have all:∀{l:List<|List Key×V} {m:List<|List Key×ak×af},KT H l m->∀x∈m,(tupleKind<|kJ P w).is h x.1 x.2.1:=by
  intro l m q
  induction q with
  | nil=>intro x d;exact nomatch d
  | @cons p q ps k hq t g=>
   intro x d
   rcases bF.mp d with e|d
   ·subst e;exact tF ok (by rw[<- hq.1];exact hq.2.1)
   ·exact g x d
 exact all r x d
def Bt{kvs:List<|List Key×V}(ok:wK P w H h)(e:H a=some (.dT kvs)):kvs.length<=sizeLine/\(a == sysModules)=false /\
  ∃xs,KT H kvs xs/\h.DictOfH (tupleKind<|kJ P w) a xs:=zl ok<|.inl e
end
abbrev t_ (H:Hp)(a:ak)(y:V)(r:Option V):Prop:=
 (∃kvs k,Rd H a (.dK kvs)/\y=kV k/\r=qv kvs k)\/∃kvs k b,Rd H a (.dT kvs)/\y=.ref b/\H b=some (.tup<|k.map kV)/\r=qv kvs k
abbrev yI (H:Hp)(a:ak)(y v:V)(H':Hp):Prop:=
 (∃kvs k,H a=some (.dK kvs)/\y=kV k/\kvs.length<sizeLine/\H'=upd H a (.dK<|putK kvs k v)) \/
 ∃kvs k b,H a=some (.dT kvs)/\y=.ref b/\H b=some (.tup<|k.map kV)/\kvs.length<sizeLine/\H'=upd H a (.dT<|putK kvs k v)
theorem t_.k{H:Hp}{a:ak}{k:Key}(e:H a=some (.dK kvs)):t_ H a (kV k) (qv kvs k):=.inl ⟨kvs,k,.inl e,rfl,rfl⟩
def t_.t{H:Hp}{a:ak}{k:List Key}(e:H a=some (.dT kvs))(eb:H b=some (.tup<|k.map kV)):t_ H a (.ref b) (qv kvs k):=.inr ⟨kvs,k,b,.inl e,rfl,eb,rfl⟩
theorem yI.k{H:Hp}{a:ak}{kvs:List<|Key×V}{k:Key}{v:V}(e:H a=some (.dK kvs))(hl:kvs.length<sizeLine):yI H a (kV k) v (upd H a<|.dK<|putK kvs k v):=.inl ⟨kvs,k,e,rfl,hl,rfl⟩
def yI.t{H:Hp}{a:ak}{kvs:List<|List Key×V}{k:List Key}{v:V}(e:H a=some (.dT kvs))(eb:H b=some (.tup<|k.map kV))(hl:kvs.length<sizeLine) :
  yI H a (.ref b) v (upd H a<|.dT<|putK kvs k v):=.inr ⟨kvs,k,b,e,rfl,eb,hl,rfl⟩
section
variable {X:Cx}{pins:bn}{σ:St}{H:Hp}{s:aC}{a:ak}{y v:V}{u r:af}{o:Option V}{A:aA}{E:af->aC->Prop}
def Inv.big(I:Inv X pins σ H s):sysModules<s.heap.objs.size:=by
 have h:mainGlobals<s.heap.objs.size:=(I.mod.glob.keeps I.bk).lt;exact jt ⋯ h
def LM{Q:af->aC->Prop}(hu:A.units+1<cLine)(I:Inv X pins σ H s)(g:t_ H a y<|some v)(ry:RelV y u)(h:∀w' s',Inv X pins σ H s'->RelV v w'->Q w' s') :
  wpAny (model X.prog X.w) A (getItem (.ref a) u) Q E s:=by
 rcases g with⟨kvs,k,e,j,l⟩|⟨kvs,k,b,e,j,C,l⟩
 ·subst j;obtain⟨z,G,B,f,t⟩:=BW I.hok e;obtain⟨w',hw,d⟩:=yf.some_of (v:=v) (o:=valueAt B k) (by rw[l];exact f.val k);exact wpAny_getItem_of (Ag ry) t.mapOf hw (h w' _ (I.tok _) d)
 ·subst j
  cases(show u=Value.ref b from ry)
  obtain⟨z,G,xs,f,t⟩:=zl I.hok e;obtain⟨w',hw,d⟩:=yf.some_of (v:=v) (o:=(atKey xs k).map (·.2)) (by rw[l];exact f.val k);obtain⟨p,F,q⟩:=aY.mp hw;refine wpAny_getItem_heap (eN hu) (tF I.hok C) t F ?_;rw[q];exact h w' _ (I.tok _) d
def abv{Q:af->aC->Prop}(hu:A.units+1<cLine)(I:Inv X pins σ H s)(g:t_ H a y o)(ry:RelV y u)(h:∀s',Inv X pins σ H s'->Q (.bool o.isSome) s') :
  wpAny (model X.prog X.w) A (compareOp .In u<|.ref a) Q E s:=by
 rcases g with⟨kvs,k,e,f,l⟩|⟨kvs,k,b,e,f,t,l⟩
 ·subst f;obtain⟨z,j,B,d,p⟩:=BW I.hok e;refine wpAny_in_of (Ag ry) j p.mapOf ?_;rw[<- (d.val k).sC,<- l];exact h _ (I.tok _)
 ·subst f
  cases(show u=Value.ref b from ry)
  obtain⟨z,j,xs,d,p⟩:=zl I.hok e;refine wpAny_in_heap (eN hu) (tF I.hok t) j p ?_;have q:=(d.val k).sC;rw[d7]at q;rw[<- q,<- l];exact h _<|I.tok _
def Rq{Q:af->aC->Prop}(hu:A.units+1<cLine)(I:Inv X pins σ H s)(g:t_ H a y o)(ry:RelV y u)(h:∀s',Inv X pins σ H s'->Q (.bool<|!o.isSome) s') :
  wpAny (model X.prog X.w) A (compareOp .NotIn u<|.ref a) Q E s:=by
 rcases g with⟨kvs,k,e,f,l⟩|⟨kvs,k,b,e,f,t,l⟩
 ·subst f;obtain⟨z,j,B,d,p⟩:=BW I.hok e;refine wpAny_notIn_of (Ag ry) j p.mapOf ?_;rw[<- (d.val k).sC,<- l];exact h _ (I.tok _)
 ·subst f
  cases(show u=Value.ref b from ry)
  obtain⟨z,j,xs,d,p⟩:=zl I.hok e;refine wpAny_notIn_heap (eN hu) (tF I.hok t) j p ?_;have q:=(d.val k).sC;rw[d7]at q;rw[<- q,<- l];exact h _<|I.tok _
def tU{h':aq}{t':Nat}{ob:HO}(I:Inv X pins σ H s)(mu:Mut<|H a)(hs:Heap.SameBut a s.heap h')(he:∃q,h'.get? a=some q)(new:kO X.prog X.w (upd H a ob) h' a ob) :
  Inv X pins σ (upd H a ob) { s with heap:=h',toks:=t' }:=
 I.write (x:=a) (e:=a) mu (.inl rfl) (λb q hb z=>(hs.2 b hb).trans z) he new
def Gb{P:aj}{w:ah}{H':Hp}{h':aq}{kvs:List<|Key×V}(z:kvs.length<=sizeLine)(hd:(a == sysModules)=false)(rel:KV kvs vs)(dd:h'.DictOf (kJ P w) a vs) :
  kO P w H' h' a (.dK kvs):=⟨z,hd,vs,rel,dd⟩
def KW{H':Hp}{Q:Unit->aC->Prop}(hu:A.units+1<cLine)(I:Inv X pins σ H s)(g:yI H a y v H')(ry:RelV y u)(rv:RelV v r)(h:∀s',Inv X pins σ H' s'->Q Unit.unit s') :
  wpAny (model X.prog X.w) A (setItem (.ref a) u r) Q E s:=by
 rcases g with⟨kvs,k,e,j,l,t⟩|⟨kvs,k,b,e,j,J,l,t⟩
 ·subst j t;obtain⟨z,C,L,d,F⟩:=Mf I.hok e;have B:L.length<=sizeLine:=by rw[<- d.length];exact z
  have p:(putK kvs k v).length<=sizeLine:=by have:=pJ kvs k v;lia
  refine wpAny_setItem_pairs (hsz:=B) (Ag ry) F λh' f hs=>h _ ?_;have N:∃q,h'.get? a=some q:=let⟨q,_,_,hq,_⟩:=f;⟨q,hq⟩
  exact tU I (by rw[e];exact True.intro) hs N<|Gb p C (d.put k rv) f
 ·subst j t
  cases(show u=Value.ref b from ry)
  obtain⟨z,C,xs,d,F⟩:=Bt I.hok e;have B:xs.length<=sizeLine:=by rw[<- iJ d];exact z
  have p:(putK kvs k v).length<=sizeLine:=by have:=pJ kvs k v;lia
  refine wpAny_setItem_heap (hsz:=B) (eN hu) (tF I.hok J) F λh' f hs=>h _ ?_;obtain⟨q,es,ep,hq,h2,h3,M,_,K⟩:=f;refine tU I (by rw[e];exact True.intro) hs ⟨q,hq⟩ ⟨p,C,_,(d.put k J rv).keeps λc ys G=>?_,q,es,ep,hq,h2,h3,M,K⟩;rw[jP<|J7 G e λz=>nomatch z];exact G
end
def Fc{X:Cx}{H:Hp}{s:aC}{a:ak}(I:Inv X pins σ H s)(g:t_ H a y o):s.TypeIs (.ref a) "dict" := by
 rcases g with⟨kvs,k,e,_,_⟩|⟨kvs,k,b,e,_,_,_⟩
 ·obtain⟨_,_,f,_,d⟩:=BW I.hok e;exact d.typeIs
 ·obtain⟨_,_,xs,_,d⟩:=zl I.hok e;exact d.typeIs
def Pa{P:aj}{w:ah}{H:Hp}(h:aq)(hb:sysModules<h.objs.size):kO P w H (h.push { cls:=.type "dict",data:=.dict #[]}) h.objs.size (.dK []):=
 ⟨bK _,cZ.mpr<|cR<|bE hb,[],.nil,Heap.DictOf.new h⟩
def zH{P:aj}{w:ah}{H:Hp}(h:aq)(hb:sysModules<h.objs.size):kO P w H (h.push { cls:=.type "dict",data:=.dict #[]}) h.objs.size (.dT []):=
 ⟨bK _,cZ.mpr<|cR<|bE hb,[],.nil,_,#[],0,bA _ rfl,⟨rfl,rfl,rfl⟩,rfl,rfl,dz⟩
abbrev WV:TE:=λ_ H Q=>∀p,H p=none->Q (.ref p) (upd H p<|.dK [])
abbrev XC:TE:=λ_ H Q=>∀p,H p=none->Q (.ref p) (upd H p<|.dT [])
section
variable {X:Cx}{pos:Pos}
def N4:PE X (.Dict [] [] pos) WV:=λpins s σ H Q I h=>
 wpAny_Dict_empty ⟨.ref s.heap.objs.size,_,I.laid (a:=s.heap.objs.size) (o:=.dK []) (t':=s.toks) (λ_ _ q=>aV _ q) (aK _)<|Pa s.heap I.big,rfl,h _<|I.hok.fresh<|aK _⟩
def Nq:PE X (.Dict [] [] pos) XC:=λpins s σ H Q I h=>
 wpAny_Dict_empty ⟨.ref s.heap.objs.size,_,I.laid (a:=s.heap.objs.size) (o:=.dT []) (t':=s.toks) (λ_ _ q=>aV _ q) (aK _)<|zH s.heap I.big,rfl,h _<|I.hok.fresh<|aK _⟩
end
structure M1 (X:Cx)(o:aE)(m:Str)(apos:Pos)(e:aE)(cpos:Pos):Prop where
 base:attributeBase o m X.env (eval o X.env)=eval o X.env
 few:((backTo cpos<|starEach [e] X.env).all (λx=>!x.1) && (backToKw cpos<|keywordEach [] X.env).all (λx=>x.1.isSome)
  && decide (([e]:List aE).length+([]:List Keyword).length+(if ([]:List Keyword).isEmpty then 0 else 1)<30))=true
 line:(apos.endLine == cpos.line)=true
 trees:backTo cpos (starEach [e] X.env)=[(false,eval e X.env)]
structure M2 (X:Cx)(o:aE)(m:Str)(apos:Pos)(e f:aE)(cpos:Pos):Prop where
 base:attributeBase o m X.env (eval o X.env)=eval o X.env
 few:((backTo cpos<|starEach [e,f] X.env).all (λx=>!x.1) && (backToKw cpos<|keywordEach [] X.env).all (λx=>x.1.isSome)
  && decide (([e,f]:List aE).length+([]:List Keyword).length+(if ([]:List Keyword).isEmpty then 0 else 1)<30))=true
 line:(apos.endLine == cpos.line)=true
 trees:backTo cpos (starEach [e,f] X.env)=[(false,eval e X.env),(false,eval f X.env)]
section
variable {X:Cx}{pins:bn}{σ:St}{H:Hp}{s:aC}{a:ak}{y d:V}{u r:af}{o:Option V}{A:aA}{E:af->aC->Prop}
def VE{Q:af->aC->Prop}(hu:A.units+1<cLine)(I:Inv X pins σ H s)(g:t_ H a y o)(ry:RelV y u)(rd:RelV d r)(h:∀w' s',Inv X pins σ H s'->RelV (o.getD d) w'->Q w' s') :
  wpAny (model X.prog X.w) A (call (.builtin "dict.get") [.ref a,u,r]) Q E s:=by
 rcases g with⟨kvs,k,e,p,l⟩|⟨kvs,k,b,e,p,t,l⟩
 ·subst p;obtain⟨z,q,B,f,j⟩:=BW I.hok e;refine call_meetsIn dm j.typeIs gU (gP _ _ _) (meets_dict_get_default (kJ X.prog X.w) a (Ag ry) q r) ⟨_,j.mapOf,h _ _ (I.tok _) ?_⟩;rw[l];exact(f.val k).getD rd
 ·subst p
  cases(show u=Value.ref b from ry)
  obtain⟨z,q,xs,f,j⟩:=zl I.hok e;refine call_meetsIn dm j.typeIs gU (gP _ _ _) (meetsH_dict_get_default (tupleKind<|kJ X.prog X.w) a b q r) ⟨eN hu,k,xs,tF I.hok t,j,h _ _ (I.tok _) ?_⟩;rw[l];exact(f.val k).getD rd
end
meta abbrev mT:=ag×ag
abbrev sJ (x:ag):Int:=reduceHash<|Builtin.Tuple.tupleHashOf<|x.map hashInt
abbrev Ir (k:mT):Int:=reduceHash<|Builtin.Tuple.tupleHashOf [sJ k.1,sJ k.2]
abbrev dpE (x:(mT×ak×af)):DictEntry:=⟨Ir x.1,.ref x.2.1,x.2.2⟩
abbrev wI (a:ak)(xs:List<|mT×ak×af)(h:aq):Prop:=(a == sysModules)=false/\xs.length<=sizeLine/\∃o es ep,h.get? a=some o/\o.ExactDict/\o.data=.dict es ep/\es.toList=xs.map dpE/\(xs.map (·.1)).Nodup
abbrev sq (H:Hp)(b:ak)(k:mT):Prop:=∃r1 r2,H b=some (.tup [.ref r1,.ref r2])/\H r1=some (.tup<|k.1.map V.int)/\H r2=some (.tup<|k.2.map V.int)
section
variable {P:aj}{w:ah}{A:aA}{E:af->aC->Prop}{s:aC}
meta abbrev TK (h:aq)(x:ag)(a:ak):Prop:=∃o d n,h.get? a=some o/\o.cls=.type "tuple" /\ o.data=.seq d n/\IntsAre d.toList x
theorem zZ{P:aj}{w:ah}:∀{x:ag}{vs:ba},IntsAre vs x->ItemsAre (intKind P w) x vs
 | _,_,.nil=>.nil
 | _,_,.cons n t h=>.cons (intKind_is _ _ _ _)<|zZ h
def wk{x:ag}{a:ak}:TK h x a->IsTupleKey (intKind P w) h x a:=λ⟨o,d,n,h1,h2,h3,f⟩=>⟨o,d,n,h1,h2,h3,zZ f⟩
theorem EB:∀{x y:ag}{vs:ba},IntsAre vs x->IntsAre vs y->x=y
 | _,_,_,.nil,.nil=>rfl
 | _,_,_,.cons n t h,.cons _ _ h'=>by rw[EB h h']
abbrev vF (h:aq)(k:mT)(a:ak):Prop:=∃o n f d,h.get? a=some o/\o.cls=.type "tuple" /\ o.data=.seq #[.ref f,.ref d] n/\TK h k.1 f/\TK h k.2 d
def vF.ty{k:mT}{a:ak}(x:vF s.heap k a):s.TypeIs (.ref a) "tuple" := let⟨o,_,_,_,ho,hc,_⟩:=x;⟨o,ho,hc⟩
def TK.inj{a:ak}{x:ag}(hx:TK h x a)(hy:TK h y a):x=y:=by
 obtain⟨o,k,n,q,_,p,t⟩:=hx;obtain⟨o',f,z,j,_,d,g⟩:=hy;obtain rfl:o=o':=bf<|q.symm.trans j;rw[p]at d
 injection d with h1 _
 subst h1;exact EB t g
def vF.inj{a:ak}{x:mT}(hx:vF h x a)(hy:vF h y a):x=y:=by
 obtain⟨o,n,C,z,k,_,p,h1,h2⟩:=hx;obtain⟨o',q,B,t,g,_,d,j,f⟩:=hy;obtain rfl:o=o':=bf<|k.symm.trans g;rw[p]at d
 injection d with e _
 have e:=c7 Array.toList e
 injection e with e1 e2
 injection e2 with e2 _
 injection e1 with e1
 injection e2 with e2
 subst e1 e2;exact Prod.ext (h1.inj j)<|h2.inj f
def Fl{h:aq}{x:ag}{a d:ak}{o:Obj}{es ep}(k:TK h x a)(ho:h.get? d=some o)(hd:o.data=.dict es ep)(hs:Heap.SameBut d h h'):TK h' x a:=by
 obtain⟨o',g,n,j,hc,f,q⟩:=k;have p:a≠d:=by
  rintro rfl;obtain rfl:o'=o:=bf<|j.symm.trans ho;rw[hd]at f;exact nomatch f
 exact⟨o',g,n,(hs.2 a p).trans j,hc,f,q⟩
def vF.keeps{h:aq}{k:mT}{a d:ak}{o:Obj}{es ep}(x:vF h k a)(ho:h.get? d=some o)(hd:o.data=.dict es ep)(hs:Heap.SameBut d h h'):vF h' k a:=by
 obtain⟨o',n,q,p,g,hc,f,h1,h2⟩:=x;have j:a≠d:=by
  rintro rfl;obtain rfl:o'=o:=bf<|g.symm.trans ho;rw[hd]at f;exact nomatch f
 exact⟨o',n,q,p,(hs.2 a j).trans g,hc,f,Fl h1 ho hd hs,Fl h2 ho hd hs⟩
def LF{k:mT}{a:ak}{Q:Int->aC->Prop}(hu:A.units+8<cLine)(hk:vF s.heap k a)(h:Q (Ir k) { s with toks:=s.toks+(k.1.length+1+(k.2.length+1)+1)}) :
  wpAny (model P w) A (pyHash<|.ref a) Q E s:=by
 have f:=hk.ty;obtain⟨o,n,q,g,j,_,p,h1,h2⟩:=hk;unfold pyHash
 first|unfold pyHashByItsType|skip
 first|refine aH (wpAny_cRoomFor_or (.inr<|by omega) ?_)|skip
 refine aH<|gI f gW.lookup ?_;show wpAny _ _ (if (some (Value.builtin "tuple.__hash__") == some Value.none)=true then _ else _) Q E s;rw[aM<|by rw[beq_builtin_none];exact bN];refine aH<|gI f gW.lookup ?_;show wpAny _ _ (callSpecialIfBoundUnlessNone? (.ref a) "__hash__" _ >>= _) Q E s;refine aH<|wpAny_callSpecialIfBoundUnlessNone?_slot f gW<|c9 gW f F.entry_tuple_hash ?_<|F.args_tuple_hash_1 _;show wpAny _ _ (Builtin.Tuple.tupleItemsOf (.ref a) >>= _) _ _ s;refine aH<|i9 j p ?_;refine aH ?_;rw[<- i_];refine iE _
  (λrest (b:Array Int) s'=>(rest=[.ref q,.ref g]/\b.toList=[]/\s'=s)\/(rest=[.ref g]/\b.toList=[sJ k.1]/\s'={ s with toks:=s.toks+(k.1.length+1)})\/(rest=[]/\b.toList=[sJ k.1,sJ k.2]/\s'={ s with toks:=s.toks+(k.1.length+1)+(k.2.length+1)}))
  _ ?_ ?_ _ _ (.inl ⟨rfl,rfl,rfl⟩)
 ·rintro x rest b s' (⟨e,hb,rfl⟩|⟨e,hb,rfl⟩|⟨e,_,_⟩)
  ·cases e
   refine aH (wpAny_pyHash_tuple (knd:=intKind P w) (ks:=k.1) (by simp;omega) (wk h1) ?_)
   first
    | exact aR (.inr<|.inl ⟨rfl,by rw[f9,hb];rfl,rfl⟩)
    | exact aH<|aR<|aR<|.inr<|.inl ⟨rfl,by rw[f9,hb];rfl,rfl⟩
  ·cases e
   refine aH (wpAny_pyHash_tuple (knd:=intKind P w) (ks:=k.2) (by simp;omega) (wk h2) ?_)
   first
    | exact aR (.inr<|.inr ⟨rfl,by rw[f9,hb];rfl,rfl⟩)
    | exact aH<|aR<|aR<|.inr<|.inr ⟨rfl,by rw[f9,hb];rfl,rfl⟩
  ·cases e
 ·rintro b s' (⟨e,_,_⟩|⟨e,_,_⟩|⟨_,hb,rfl⟩)
  ·cases e
  ·cases e
  ·show wpAny _ _ (retInt<|Builtin.Tuple.tupleHashOf b.toList) _ _ _;rw[hb];refine wpAny_ret_mkInt ?_;show wpAny _ _ (if (decide (-(2:Int) ^ 63<=Builtin.Tuple.tupleHashOf [sJ k.1,sJ k.2]) && decide (Builtin.Tuple.tupleHashOf [sJ k.1,sJ k.2]<2 ^ 63))=true then _ else _) Q E _;unfold Ir reduceHash at h;by_cases d:(decide (-(2:Int) ^ 63<=Builtin.Tuple.tupleHashOf [sJ k.1,sJ k.2]) && decide (Builtin.Tuple.tupleHashOf [sJ k.1,sJ k.2]<2 ^ 63))=true
   ·rw[aN d];rw[aN d]at h;exact aR (by simpa[gD]using h)
   ·rw[aM d];rw[aM d]at h;exact aH<|d8<|aR<|by simpa[gD]using h
def DR{x:mT}{a:ak}{R:Fin->aC->Prop}(hu:A.units+8<cLine)(hx:vF s.heap x a)(hy:vF s.heap y b)(h:R (.done<|.ret<|.bool<|decide<|x=y) s) :
  wpAny (model P w) A (Builtin.«tuple.__eq__» ⟨[.ref a,.ref b],[]⟩) R E s:=by
 have g:=hy.ty;obtain⟨K,na,J,F,q,_,k,h1,h2⟩:=hx;obtain⟨ob,nb,G,C,p,_,B,t,f⟩:=hy;show wpAny _ _ (isInstance (.ref b) (.type "tuple") >>= _) _ _ s;refine aH<|iF g iy ?_;dsimp[bW,bD,cF];refine aH<|i9 q k ?_;refine aH<|i9 p B ?_;refine aH ?_;refine iE _
  (λrest r s'=>r.1=none/\s'=s/\((rest=[(.ref J,.ref G),(.ref F,.ref C)])\/(rest=[(.ref F,.ref C)]/\x.1=y.1)\/(rest=[]/\x=y)))
  _ ?_ ?_ _ _ ⟨rfl,rfl,.inl rfl⟩
 ·rintro⟨u,v⟩ rest r s' ⟨j,rfl,e|⟨e,hq⟩|⟨e,_⟩⟩
  ·cases e
   refine aH<|wpAny_eqBool_tuple (knd:=intKind P w) (x:=x.1) (y:=y.1) () (wk h1) (wk t) ?_;by_cases d:x.1=y.1
   ·rw[bg d];dsimp[bW,bD,cF];exact aR ⟨rfl,rfl,.inr<|.inl ⟨trivial,d⟩⟩
   ·rw[bB d];dsimp[cV,dJ];rw[bB λz=>d<|by rw[z]]at h;exact aH<|aR<|aR<|aR h
  ·cases e
   refine aH<|wpAny_eqBool_tuple (knd:=intKind P w) (x:=x.2) (y:=y.2) () (wk h2) (wk f) ?_;by_cases d:x.2=y.2
   ·rw[bg d];dsimp[bW,bD,cF];exact aR ⟨rfl,rfl,.inr<|.inr ⟨trivial,Prod.ext hq d⟩⟩
   ·rw[bB d];dsimp[cV,dJ];rw[bB λz=>d<|by rw[z]]at h;exact aH<|aR<|aR<|aR h
  ·cases e
 ·rintro⟨r1,r2⟩ s' ⟨j,rfl,e|⟨e,_⟩|⟨_,e⟩⟩
  ·cases e
  ·cases e
  ·simp only at j;subst j;refine aR ?_;rw[bg e]at h;exact h
def RJ{x:mT}{a:ak}{Q:Bool->aC->Prop}(hu:A.units+16<cLine)(hx:vF s.heap x a)(hy:vF s.heap y b)(h:Q (decide<|x=y) s):wpAny (model P w) A (eqBool (.ref a)<|.ref b) Q E s:=by
 unfold eqBool
 try with_reducible refine c8 ?_
 show wpAny _ _ (if (Value.ref a == Value.ref b)=true then _ else _) Q E s;by_cases d:(Value.ref a == Value.ref b)=true
 ·rw[aN d];have e:a=b:=by have:=eq_of_beq d;injection this
  subst e;obtain rfl:=hx.inj hy;exact aH<|d8<|aR<|by simpa using h
 ·rw[aM d];exact aH (wpAny_richCompare_same_room (op:=.Eq) hx.ty hy.ty iO
   (c9 iO hx.ty F.entry_tuple_eq (DR (by simp;lia) hx hy ⟨_,rfl,(λe=>nomatch e),dh h⟩)<|F.args_tuple_eq_2 _ _) ())
def NO{n:Nat}{x:ag}{a:ak}{Q:Bool->aC->Prop}(hk:TK s.heap x a)(h:Q true s):wpAny (model P w) A (eqIsQuiet (n+1)<|.ref a) Q E s:=by
 have hk:=wk (P:=P) (w:=w) hk;have k:=hk.typeIs;obtain⟨o,f,m,p,_,t,q⟩:=hk;unfold eqIsQuiet;refine aH<|gI k iO.lookup ?_;show wpAny _ _ (isInstance (.ref a) (.type "tuple") >>= _) _ _ s;refine aH<|iF k iy ?_;dsimp[bW,bD,cF];refine aH<|gT p t ?_;refine aH ?_;show wpAny _ _ (forIn f _ _) _ _ s;rw[<- i_];refine iE _ (λrest r s'=>r.1=none/\s'=s/\∀v∈rest,carriedByValue v=true) _ ?_ ?_ _ _ ⟨rfl,rfl,q.byValue⟩
 ·rintro v rest r s' ⟨g,rfl,d⟩;rw[eqIsQuiet_byValue _<|d v aO];refine aH<|aR ?_;dsimp[bW,bD,cF];exact aR ⟨rfl,rfl,λu j=>d u<|aQ _ j⟩
 ·rintro⟨r1,r2⟩ s' ⟨g,rfl,_⟩;simp only at g;subst g;exact aR h
def Hj{k:mT}{a:ak}{Q:Bool->aC->Prop}(hk:vF s.heap k a)(h:Q true s):wpAny (model P w) A (eqIsQuiet 8<|.ref a) Q E s:=by
 have p:=hk.ty;obtain⟨o,m,q,j,t,_,B,h1,h2⟩:=hk;unfold eqIsQuiet;refine aH<|gI p iO.lookup ?_;show wpAny _ _ (isInstance (.ref a) (.type "tuple") >>= _) _ _ s;refine aH<|iF p iy ?_;dsimp[bW,bD,cF];refine aH<|gT t B ?_;refine aH ?_;show wpAny _ _ (forIn (#[Value.ref q,.ref j]:Array af) _ _) _ _ s;rw[<- i_];refine iE _ (λrest r s'=>r.1=none/\s'=s/\∀v∈rest,∃c x,v=Value.ref c/\TK s.heap x c) _ ?_ ?_ _ _ ⟨rfl,rfl,λv hv=>by
  rcases bF.mp hv with e|hv
  ·exact⟨q,k.1,e,h1⟩
  ·exact⟨j,k.2,by simpa using hv,h2⟩⟩
 ·rintro v rest r s' ⟨f,rfl,d⟩;obtain⟨c,x,rfl,z⟩:=d v aO;refine aH<|NO z ?_;dsimp[bW,bD,cF];exact aR ⟨rfl,rfl,λu g=>d u<|aQ _ g⟩
 ·rintro⟨r1,r2⟩ s' ⟨f,rfl,_⟩;simp only at f;subst f;exact aR h
end
abbrev Em (P:aj)(w:ah):HeapKind P w mT where
 is:=vF
 hash:=Ir
 draws:=λk=>k.1.length+1+(k.2.length+1)+1
 room:=λA=>A.units+16<cLine
 inj:=λf hy=>f.inj hy
 keeps:=λx p j hs=>x.keeps p j hs
 pyHash:=λg d h=>LF () d h
 eqBool:=λg f hy h=>RJ g f hy h
 quiet:=λd h=>Hj d h
section
variable {X:Cx}
def Cm(hu:X.A.units+1<cLine):Um X (λx y H Q=>∃a v,x=.ref a/\t_ H a y (some v)/\Q v H):=by
 intro d f pins s σ H x y v u Q I rx ry h hs;obtain⟨a,z,rfl,g,q⟩:=h
 cases rx
 have p:=Fc I g;unfold subscriptTail;refine aH ?_;rw[getitemInPython_of_ne p.not_modules];refine aH<|gI p PySem.F.slot_dict_getitem.lookup ?_;have fin:wpAny (model X.prog X.w) X.A (subscripted f false (.ref a) u) (λr j=>wpAny (model X.prog X.w) X.A (letTemporaryGo d (.ref a) r >>= λ_=>pure r) (EP X pins σ Q) X.xe j) X.xe s:=by
  rw[hs];exact wpAny_operating<|LM hu I g ry λB C t k=>aH<|wpAny_letTemporaryGo<|aR ⟨z,H,t,k,q⟩
 first
  | exact aR (aH fin)
  | exact aH (aR<|aH fin)
  | exact aH fin
def VG(hu:X.A.units+1<cLine):n5 X (compareOp .In) (λy x H Q=>∃a o,x=.ref a/\t_ H a y o/\Q (.bl o.isSome) H):=by
 intro pins s σ H y x v u Q I ry rx h;obtain⟨a,o,rfl,g,q⟩:=h
 cases rx
 exact abv hu I g ry λf d=>⟨.bl o.isSome,H,d,rfl,q⟩
def KP(hu:X.A.units+1<cLine):n5 X (compareOp .NotIn) (λy x H Q=>∃a o,x=.ref a/\t_ H a y o/\Q (.bl<|!o.isSome) H):=by
 intro pins s σ H y x v u Q I ry rx h;obtain⟨a,o,rfl,g,q⟩:=h
 cases rx
 exact Rq hu I g ry λf d=>⟨.bl<|!o.isSome,H,d,rfl,q⟩
def set_dict(hu:X.A.units+1<cLine):E3 X (λo i v H Q=>∃a H',o=.ref a/\yI H a i v H'/\Q H'):=by
 intro pins s σ H o i v t iv u Q I d j f h;obtain⟨a,H',rfl,g,q⟩:=h
 cases d
 exact KW hu I g j f λp k=>⟨H',k,q⟩
abbrev Xq (tk tv:TE):TE:=λσ H Q=>∀p,H p=none->tk σ (upd H p<|.dT []) λx H1=>tv σ H1 λy H2=>H2 p=some (.dT [])/\∃b ks,x=.ref b/\H2 b=some (.tup<|ks.map kV)/\Q (.ref p) (upd H2 p<|.dT [(ks,y)])
def NG{k v:aE}{tk tv:TE}(hu:X.A.units+1<cLine)(hk:PE X k tk)(hv:PE X v tv):PE X (.Dict [some k] [v] pos) (Xq tk tv):=by
 intro pins s σ H Q I q;have hn:=I.hok.fresh<|aK s.heap.objs.size;have K:=I.laid (a:=s.heap.objs.size) (o:=.dT []) (h':=s.heap.push { cls:=.type "dict",data:=.dict #[]}) (t':=s.toks) (λ_ _ q=>aV _ q) (aK _)<|zH s.heap I.big;refine wpAny_Dict_any rfl rfl (by simp) (show 1<=15 by decide) ?_;refine pairTrees_cons_walk<|mX (hk pins _ σ _ _ K<|q _ hn) λkv L ⟨x,H1,C,rx,F⟩=>mX (hv pins L σ H1 _ C F) λvv O ⟨y,H2,d,ry,e,b,ks,ex,p,G⟩=>pairTrees_nil_walk ?_;subst ex
 cases rx
 obtain⟨z,M,xs,f,N⟩:=Bt d.hok e
 cases f
 unfold storeAll;rw[jA];refine aH (aH<|wpAny_dictSet_heap (hsz:=by simp) (show X.A.units<cLine by lia) (tF d.hok p) N λh' g hs=>aR ?_);dsimp only;rw[iY];refine aR ⟨.ref s.heap.objs.size,_,?_,rfl,G⟩;obtain⟨t,es,ep,hq,h2,h3,J,_,B⟩:=g;refine tU d (by rw[e];exact True.intro) hs ⟨t,hq⟩ ⟨by show 1<=sizeLine;decide,M,_,(KT.put (kvs:=[]) .nil ks p ry).keeps λc ys j=>?_,t,es,ep,hq,h2,h3,J,B⟩;rw[jP<|J7 j e λz=>nomatch z];exact j
abbrev YR:V->List V->Hp->VK->Prop:=λx d H Q=>∃a b ks kvs y,x=.ref a/\d=[.ref b,y]/\H a=some (.dT kvs)/\H b=some (.tup<|ks.map kV)/\Q ((qv kvs ks).getD y) H
def Uo(hu:X.A.units+1<cLine):ZS X "dict.get" YR:=by
 intro pins s σ H x F v us Q I rx f h;obtain⟨a,b,ks,kvs,y,rfl,rfl,k,t,q⟩:=h
 cases rx
 cases f with
 | @cons _ G _ F4 r1 f=>
  cases f with
  | @cons _ p _ D5 r2 f=>
   cases f
   cases r1
   obtain⟨z,C,xs,g,j⟩:=Bt I.hok k;refine call_meetsIn dm j.typeIs gU (gP _ _ _) (meetsH_dict_get_default (tupleKind<|kJ X.prog X.w) a b C p) ⟨eN hu,ks,xs,tF I.hok t,j,?_⟩;refine⟨(qv kvs ks).getD y,H,I.tok _,?_,q⟩;have d:=g.val ks
   cases e1:qv kvs ks with
   | none=>
    rw[e1]at d
    cases e2:(atKey xs ks).map (·.2)with
    | none=>exact r2
    | some B=>rw[e2]at d;exact d.elim
   | some J=>
    rw[e1]at d
    cases e2:(atKey xs ks).map (·.2)with
    | none=>rw[e2]at d;exact d.elim
    | some B=>rw[e2]at d;exact d
end
section
theorem kt_at{H:Hp}:∀{kvs:List<|List Key×V}{xs:List<|List Key×ak×af},KT H kvs xs->kvs.length=xs.length/\∀(i:Nat) (p:List Key×V),kvs[i]?=some p->∃y:List Key×ak×af,xs[i]?=some y/\p.1=y.1/\H y.2.1=some (.tup<|p.1.map kV)/\RelV p.2 y.2.2
 | [],[],_=>⟨rfl,λi p h=>by simp at h⟩
 | [],_::_,r=>nomatch r
 | _::_,[],r=>nomatch r
 | a::kvs,b::xs,.cons z r=>by
  obtain⟨l,q⟩:=kt_at r;refine⟨by simp[l],λi p h=>?_⟩
  cases i with
  | zero=>
   have:a=p:=by simpa using h
   subst this;exact⟨b,rfl,z⟩
  | succ i=>exact q i p<|by simpa using h
end
abbrev C0 (e:ak)(h:aq):Prop:=∃o d,h.get? e=some o/\o.data=.fields d/\d[2]?=some .none/\o.dict=none
structure Fly (l:List Env)(g:aq)(pn:bn)(H:Hp)(e:ak)(cls:af)(h:aq):Prop where
 ex:∃(B:aq) (a0:af),Heap.FlyingW B l e cls a0 h/\(∀a u,H a=some u->∃o,B.get? a=some o)/\(∀b o,g.get? b=some o->b∉frs l->∃o',B.get? b=some o')/\(∀p∈pn,∃o',B.get? p.1=some o')/\C0 e h
structure Made (X:Cx)(H:Hp)(e:ak)(cls:af)(g:aq)(h:aq):Prop where
 ex:∃(g':aq) (vs:ba),Heap.MadeExcOf g' h e cls vs/\g'.FunFrames X.base X.stack/\(∀a u,H a=some u->∃o,g'.get? a=some o)/\(∀b o,g.get? b=some o->∃o',g'.get? b=some o')/\(∀p∈X.pn,∃o',g'.get? p.1=some o')
abbrev VP (X:Cx)(H:Hp)(e:ak)(cls:af)(s':aC):Prop:=Made X H e cls X.s₀.heap s'.heap\/Fly X.stack X.s₀.heap X.pn H e cls s'.heap
section
abbrev EX (X:Cx):XK:=λcls _ H'=>X.ex=[]/\∀pins d s' e,Inv X pins d H' s'->VP X H' e cls s'->X.xe (.ref e) s'
end
inductive FParts (X:Cx):List aE->List (Str ⊕ TE)->Prop
 | nil:FParts X [] []
 | txt {x:Str} {j pos} {es:List aE} {ps:List<|Str ⊕ TE} (h:FParts X es ps):FParts X (.Constant (.str x) j pos::es) (.inl x::ps)
 | val {e:aE} {pos:Pos} {t:TE} {es:List aE} {ps:List<|Str ⊕ TE} (he:PE X e t) (h:FParts X es ps):FParts X (.FormattedValue e (-1) none pos::es) (.inr t::ps)
abbrev xu:HO:=.ext λ_=>True
structure XO (C:ak)(o:Obj):Prop where
 cls:o.cls=.ref C
 dict:o.dict=none
 ctx:∃vs,o.data=.fields vs/\vs[2]?=some .none
structure Fr0 (X:Cx)(e:ak):Prop where
 no:∀o,X.s₀.heap.get? e≠some o
 tup:∀xs,X.H₀ e≠some (.tup xs)
 frz:∀o u,X.H₀ e≠some (.frz o u)
 tbl:∀ps,X.H₀ e≠some (.tbl ps)
abbrev mroIn (K:au)(C:ak):Option (ba):=match K.lookup C with
 | some ⟨.type "type",_,.cls cd,sl⟩=>(match cd.mro,sl.toList with
  | .ref C'::bm,[_,_,_,_,some<|.builtin _,_]=>if C'=C/\cd.hasDel=false then some bm else none
  | _,_=>none)
 | _=>none
structure ClsAt (h:aq)(C:ak)(bm:ba):Prop where
 ex:∃nm q N bs hdct sn sub ab col dd k0 k1 k2 k3 k5 newId,h.get? C=some (excClassObj nm q C N bs bm hdct sn sub ab col dd k0 k1 k2 k3 k5 newId)
open PySem.W in
structure XCls (K:au)(C:ak):Prop where
 ga:findIn K (.ref C) "__getattribute__" = some (some<|.builtin "BaseException.__getattribute__")
 gt:findIn K (.ref C) "__getattr__" = some none
 fc:findObj K C none "__class__" = some (.bind (.builtin "getset_descriptor.__get__")<|.builtin "object.__class__")
 ob:PySem.W.mroIn K C (.type "object")=some true
 bs:subIn K (.ref C) (.type "BaseException")=some true
abbrev W5 (A:aA):aA:={ A with handled:=none }
abbrev aay (k:Nat)(A:aA):Prop:=Room k<|W5 A
structure Hnd (A:aA)(H:Hp)(e:ak)(oe:Obj)(C:ak):Prop where
 hh:A.handled=some (.ref e)
 h0:H e=some (.frz oe xu)
 xo:XO C oe
structure FnOkH (P:aj)(w:ah)(K:au)(mg:Str->bd)(base:aq)(k:Nat)(f:ak)(fd:FuncData)(ps:ar)(sp:Sp):Prop where
 len:∀vs H Q E,sp vs H Q E->vs.length=ps.length
 run:∀(A:aA) (outer:List Env) (s:aC) (H:Hp) (args:Args) (us:ba) (vs:List V) (Q:VK) (e:ak) (oe:Obj) (C:ak),aay k A->Hnd A H e oe C->Env0 P w K mg base A outer s H->BindsTo s fd args (ps.zip us)->Vals vs us->sp vs H Q E0 ->
  codeAny (model P w) A (.call (.ref f) args) (CR qb outer P w H s Q E0) s
def Qm{X:Cx}{i:Nat}{spos:Pos}{iter:aE}{N:ar}{wi:TI}{g:TG}{tc:TT}{te:TE}
  (hN:X.N.Nodup) (hi':X.N[i]?=some y) (hx:Loc X.env.scope y) (hc:X.calm=true) (S:CpScope X scope N cap) (hi:PI X tg iter wi)
  (hg:∀C s₀ H₀ ex,PG (kX X scope N C s₀ H₀ ex) tg g) (ht:∀C s₀ H₀ ex,QY (kX X scope N C s₀ H₀ ex) ifs tc) (he:∀C s₀ H₀ ex,PE (kX X scope N C s₀ H₀ ex) elt te)
  (hsw:swapsWith (.ListComp elt [⟨tg,iter,ifs,0⟩] scope pos) (some<|.Name y py) spos.line X.env=pure true)
  (hf:X.fn y=true\/X.env.scope.names.lookup y=some .local) (hs:∀x,foldedSetIterable iter X.env x=pure x:=by intro _;rfl) :
  PS X (.Assign [.Name y py] (.ListComp elt [⟨tg,iter,ifs,0⟩] scope pos) spos) (Ro (tLC cap wi g tc te)<|ME i):=by
 o_rec;rw[exec_Assign_Name_used _ _ _ _ hsw];refine aH (fW<|aH ?_)
 skip
 refine aH<|gb (Jp (ok:=λY=>Y.calm=true) (Q':=λ_ s'=>SP X pins D .next s') S (λ_ _ _ _ _=>hc) (PI.g hi) hg ht he hs pins s σ H _ I h ?_) (λ_ s' hq=>aR<|aR hq) λ_ _ e=>e;intro B C G M m hn j inv q v;have P:=inv B.heap<|Heap.SameBut.refl _ _;obtain⟨K,f⟩:∃o,B.heap.get? C=some o/\∀v,o.data≠.cell v:=by
  obtain⟨o,es,ep,e,d,_⟩:=hn;exact⟨o,e,λv z=>by rw[d]at z;cases z⟩
 have O:=P.pinned (fp:=[C]) (λb hb=>by rw[aP]at hb;rw[hb];exact j) (λb hb=>by rw[aP]at hb;rw[hb];exact⟨K,f⟩)
 skip
 refine mX (IQ hN hi' hx hf _ B σ M (.ref G) (.ref G) _ O rfl q) λ_ U h9=>?_;obtain⟨t,J,p,T⟩:=h9;have L:=p.pin (C,K)<|bM _<|bM _<|nU (aP.mpr rfl) f.1;refine⟨m,hn.at' λo e=>by rw[f.1]at e;cases e;exact L.1,λh' k=>?_⟩;have F:∀c v,J c=some v->c≠C:=λc v e z=>by rw[z,L.2.1]at e;cases e
 refine⟨t,J,?_,T⟩;refine p.sH.Mi (ch:=[C]) rfl ⟨λb o e n hb hx=>?_,λb o e n hb hx=>?_,λb o e n hx=>n,λb o e hx=>?_,λ_ _ e=>e,λ_ _ _ e=>e,λ_ _ e=>⟨#[],by rw[Array.append_empty];exact e⟩⟩ ?_ p.bare ?_
 ·exact k.extBut b o (by simpa using hx) e
 ·exact⟨o.slots,k.extBut b o (by simpa using hx) e⟩
 ·exact⟨o,k.extBut b o (by simpa using hx) e⟩
 ·intro b o e;refine(p.hok b o e).stay (λc v hc q=>k.extBut c v ?_ q) (λ_ q=>q) λ_ _ q=>q
  rcases hc with z|z
  ·rw[z];exact F b o e
  ·exact F c _ z
 ·intro b hb;rw[aP]at hb;rw[hb];exact⟨j.2.2.2.1,j.2.1,j.2.2.2.2.1,j.2.2.2.2.2⟩
end L2
namespace Sx
open PySem PyProof.Rows
structure Ord where
 lt:Nat->Nat->Bool
 NB:∀i,lt i i=false
 tr:∀i j k,lt i j=true->lt j k=true->lt i k=true
 neg:∀i j k,lt i k=true->lt i j=true\/lt j k=true
abbrev P (o:Ord)(i j:Nat):Prop:=o.lt i j=true\/(o.lt j i=false/\i<j)
def Ord.abe(o:Ord)(h:o.lt i j=true):o.lt j i=false:=by
 cases e:o.lt j i with
 | false=>rfl
 | true=>have:=o.tr _ _ _ h e;rw[o.NB]at this;cases this
def P.NB(h:P o i i):False:=by
 rcases h with h|⟨_,h⟩
 ·rw[o.NB]at h;cases h
 ·lia
def P.trans{k:Nat}(a:P o i j)(b:P o j k):P o i k:=by
 rcases a with a|⟨a,f⟩
 ·rcases b with b|⟨b,d⟩
  ·exact .inl (o.tr _ _ _ a b)
  ·rcases o.neg i k j a with z|z
   ·exact .inl z
   ·rw[b]at z;cases z
 ·rcases b with b|⟨b,d⟩
  ·rcases o.neg j i k b with z|z
   ·rw[a]at z;cases z
   ·exact .inl z
  ·refine .inr ⟨?_,()⟩
   cases e:o.lt k i with
   | false=>rfl
   | true=>
    rcases o.neg k j i e with z|z
    ·rw[b]at z;cases z
    ·rw[a]at z;cases z
def P.of_lt{o:Ord}(h:o.lt i j=true):P o i j:=.inl h
def P.yu{o:Ord}(h:o.lt j i=false)(hij:i<j):P o i j:=.inr ⟨h,hij⟩
def P.lt{o:Ord}(h:P o i j)(hij:j<i):o.lt i j=true:=by
 rcases h with h|⟨_,h⟩
 ·exact h
 ·lia
def P.ge{o:Ord}(h:P o i j):o.lt j i=false:=by
 rcases h with h|⟨h,_⟩
 ·exact o.abe h
 ·exact h
abbrev So (o:Ord)(g:Nat->Nat)(a b:Nat):Prop:=∀i j,a<=i->i<j->j<b->P o (g i) (g j)
abbrev Cl (g:Nat->Nat)(a b:Nat):Prop:=∀i,a<=i->i<b->a<=g i/\g i<b
abbrev rev (g:Nat->Nat)(i j:Nat):Nat->Nat:=λk=>if i<=k/\k<j then g (i+j-1-k)else g k
abbrev mv (g:Nat->Nat)(src dst:Nat):Nat->Nat:=λk=>if k=dst then g src else if dst<k/\k<=src then g (k-1)else g k
def Ai{g:Nat->Nat}{k:Nat}(h:i<=k)(h2:k<j):rev g i j k=g (i+j-1-k):=aN ⟨h,h2⟩
def qk{g:Nat->Nat}{k:Nat}(h:k<i\/j<=k):rev g i j k=g k:=aM ()
def Ov{g:Nat->Nat}{d:Nat}:mv g s d d=g s:=aN rfl
def Eb{g:Nat->Nat}{d k:Nat}(h:d<k)(h2:k<=s):mv g s d k=g (k-1):=by
 unfold mv;rw[aM (),aN ⟨h,h2⟩]
def C2{g:Nat->Nat}{d k:Nat}(hd:d<=s)(h:k<d\/s<k):mv g s d k=g k:=by
 unfold mv;rw[aM (),aM ()]
section
variable {prog:aj}{w:ah}{A:aA}{E:af->aC->Prop}{s:aC}{o:Ord}{N:Nat}{f:Nat->Keyed}{kd:SortKind}{g:Nat->Nat}{p:Array (Nat×Nat×Nat)}{st:SortSt}
abbrev BC (prog:aj)(w:ah)(A:aA)(s:aC)(o:Ord)(N:Nat)(f:Nat->Keyed)(kd:SortKind):Prop:=
 ∀i j,i<N->j<N->∀(d:af->aC->Prop) (Q:Bool->aC->Prop),Q (o.lt i j) s->wpAny (model prog w) A (keyLt' kd (f i).1 (f j).1) Q d s
structure Sg (N:Nat)(f:Nat->Keyed)(kd:SortKind)(g:Nat->Nat)(p:Array (Nat×Nat×Nat))(st:SortSt):Prop where
 size:(arrOf st).size=N
 get:∀i,i<N->(arrOf st)[i]?=some (f<|g i)
 lt:∀i,i<N->g i<N
 kind:kindOf st=kd
 failed:failedOf st=none
 pend:pendingOf st=p
def zE(C:BC prog w A s o N f kd)(hk:kindOf st=kd)(hi:i<N)(hj:j<N){Q:bi->SortSt->Prop}(q:Q (some<|o.lt i j) st):wpS (model prog w) A E s (lt' (f i)<|f j) Q st:=by
 rw[lt'_eq];refine a_<|gY ?_;rw[hk];refine a_<|wpS_lift<|wpAny_attempt<|C i j hi hj _ _ ⟨rfl,?_⟩;exact br q
def ki{xs:Array Keyed}{i:Nat}{x:Keyed}(e:xs[i]?=some x){Q:Keyed->SortSt->Prop}(q:Q x st):wpS (model prog w) A E s (elem' xs i) Q st:=by
 rw[elem'_eq,e];exact br q
def xF(C:BC prog w A s o N f kd)(h:Sg N f kd g p st)(hi:i<N)(hj:j<N){Q:bi->SortSt->Prop}(q:Q (some<|o.lt (g i)<|g j) st):wpS (model prog w) A E s (ltAt' i j) Q st:=by
 rw[ltAt'_eq];refine a_ (gY ?_)
 skip
 exact a_<|ki (h.get i hi)<|a_<|ki (h.get j hj)<|zE C h.kind (h.lt i hi) (h.lt j hj) q
def Sg.arr(h:Sg N f kd g p st){xs:Array Keyed}{g':Nat->Nat}(hs:xs.size=N)(hg:∀i,i<N->xs[i]?=some (f<|g' i))(hl:∀i,i<N->g' i<N):Sg N f kd g' p (setArr st xs):=⟨hs,hg,hl,h.kind,h.failed,h.pend⟩
def yU(h:Sg N f kd g p st)(hj:j<=N){Q:Unit->SortSt->Prop}(q:∀st',Sg N f kd (rev g i j) p st'->Q Unit.unit st'):wpS (model prog w) A E s (reverseSlice' i j) Q st:=by
 rw[reverseSlice'_eq];refine fM (q _<|h.arr (by rw[mirror_size];exact h.size) (λk d=>?_) λk d=>?_)
 ·rw[getElem?_mirror_all<|by rw[h.size];exact hj];unfold rev;by_cases c:i<=k/\k<j
  ·rw[aN c,aN c];exact h.get _ (by omega)
  ·rw[aM c,aM c];exact h.get _ d
 ·unfold rev;by_cases c:i<=k/\k<j
  ·rw[aN c];exact h.lt _ (by omega)
  ·rw[aM c];exact h.lt _ d
def Yj(h:Sg N f kd g p st){a:Nat}(ha:a<N)(hb:b<=a){Q:Unit->SortSt->Prop}(q:∀st',Sg N f kd (mv g a b) p st'->Q Unit.unit st'):wpS (model prog w) A E s (moveDown' a b) Q st:=by
 rw[moveDown'_eq];refine fM (q _<|h.arr (by rw[bubble_size];exact h.size) (λk d=>?_) λk d=>?_)
 ·rw[getElem?_bubble (by rw[h.size];exact ha) _ (),show a-(a-b)=b by lia];unfold mv;by_cases c:k=b
  ·rw[aN c,aN c];exact h.get _ ha
  ·rw[aM c,aM c];by_cases c2:b<k/\k<=a
   ·rw[aN c2,aN c2];exact h.get _ ()
   ·rw[aM c2,aM c2];exact h.get _ d
 ·unfold mv;by_cases c:k=b
  ·rw[aN c];exact h.lt _ ha
  ·rw[aM c];by_cases c2:b<k/\k<=a
   ·rw[aN c2];exact h.lt _ ()
   ·rw[aM c2];exact h.lt _ d
structure Rn (o:Ord)(g0 g:Nat->Nat)(a b:Nat):Prop where
 out:∀i,i<a\/b<=i->g i=g0 i
 cl:Cl g a b
 so:So o g a b
def W3{g0:Nat->Nat}{lo k l:Nat}(R:Rn o g0 g lo<|lo+k)(hk:g (lo+k)=lo+k)(hl:l<=k)(h1:∀i,i<l->P o (g<|lo+i) (lo+k))(h2:∀i,l<=i->i<k->P o (lo+k) (g<|lo+i)):Rn o g0 (mv g (lo+k)<|lo+l) lo (lo+(k+1)) where
 out i hi:=by rw[C2 () ()];exact R.out i ()
 cl i a b:=by
  by_cases c:i=lo+l
  ·subst c;rw[Ov,hk];lia
  ·by_cases c2:lo+l<i
   ·rw[Eb c2 ()];have:=R.cl (i-1) () ()
    lia
   ·rw[C2 () ()];have:=R.cl i () ()
    lia
 so i j a b d:=by
  by_cases c:i=lo+l
  ·subst c;rw[Ov,Eb b (),hk];have:=h2 (j-1-lo) () ()
   rwa [show lo+(j-1-lo)=j-1 by lia]at this
  ·by_cases c2:lo+l<i
   ·rw[Eb c2 (),Eb () ()];exact R.so _ _ () () ()
   ·rw[C2 (k:=i) () ()];by_cases c3:j=lo+l
    ·subst c3;rw[Ov,hk];have:=h1 (i-lo) ()
     rwa [show lo+(i-lo)=i by lia]at this
    ·by_cases f:lo+l<j
     ·rw[Eb f ()];exact R.so _ _ () () ()
     ·rw[C2 () ()];exact R.so _ _ () () ()
def Xl(C:BC prog w A s o N f kd){g0:Nat->Nat}{lo n ok:Nat}(h:Sg N f kd g p st)(hn:lo+n<=N)(h1:1<=ok)(hok:ok<=n)(R:Rn o g0 g lo<|lo+ok)(hid:∀i,lo+ok<=i->i<lo+n->g0 i=i)
  {Q:Bool->SortSt->Prop} (q:∀g' st',Sg N f kd g' p st'->Rn o g0 g' lo (lo+n)->Q true st'):wpS (model prog w) A E s (binarySort' lo n ok) Q st:=by
 rw[binarySort'_eq,show max ok 1=ok by lia];refine a_ (d_ (cN (I:=λk c st'=>c=(none,Unit.unit)/\∃g',Sg N f kd g' p st'/\Rn o g0 g' lo (lo+min k n))
  (Q:=λc st'=>c=(none,Unit.unit)/\∃g',Sg N f kd g' p st'/\Rn o g0 g' lo (lo+n)) ?step ?fin ?init) ?post)
 case post=>
  rintro c st' ⟨rfl,g',h',j⟩;exact br<|q g' st' h' j
 case init=>exact⟨rfl,g,h,by rw[show min ok n=ok by lia];exact R⟩
 case fin=>
  rintro c st' ⟨hc,g',h',j⟩;exact⟨hc,g',h',by rwa [show min (max ok n) n=n by lia]at j⟩
 case step=>
  rintro k c st' L U ⟨rfl,g',h',j⟩;rw[show min k n=k by lia]at j;have K:g' (lo+k)=lo+k:=by rw[j.out _ ()];exact hid _ () ()
  refine a_ (d_ (cN (I:=λx c B=>B=st'/\∃u v,c=(none,u,v)/\u<=v/\v<=k/\v-u<=k-x /\
    (∀i,i<u->P o (g'<|lo+i) (lo+k))/\(∀i,v<=i->i<k->P o (lo+k) (g'<|lo+i)))
   (Q:=λc B=>B=st'/\∃u v,c=(none,u,v)/\u<=k /\
    (∀i,i<u->P o (g'<|lo+i) (lo+k))/\(∀i,u<=i->i<k->P o (lo+k) (g'<|lo+i))) ?istep ?ifin ?iinit) ?ipost)
  case iinit=>exact⟨rfl,0,k,rfl,(),(),(),λi Y=>(),λi h1 h2=>()⟩
  case ifin=>
   rintro c B ⟨rfl,u,v,rfl,G,z,V,low,top⟩;have:u=v:=()
   subst this;exact⟨rfl,u,u,rfl,z,low,top⟩
  case istep=>
   rintro x c B _ T ⟨rfl,u,v,rfl,G,z,V,low,top⟩;dsimp only;by_cases F:u>=v
   ·rw[aN F];have:u=v:=()
    subst this;exact br ⟨rfl,u,u,rfl,z,low,top⟩
   ·rw[aM F];have W:(u+v) / 2<k:=()
    have O:=j.cl (lo+(u+v) / 2) () ();refine a_<|xF C h' () () ?_;rw[K]
    cases d:o.lt (lo+k) (g'<|lo+(u+v) / 2)
    case true=>
     dsimp[dJ];refine br ⟨rfl,u,(u+v) / 2,rfl,(),(),(),low,λi h1 h2=>?_⟩;by_cases c:i=(u+v) / 2
     ·subst c;exact .inl d
     ·exact(P.of_lt d).trans (j.so _ _ () () ())
    case false=>
     dsimp[bD,cF];refine br ⟨rfl,(u+v) / 2+1,v,rfl,(),(),(),λi h1=>?_,top⟩;have t:=P.yu d O.2;by_cases c:i=(u+v) / 2
     ·subst c;exact t
     ·exact(j.so _ _ () () ()).trans t
  case ipost=>
   rintro c B ⟨rfl,u,v,rfl,J,low,top⟩;dsimp only;refine a_<|Yj h' () () λM h3=>?_;refine br ⟨rfl,_,h3,?_⟩;rw[show min (k+1) n=k+1 by lia];exact W3 j K J low top
end
meta abbrev As:=Option (bj)×Nat
meta abbrev Ds:=Option (bj)×Nat×Nat
abbrev QW (lo a nrem:Nat):StateT SortSt Sem As:=
 forIn [a:nrem] ((none,a):As) λ_ c=>do
  let x <- ltAt' (lo+c.2) (lo+c.2-1)
  match x with
  | some b=>if b=true then pure (ForInStep.done (none,c.2))else pure (ForInStep.yield (none,c.2+1))
  | _=>pure<|ForInStep.done (some none,c.2)
abbrev Ez (lo n nrem:Nat):StateT SortSt Sem (bj):=do
 reverseSlice' lo (lo+n)
 let c <- QW lo n nrem
 match c.1 with
 | some r=>pure r
 | none=>pure<|some c.2
abbrev Uj (lo n nrem:Nat):StateT SortSt Sem Ds:=
 forIn [n:nrem] ((none,n,0):Ds) λ_ c=>do
  let x <- ltAt' (lo+c.2.1) (lo+c.2.1-1)
  match x with
  | some b=>
   if b=true then
    if c.2.2>0 then do
     reverseSlice' (lo+c.2.1-(c.2.2+1)) (lo+c.2.1)
     pure (ForInStep.yield (none,c.2.1+1,0))
    else pure (ForInStep.yield (none,c.2.1+1,0))
   else do
    let x <- ltAt' (lo+c.2.1-1) (lo+c.2.1)
    match x with
    | some b=>
     if b=true then pure (ForInStep.done (none,c.2.1,c.2.2))
     else pure (ForInStep.yield (none,c.2.1+1,c.2.2+1))
    | _=>pure<|ForInStep.done (some none,c.2.1,c.2.2)
  | _=>pure<|ForInStep.done (some none,c.2.1,c.2.2)
abbrev NL (lo n nrem:Nat):StateT SortSt Sem (bj):=do
 liftM (rule "list.sort.descending-run")
 let c <- Uj lo (n+1) nrem
 match c.1 with
 | some r=>pure r
 | none=>
  if c.2.2>0 then do
   reverseSlice' (lo+c.2.1-(c.2.2+1)) (lo+c.2.1)
   Ez lo c.2.1 nrem
  else Ez lo c.2.1 nrem
def count_eq(lo nrem:Nat):countRun' lo nrem=(do
  let c <- QW lo 1 nrem
  match c.1 with
  | some r=>pure r
  | none=>
   if (c.2 == nrem)=true then pure (some c.2)
   else if c.2>1 then do
    let x <- ltAt' lo (lo+c.2-1)
    match x with
    | some b=>if b=true then pure (some c.2)else do
      reverseSlice' lo (lo+c.2)
      NL lo c.2 nrem
    | _=>pure none
   else NL lo c.2 nrem):=by
 rw[countRun'_eq];dsimp only;unfold NL Ez Uj QW;congr 1
 funext c
 obtain⟨r,n⟩:=c
 cases r with
 | some r=>rfl
 | none=>
  dsimp only;split
  ·rfl
  ·split
   ·congr 1
    funext x
    cases x with
    | none=>rfl
    | some b=>
     dsimp only;split
     ·rfl
     ·congr 1
      funext _r
      congr 1
      funext _u
      congr 1;congr 1
      funext s2
      obtain⟨r2,g,j⟩:=s2
      cases r2 with
      | some r2=>rfl
      | none=>
       dsimp only;split
       ·congr 1
        funext _v
        congr 1
        funext _w
        congr 1
        funext s3
        obtain⟨d,f⟩:=s3
        cases d<;>rfl
       ·congr 1
        funext _w
        congr 1
        funext s3
        obtain⟨d,f⟩:=s3
        cases d<;>rfl
   ·congr 1
    funext _u
    congr 1;congr 1
    funext s2
    obtain⟨r2,g,j⟩:=s2
    cases r2 with
    | some r2=>rfl
    | none=>
     dsimp only;split
     ·congr 1
      funext _v
      congr 1
      funext _w
      congr 1
      funext s3
      obtain⟨d,f⟩:=s3
      cases d<;>rfl
     ·congr 1
      funext _w
      congr 1
      funext s3
      obtain⟨d,f⟩:=s3
      cases d<;>rfl
section
variable {prog:aj}{w:ah}{A:aA}{E:af->aC->Prop}{s:aC}{o:Ord}{N:Nat}{f:Nat->Keyed}{kd:SortKind}{g g0:Nat->Nat}{p:Array (Nat×Nat×Nat)}{st:SortSt}
def Rn.snoc{a:Nat}(R:Rn o g0 g a b)(hab:a<b)(hb:g b=b)(h:o.lt b (g<|b-1)=false):Rn o g0 g a (b+1) where
 out i hi:=R.out i ()
 cl i h1 h2:=by
  by_cases c:i=b
  ·subst c;lia
  ·have:=R.cl i h1 ();lia
 so i j h1 h2 h3:=by
  by_cases c:j=b
  ·subst c;rw[hb];have l:=R.cl (j-1) () ();have d:P o (g<|j-1) j:=P.yu h l.2;by_cases c2:i=j-1
   ·subst c2;exact d
   ·exact(R.so i (j-1) h1 () ()).trans d
  ·exact R.so i j h1 h2 ()
def NK(C:BC prog w A s o N f kd){lo a:Nat}(h:Sg N f kd g p st)(hn:lo+nrem<=N)(h1:1<=a)(han:a<=nrem)(R:Rn o g0 g lo<|lo+a)(hid:∀i,lo+a<=i->i<lo+nrem->g0 i=i)
  {Q:As->SortSt->Prop} (q:∀n,a<=n->n<=nrem->Rn o g0 g lo (lo+n)->(n=nrem\/o.lt (lo+n) (g<|lo+n-1)=true)->Q (none,n) st):wpS (model prog w) A E s (QW lo a nrem) Q st:=by
 unfold QW;refine cN (I:=λx c d=>d=st/\c=(none,x)/\Rn o g0 g lo (lo+x)) ?step ?fin ⟨rfl,rfl,R⟩
 case fin=>
  rintro c d ⟨rfl,rfl,j⟩;rw[show max a nrem=nrem by lia]at j ⊢;exact q nrem han (aK _) j<|.inl rfl
 case step=>
  rintro x c d k B ⟨rfl,rfl,j⟩;dsimp only;have t:g (lo+x)=lo+x:=by rw[j.out _ ()];exact hid _ () ()
  refine a_<|xF C h () () ?_;rw[t]
  cases z:o.lt (lo+x) (g<|lo+x-1)
  case true=>
   dsimp[dJ];exact br<|q x k () j<|.inr z
  case false=>
   dsimp[bD,cF];exact br ⟨rfl,rfl,j.snoc () t z⟩
structure Dc (o:Ord)(g0 g:Nat->Nat)(a b q:Nat):Prop where
 out:∀i,i<a\/b<=i->g i=g0 i
 cl:Cl g a b
 few:a+(q+1)<=b
 dn:∀i j,a<=i->i<j->j<b->i<b-(q+1)->P o (g j) (g i)
 id:∀i,b-(q+1)<=i->i<b->g i=i
 al:∀i j,b-(q+1)<=i->i<b->b-(q+1)<=j->j<b->o.lt i j=false
def Dc.turn{a q:Nat}(D:Dc o g0 g a b q):(∀i,i<a\/b<=i->rev g (b-(q+1)) b i=g0 i)/\Cl (rev g (b-(q+1)) b) a b/\(∀i j,a<=i->i<j->j<b->P o (rev g (b-(q+1)) b j) (rev g (b-(q+1)) b i))/\(∀i,b-(q+1)<=i->i<b->∃k,rev g (b-(q+1)) b i=k/\b-(q+1)<=k/\k<b):=by
 have few:=D.few;have d:∀i,b-(q+1)<=i->i<b->rev g (b-(q+1)) b i=b-(q+1)+b-1-i:=λi h1 h2=>by
  rw[Ai h1 h2];exact D.id _ (by omega)<|by omega
 refine⟨λi f=>?_,λi h1 h2=>?_,λi j h1 h2 h3=>?_,λi h1 h2=>⟨_,d i h1 h2,by omega,by omega⟩⟩
 ·rw[qk<|by omega];exact D.out i f
 ·by_cases c:i<b-(q+1)
  ·rw[qk<|by omega];exact D.cl i h1 h2
  ·rw[d i (by omega) h2];omega
 ·by_cases c:i<b-(q+1)
  ·rw[qk (k:=i)<|by omega];by_cases c2:j<b-(q+1)
   ·rw[qk<|by omega];exact D.dn i j h1 h2 h3 c
   ·rw[d j (by omega) h3];have:=D.dn i (b-(q+1)+b-1-j) h1 (by omega) (by omega) c
    rwa [D.id _ (by omega)<|by omega]at this
  ·rw[d i (by omega)<|by omega,d j (by omega) h3];exact P.yu (D.al _ _ (by omega) (by omega) (by omega)<|by omega)<|by omega
abbrev Fin (o:Ord)(g0 g:Nat->Nat)(a b:Nat):Prop:=(∀i,i<a\/b<=i->g i=g0 i)/\Cl g a b/\(∀i j,a<=i->i<j->j<b->P o (g j) (g i))
def Dc.Ff{a:Nat}(D:Dc o g0 g a b 0):Fin o g0 g a b:=⟨D.out,D.cl,λi j h1 h2 h3=>D.dn i j h1 h2 h3 ()⟩
def Fin.rn{a:Nat}(D:Fin o g0 g a b):Rn o g0 (rev g a b) a b where
 out i hi:=by rw[qk hi];exact D.1 i hi
 cl i h1 h2:=by
  rw[Ai h1 h2];exact D.2.1 _ () ()
 so i j h1 h2 h3:=by
  rw[Ai h1 (),Ai () h3];exact D.2.2 _ _ () () ()
def Fin.add{a:Nat}(D:Fin o g0 g a b)(hb:g b=b)(hab:a<b)(h:∀i,a<=i->i<b->P o b (g i)):Dc o g0 g a (b+1) 0 where
 out i hi:=D.1 i ()
 cl i h1 h2:=by
  by_cases c:i=b
  ·subst c;lia
  ·have:=D.2.1 i h1 ();lia
 few:=()
 dn i j h1 h2 h3 _:=by
  by_cases c:j=b
  ·subst c;rw[hb];exact h i h1 h2
  ·exact D.2.2 i j h1 h2 ()
 id i h1 h2:=by
  have:i=b:=()
  rw[this,hb]
 al i j h1 h2 h3 h4:=by
  have:i=j:=()
  rw[this];exact o.NB _
def JE(C:BC prog w A s o N f kd){lo n:Nat}(h:Sg N f kd g p st)(hn:lo+nrem<=N)(h1:1<=n)(han:n<=nrem)(D:Fin o g0 g lo<|lo+n)(hid:∀i,lo<=i->i<lo+nrem->g0 i=i)
  {Q:bj->SortSt->Prop} (q:∀m g' st',Sg N f kd g' p st'->1<=m->m<=nrem->Rn o g0 g' lo (lo+m)->Q (some m) st'):wpS (model prog w) A E s (Ez lo n nrem) Q st:=by
 unfold Ez;refine a_<|yU h () λj h2=>?_;exact a_<|NK C h2 hn h1 han D.rn (λi a b=>hid i () b) λm k d R _=>br<|q m _ _ h2 () d R
def VJ(C:BC prog w A s o N f kd){lo n:Nat}(h:Sg N f kd g p st)(hn:lo+nrem<=N)(h1:1<=n)(han:n<=nrem)(D:Dc o g0 g lo (lo+n) 0)(hid:∀i,lo<=i->i<lo+nrem->g0 i=i)
  {Q:Ds->SortSt->Prop} (q:∀m e g' st',Sg N f kd g' p st'->1<=m->m<=nrem->Dc o g0 g' lo (lo+m) e->Q (none,m,e) st'):wpS (model prog w) A E s (Uj lo n nrem) Q st:=by
 unfold Uj;refine cN (I:=λx c st'=>∃e g',c=(none,x,e)/\Sg N f kd g' p st'/\Dc o g0 g' lo (lo+x) e) ?step ?fin ⟨0,g,rfl,h,D⟩
 case fin=>
  rintro c st' ⟨e,g',rfl,h',D'⟩;rw[show max n nrem=nrem by lia]at D' ⊢;exact q nrem e g' st' h' () (aK _) D'
 case step=>
  rintro x c st' V Y ⟨e,g',rfl,h',D'⟩;dsimp only;have few:=D'.few;have B:g' (lo+x)=lo+x:=by rw[D'.out _ ()];exact hid _ () ()
  have t:g' (lo+x-1)=lo+x-1:=D'.id _ () ();refine a_<|xF C h' () () ?_;rw[B,t]
  cases F:o.lt (lo+x) (lo+x-1)
  case true=>
   dsimp[dJ];by_cases J:e>0
   ·rw[aN J];obtain⟨L,W,T,K⟩:=D'.turn;refine a_<|yU h' () λO h2=>br ⟨0,_,rfl,h2,?_⟩;refine Fin.add (b:=lo+x) ⟨L,W,T⟩ (by rw[qk ()];exact B) () λi a b=>?_;by_cases c:lo+x-(e+1)<=i
    ·obtain⟨k,ek,M,U⟩:=K i c b;rw[ek]
     rcases o.neg _ k _ F with z|z
     ·exact .inl z
     ·rw[D'.al _ _ M U () ()]at z;cases z
    ·rw[qk ()];have:=D'.dn i (lo+x-1) a () () ();rw[t]at this;exact(P.of_lt F).trans this
   ·rw[aM J];have:e=0:=()
    subst this;refine br ⟨0,_,rfl,h',Fin.add (b:=lo+x) D'.Ff B () λi a b=>?_⟩;by_cases c:i=lo+x-1
    ·subst c;rw[t];exact .inl F
    ·have:=D'.dn i (lo+x-1) a () () ();rw[t]at this;exact(P.of_lt F).trans this
  case false=>
   dsimp[bD,cF];refine a_<|xF C h' () () ?_;rw[B,t]
   cases hg:o.lt (lo+x-1) (lo+x)
   case true=>
    dsimp[dJ];exact br<|q x e g' st' h' () () D'
   case false=>
    dsimp[bD,cF];refine br ⟨e+1,g',rfl,h',?_⟩;have G:∀i,lo+x-(e+1)<=i->i<lo+x->o.lt i (lo+x)=false/\o.lt (lo+x) i=false:=λi a b=>by
     constructor
     ·cases z:o.lt i (lo+x)with
      | false=>rfl
      | true=>
       rcases o.neg _ (lo+x-1) _ z with y|y
       ·rw[D'.al _ _ a b () ()]at y;cases y
       ·rw[hg]at y;cases y
     ·cases z:o.lt (lo+x) i with
      | false=>rfl
      | true=>
       rcases o.neg _ (lo+x-1) _ z with y|y
       ·rw[F]at y;cases y
       ·rw[D'.al _ _ () () a b]at y;cases y
    exact {
     out:=λi Z=>D'.out i ()
     cl:=λi a b=>by
      by_cases c:i=lo+x
      ·subst c;lia
      ·have:=D'.cl i a ();lia
     few:=()
     dn:=λi j a b c d=>by
      by_cases z:j=lo+x
      ·subst z;rw[B];have y:=D'.dn i (lo+x-1) a () () ();rw[t]at y;have gi:=D'.cl i a ()
       rcases y with y|⟨_,y⟩
       ·rcases o.neg _ (lo+x) _ y with v|v
        ·rw[hg]at v;cases v
        ·exact .inl v
       ·lia
      ·exact D'.dn i j a b () ()
     id:=λi a b=>by
      by_cases z:i=lo+x
      ·subst z;exact B
      ·exact D'.id i () ()
     al:=λi j a b c d=>by
      by_cases z:i=lo+x
      ·subst z;by_cases y:j=lo+x
       ·subst y;exact o.NB _
       ·exact(G j () ()).2
      ·by_cases y:j=lo+x
       ·subst y;exact(G i () ()).1
       ·exact D'.al i j () () () ()}
def JF(C:BC prog w A s o N f kd){lo n:Nat}(h:Sg N f kd g p st)(hn:lo+nrem<=N)(han:n+1<=nrem)(D:Dc o g0 g lo (lo+(n+1)) 0)(hid:∀i,lo<=i->i<lo+nrem->g0 i=i)
  {Q:bj->SortSt->Prop} (q:∀m g' st',Sg N f kd g' p st'->1<=m->m<=nrem->Rn o g0 g' lo (lo+m)->Q (some m) st'):wpS (model prog w) A E s (NL lo n nrem) Q st:=by
 unfold NL;refine a_<|wpS_lift<|d8 ⟨rfl,?_⟩;refine a_<|VJ C h hn () han D hid λm e g' st' h' j k D'=>?_;dsimp only;by_cases d:e>0
 ·rw[aN d];obtain⟨t,B,F,_⟩:=D'.turn;exact a_ (yU h' () λz h2=>JE C h2 hn j k ⟨t,B,F⟩ hid q)
 ·rw[aM d];have:e=0:=()
  subst this;exact JE C h' hn j k D'.Ff hid q
def Nz(C:BC prog w A s o N f kd){lo:Nat}(h:Sg N f kd g p st)(hn:lo+nrem<=N)(h1:1<=nrem)(hid:∀i,lo<=i->i<lo+nrem->g i=i)
  {Q:bj->SortSt->Prop} (q:∀m g' st',Sg N f kd g' p st'->1<=m->m<=nrem->Rn o g g' lo (lo+m)->Q (some m) st'):wpS (model prog w) A E s (countRun' lo nrem) Q st:=by
 rw[count_eq];refine a_ (NK C h hn (aK 1) h1 (g0:=g) ⟨λ_ _=>rfl,λi a b=>?_,λi j a b c=>()⟩ (λi a b=>hid i () b) λn O L R G=>?_)
 ·have:i=lo:=()
  subst this;rw[hid i (aK _) ()];lia
 dsimp only;by_cases B:n=nrem
 ·rw[aN<|by simpa using B];exact br (q n g st h O L R)
 ·rw[aM<|by simpa using B];have k:=G.resolve_left B;rw[hid (lo+n-1) () ()]at k;have K:g (lo+n)=lo+n:=hid _ () ();by_cases F:n>1
  ·rw[aN F];refine a_<|xF C h () () ?_;rw[hid lo () (),hid (lo+n-1) () ()]
   cases U:o.lt lo (lo+n-1)
   case true=>
    dsimp[dJ];exact br<|q n g st h O L R
   case false=>
    dsimp[bD,cF];have d:∀i,lo<=i->i<lo+n->g i=i:=λi a b=>hid i a ();have J:∀i j,lo<=i->i<j->j<lo+n->o.lt i j=false/\o.lt j i=false:=λi j a b c=>by
     have r:=R.so i j a b c;rw[d i a (),d j () c]at r;refine⟨?_,r.ge⟩
     cases z:o.lt i j with
     | false=>rfl
     | true=>
      rcases o.neg _ lo _ z with y|y
      ·by_cases x:i=lo
       ·subst x;rw[o.NB]at y;cases y
       ·have r2:=R.so lo i () () ();rw[d i a (),d lo () ()]at r2;rw[r2.ge]at y;cases y
      ·rcases o.neg _ (lo+n-1) _ y with x|x
       ·rw[U]at x;cases x
       ·by_cases v:j=lo+n-1
        ·subst v;rw[o.NB]at x;cases x
        ·have r2:=R.so j (lo+n-1) () () ();rw[d j () c,d (lo+n-1) () ()]at r2;rw[r2.ge]at x;cases x
    refine a_<|yU h () λT h2=>JF C h2 hn () ?_ hid q;have t:∀i,lo<=i->i<lo+n->rev g lo (lo+n) i=lo+(lo+n)-1-i:=λi a b=>by rw[Ai a b];exact d _ () ()
    refine Fin.add (b:=lo+n) ⟨λi M=>qk M,λi a b=>by rw[t i a b];lia,λi j a b c=>?_⟩ (by rw[qk ()];exact K) () λi a b=>?_
    ·rw[t i a (),t j () c];exact P.yu (J _ _ () () ()).2 ()
    ·rw[t i a b];by_cases x:lo+(lo+n)-1-i=lo+n-1
     ·rw[x];exact .inl k
     ·rcases o.neg _ (lo+(lo+n)-1-i) _ k with z|z
      ·exact .inl z
      ·rw[(J _ _ () () ()).1]at z;cases z
  ·rw[aM F];have:n=1:=()
   subst this;refine JF C h hn () ?_ hid q;refine Fin.add (b:=lo+1) ⟨λi M=>rfl,R.cl,λi j a b c=>()⟩ K () λi a b=>?_;have:i=lo:=()
   subst this;rw[hid i () ()];rw[show i+1-1=i by lia]at k;exact .inl k
end
abbrev nh:Bool->Keyed->Array Keyed->Nat->Nat->Nat->StateT SortSt Sem (bj):=sortPriv% PySem.Builtin.gallop
abbrev VU (ask:Nat->StateT SortSt Sem (bi))(n at0:Nat):StateT SortSt Sem (bj):=do
 let mut was:=0
 let mut far:=1
 let mut low:=0
 let mut top:=0
 let some yes <- ask at0|return none
 if yes then
  let d:=n-at0
  for _ in [0:n] do
   if far>=d then break
   let some ok <- ask (at0+far)|return none
   if !ok then break
   was:=far
   far:=2 * far+1
  low:=at0+was+1
  top:=at0+min far d
 else
  let d:=at0+1
  for _ in [0:n] do
   if far>=d then break
   let some hit <- ask (at0-far)|return none
   if hit then break
   was:=far
   far:=2 * far+1
  low:=at0+1-min far d
  top:=at0-was
 for _ in [0:n] do
  if low>=top then break
  let m:=low+(top-low) / 2
  let some ok <- ask m|return none
  if ok then low:=m+1 else top:=m
 return some top
def B8(left:Bool)(key:Keyed)(arr:Array Keyed)(base n hint:Nat):nh left key arr base n hint=VU (λi=>do
  let x <- elem' arr (base+i)
  if left then lt' x key else return (<- lt' key x).map (!·)) n hint:=rfl
section
variable {prog:aj}{w:ah}{A:aA}{E:af->aC->Prop}{s:aC}{st:SortSt}
abbrev bsB (be:Nat->StateT SortSt Sem (bi))(n l0 h0:Nat):StateT SortSt Sem (bj):=do
 let mut low:=l0
 let mut top:=h0
 for _ in [0:n] do
  if low>=top then break
  let m:=low+(top-low) / 2
  let some ok <- be m|return none
  if ok then low:=m+1 else top:=m
 return some top
def Ve{be:Nat->StateT SortSt Sem (bi)}{n h0:Nat}(b:Nat->Bool)(hbe:∀i,i<n->∀Q:bi->SortSt->Prop,Q (some<|b i) st->wpS (model prog w) A E s (be i) Q st)(hb:∀i j,i<=j->j<n->b j=true->b i=true)
  (hlh:l0<=h0) (hn:h0<=n) (hl:∀i,i<l0->b i=true) (hh:∀i,h0<=i->i<n->b i=false)
  {Q:bj->SortSt->Prop} (q:∀k,k<=n->(∀i,i<k->b i=true)->(∀i,k<=i->i<n->b i=false)->Q (some k) st):wpS (model prog w) A E s (bsB be n l0 h0) Q st:=by
 unfold bsB;refine a_ (d_ (cN (I:=λx c g=>g=st/\∃d f,c=(none,d,f)/\d<=f/\f<=n/\f-d<=n-x/\(∀i,i<d->b i=true)/\(∀i,f<=i->i<n->b i=false))
  (Q:=λc g=>g=st/\∃k,c=(none,k,k)/\k<=n/\(∀i,i<k->b i=true)/\(∀i,k<=i->i<n->b i=false)) ?step ?fin ⟨rfl,l0,h0,rfl,hlh,hn,(),hl,hh⟩) ?post)
 case post=>
  rintro c g ⟨rfl,k,rfl,h1,h2,h3⟩;exact br<|q k h1 h2 h3
 case fin=>
  rintro c g ⟨rfl,d,f,rfl,h1,h2,h3,B,t⟩;have:d=f:=()
  subst this;exact⟨rfl,d,rfl,h2,B,t⟩
 case step=>
  rintro x c g _ G ⟨rfl,d,f,rfl,h1,h2,h3,B,t⟩;dsimp only;by_cases p:d>=f
  ·rw[aN p];have:d=f:=()
   subst this;exact br ⟨rfl,d,rfl,h2,B,t⟩
  ·rw[aM p];have F:d+(f-d) / 2<f:=()
   obtain⟨m,C⟩:∃m,m=d+(f-d) / 2:=⟨_,rfl⟩;rw[<- C]at F ⊢;refine a_ (hbe m () _ ?_)
   cases hv:b m
   ·dsimp[bD,cF];refine br ⟨rfl,d,m,rfl,(),(),(),B,λi a c=>?_⟩
    cases z:b i with
    | false=>rfl
    | true=>rw[hb m i a c z]at hv;cases hv
   ·dsimp[dJ];exact br ⟨rfl,m+1,f,rfl,(),h2,(),λi a=>hb i m () () hv,t⟩
def JY{be:Nat->StateT SortSt Sem (bi)}{n:Nat}(b:Nat->Bool)(hbe:∀i,i<n->∀Q:bi->SortSt->Prop,Q (some<|b i) st->wpS (model prog w) A E s (be i) Q st)(hb:∀i j,i<=j->j<n->b j=true->b i=true)(hh:hint<n)
  {Q:bj->SortSt->Prop} (q:∀k,k<=n->(∀i,i<k->b i=true)->(∀i,k<=i->i<n->b i=false)->Q (some k) st):wpS (model prog w) A E s (VU be n hint) Q st:=by
 unfold VU;have t:∀i j,i<=j->j<n->b i=false->b j=false:=λi j a c d=>by
  cases z:b j with
  | false=>rfl
  | true=>rw[hb i j a c z]at d;cases d
 refine a_ (hbe hint hh _ ?_)
 cases B:b hint
 ·dsimp only;dsimp[bD,cF];refine a_ (d_ (cN (I:=λx c f=>f=st/\∃l u,c=(none,l,u)/\x+1<=u/\l<u/\l<=hint/\b (hint-l)=false)
   (Q:=λc f=>f=st/\∃l u,c=(none,l,u)/\l<u/\l<=hint/\b (hint-l)=false/\(u>=hint+1\/b (hint-u)=true)) ?step ?fin ⟨rfl,0,1,rfl,by omega,by omega,by omega,B⟩) ?post)
  case post=>
   rintro c f ⟨rfl,l,u,rfl,h1,h2,h3,g⟩;dsimp only;refine(Ve b hbe hb (l0:=hint+1-min u (hint+1)) (h0:=hint-l) (by omega) (by omega) (λi a=>?_) (λi a c=>t _ _ a c h3) q:wpS (model prog w) A E s (bsB be n _ _) Q f)
   rcases g with g|g
   ·omega
   ·exact hb i (hint-u) (by omega) (by omega) g
  case fin=>
   rintro c f ⟨rfl,l,u,rfl,h1,h2,h3,g⟩;exact⟨rfl,l,u,rfl,h2,h3,g,.inl<|by omega⟩
  case step=>
   rintro x c f _ C ⟨rfl,l,u,rfl,h1,h2,h3,g⟩;dsimp only;by_cases p:u>=hint+1
   ·rw[aN p];exact br ⟨rfl,l,u,rfl,h2,h3,g,.inl p⟩
   ·rw[aM p];refine a_ (hbe _ (by omega) _ ?_)
    cases hv:b (hint-u)
    ·dsimp[bD,cF];exact br ⟨rfl,u,2 * u+1,rfl,by omega,by omega,by omega,hv⟩
    ·dsimp[dJ];exact br ⟨rfl,l,u,rfl,h2,h3,g,.inr hv⟩
 ·dsimp only;dsimp[dJ];refine a_ (d_ (cN (I:=λx c f=>f=st/\∃l u,c=(none,l,u)/\x+1<=u/\l<u/\hint+l<n/\b (hint+l)=true)
   (Q:=λc f=>f=st/\∃l u,c=(none,l,u)/\l<u/\hint+l<n/\b (hint+l)=true/\(u>=n-hint\/b (hint+u)=false)) ?step2 ?fin2 ⟨rfl,0,1,rfl,by omega,by omega,by omega,B⟩) ?post2)
  case post2=>
   rintro c f ⟨rfl,l,u,rfl,h1,h2,h3,g⟩;dsimp only;refine(Ve b hbe hb (l0:=hint+l+1) (h0:=hint+min u (n-hint)) (by omega) (by omega) (λi a=>hb i _ (by omega) h2 h3) (λi a c=>?_) q:wpS (model prog w) A E s (bsB be n _ _) Q f)
   rcases g with g|g
   ·omega
   ·exact t (hint+u) i (by omega) c g
  case fin2=>
   rintro c f ⟨rfl,l,u,rfl,h1,h2,h3,g⟩;exact⟨rfl,l,u,rfl,h2,h3,g,.inl<|by omega⟩
  case step2=>
   rintro x c f _ C ⟨rfl,l,u,rfl,h1,h2,h3,g⟩;dsimp only;by_cases p:u>=n-hint
   ·rw[aN p];exact br ⟨rfl,l,u,rfl,h2,h3,g,.inl p⟩
   ·rw[aM p];refine a_ (hbe _ (by omega) _ ?_)
    cases hv:b (hint+u)
    ·dsimp[cV,dJ];exact br ⟨rfl,l,u,rfl,h2,h3,g,.inr hv⟩
    ·dsimp[bW,bD,cF];exact br ⟨rfl,u,2 * u+1,rfl,by omega,by omega,by omega,hv⟩
end
section
variable {prog:aj}{w:ah}{A:aA}{E:af->aC->Prop}{s:aC}{o:Ord}{N:Nat}{f:Nat->Keyed}{kd:SortKind}{st:SortSt}
def NC(C:BC prog w A s o N f kd)(hk:kindOf st=kd){base n:Nat}{arr:Array Keyed}{h:Nat->Nat}(ha:∀i,i<n->arr[base+i]?=some (f<|h i))(hN:∀i,i<n->h i<key)(hkN:key<N)(so:So o h 0 n)(hh:hint<n)
  {Q:bj->SortSt->Prop} (q:∀k,k<=n->(∀i,i<k->P o (h i) key)->(∀i,k<=i->i<n->P o key (h i))->Q (some k) st):wpS (model prog w) A E s (nh false (f key) arr base n hint) Q st:=by
 rw[B8];refine JY (λi=>!o.lt key (h i)) (λi g t p=>?_) (λi j a b c=>?_) hh λk h1 h2 h3=>q k h1 (λi a=>?_) λi a b=>?_
 ·refine a_<|ki (ha i g) ?_;dsimp[bD,cF];exact a_ (zE C hk hkN (by have:=hN i g;lia)<|br p)
 ·by_cases z:i=j
  ·subst z;exact c
  ·have r:=so i j (bK _) () b;have d:o.lt key (h j)=false:=by simpa using c
   cases e:o.lt key (h i)with
   | false=>rfl
   | true=>
    have:=(P.of_lt e).trans r;rw[this.lt<|hN j b]at d;cases d
 ·have:=h2 i a;exact P.yu (by simpa using this) (hN i ())
 ·have:=h3 i a b;exact .inl<|by simpa using this
def OU(C:BC prog w A s o N f kd)(hk:kindOf st=kd){base n:Nat}{arr:Array Keyed}{h:Nat->Nat}(ha:∀i,i<n->arr[base+i]?=some (f<|h i))(hN:∀i,i<n->key<h i/\h i<N)(so:So o h 0 n)(hh:hint<n)
  {Q:bj->SortSt->Prop} (q:∀k,k<=n->(∀i,i<k->P o (h i) key)->(∀i,k<=i->i<n->P o key (h i))->Q (some k) st):wpS (model prog w) A E s (nh true (f key) arr base n hint) Q st:=by
 rw[B8];refine JY (λi=>o.lt (h i) key) (λi d p g=>?_) (λi j a b c=>?_) hh λk h1 h2 h3=>q k h1 (λi a=>?_) λi a b=>?_
 ·refine a_<|ki (ha i d) ?_;dsimp[dJ];exact zE C hk (hN i d).2 (by have:=hN i d;lia) g
 ·by_cases z:i=j
  ·subst z;exact c
  ·have r:=so i j (bK _) () b;exact(r.trans<|P.of_lt c).lt (hN i ()).1
 ·exact .inl (h2 i a)
 ·exact P.yu (h3 i a b) (hN i b).1
end
abbrev zA:Array Keyed->Array Keyed->StateT SortSt Sem (Array Keyed):=sortPriv% PySem.Builtin.mergeLo
abbrev zQ:Array Keyed->Array Keyed->StateT SortSt Sem (Array Keyed):=sortPriv% PySem.Builtin.mergeHi
abbrev yo:Nat->StateT SortSt Sem Unit:=sortPriv% PySem.Builtin.setMinGallop
def Rh(m:Nat):yo m=modify λs=>SortSt.mk' (kindOf s) (arrOf s) (pendingOf s) m (failedOf s):=rfl
def F6(a b:Array Keyed):zA a b=(do
 rule "list.sort.merge-lo"
 let all_:=a.size+b.size
 let end1 (acc:Array Keyed) (p q:Nat):=acc++a.extract p a.size++b.extract q b.size
 let end2 (acc:Array Keyed) (p q:Nat):=acc++b.extract q b.size++a.extract p a.size
 let mut acc:Array Keyed:=#[<- elem' b 0]
 let mut p:=0
 let mut q:=1
 if q == b.size then return end1 acc p q
 if p+1 == a.size then return end2 acc p q
 let mut mg:=gallopOf (<- get)
 for _ in [0:all_] do
  let mut ca:=0
  let mut cb:=0
  for _ in [0:all_] do
   let some won <- lt' (<- elem' b q) (<- elem' a p)|return end1 acc p q
   if won then
    acc:=acc.push<|<- elem' b q;q:=q+1;cb:=cb+1;ca:=0
    if q == b.size then return end1 acc p q
    if cb>=mg then break
   else
    acc:=acc.push<|<- elem' a p;p:=p+1;ca:=ca+1;cb:=0
    if p+1 == a.size then return end2 acc p q
    if ca>=mg then break
  rule "list.sort.gallop"
  mg:=mg+1
  for _ in [0:all_] do
   if mg>1 then mg:=mg-1
   yo mg
   let some k <- nh false (<- elem' b q) a p (a.size-p) 0|return end1 acc p q
   ca:=k
   if k>0 then
    acc:=acc++a.extract p (p+k);p:=p+k
    if p+1 == a.size then return end2 acc p q
    if p == a.size then return end1 acc p q
   acc:=acc.push<|<- elem' b q;q:=q+1
   if q == b.size then return end1 acc p q
   let some k <- nh true (<- elem' a p) b q (b.size-q) 0|return end1 acc p q
   cb:=k
   if k>0 then
    acc:=acc++b.extract q (q+k);q:=q+k
    if q == b.size then return end1 acc p q
   acc:=acc.push<|<- elem' a p;p:=p+1
   if p+1 == a.size then return end2 acc p q
   if ca<7 && cb<7 then break
  mg:=mg+1
  yo mg
 unsupported "internal:list.sort.merge-bound"):=rfl
section
variable {o:Ord}{N:Nat}{f:Nat->Keyed}{A B hs:am}{ia ib:Nat}
abbrev fa (f:Nat->Keyed)(l:am):Array Keyed:=(l.map f).toArray
def nH(l:am):(fa f l).size=l.length:=by unfold fa;rw[aZ,aG]
def N8(l:am)(i:Nat):(fa f l)[i]?=(l[i]?).map f:=by unfold fa;rw[eV,aX]
def nq{l:am}{i x:Nat}(h:l[i]?=some x):(fa f l)[i]?=some (f x):=by rw[N8,h];rfl
def xD(l:am)(x:Nat):(fa f l).push (f x)=fa f (l++[x]):=by
 unfold fa;rw[List.push_toArray,bC];rfl
def qF(l m:am):fa f l++fa f m=fa f (l++m):=by
 unfold fa;rw[List.append_toArray,bC]
def xO(l:am)(i j:Nat):(fa f l).extract i j=fa f ((l.drop i).take<|j-i):=by
 unfold fa;rw[List.extract_toArray,List.extract_eq_take_drop,map_take,map_drop]
def yS(l:am)(i:Nat):(fa f l).extract i l.length=fa f (l.drop i):=by
 rw[xO,List.take_of_length_le<|by rw[eF];lia]
structure Ab (o:Ord)(N:Nat)(A B:am):Prop where
 sa:A.Pairwise (P o)
 sb:B.Pairwise (P o)
 lt:∀x∈A,∀y∈B,x<y
 nb:∀y∈B,y<N
 na:∀x∈A,x<N
structure Mg (o:Ord)(A B hs:am)(ia ib:Nat):Prop where
 la:ia<=A.length
 lb:ib<=B.length
 len:hs.length=ia+ib
 so:hs.Pairwise (P o)
 mem:∀x∈hs,x∈A\/x∈B
 ua:∀x∈hs,∀y∈A.drop ia,P o x y
 ub:∀x∈hs,∀y∈B.drop ib,P o x y
abbrev Res (o:Ord)(f:Nat->Keyed)(A B:am)(out:Array Keyed):Prop:=∃hs:am,out=fa f hs/\hs.length=A.length+B.length/\hs.Pairwise (P o)/\∀x∈hs,x∈A\/x∈B
def uI{l:am}(h:l.Pairwise<|P o){i j x:Nat}(hx:l[i]?=some x)(hy:l[j]?=some y)(hij:i<j):P o x y:=by
 obtain⟨h1,e1⟩:=aJ.mp hx;obtain⟨h2,e2⟩:=aJ.mp hy;rw[<- e1,<- e2];exact cA.mp h i j h1 h2 hij
def w_{l:am}{y:Nat}(h:y∈l.drop i):∃j,i<=j/\l[j]?=some y:=by
 obtain⟨k,d⟩:=gf h;rw[ja]at d;exact⟨i+k,(),d⟩
def Mg.yp(ab:Ab o N A B)(m:Mg o A B hs ia ib){x:Nat}(hx:A[ia]?=some x)(h:∀y∈B.drop ib,P o x y):Mg o A B (hs++[x]) (ia+1) ib:=by
 obtain⟨h1,e1⟩:=aJ.mp hx;have g:A.drop ia=x::A.drop (ia+1):=by rw[<- e1];exact dc h1
 refine⟨(),m.lb,by rw[aW,m.len];show ia+ib+1=_;lia,?_,λz f=>?_,λz f y hy=>?_,λz f y hy=>?_⟩
 ·rw[cC];exact⟨m.so,cP ..,λa ha b hb=>by rw[aP.mp hb];exact m.ua a ha x<|by rw[g];exact aO ..⟩
 ·rcases bq.mp f with d|d
  ·exact m.mem z d
  ·rw[aP.mp d];exact .inl<|aS hx
 ·rcases bq.mp f with d|d
  ·exact m.ua z d y (by rw[g];exact aQ _ hy)
  ·rw[aP.mp d];obtain⟨j,p,k⟩:=w_ hy;exact uI ab.sa hx k ()
 ·rcases bq.mp f with d|d
  ·exact m.ub z d y hy
  ·rw[aP.mp d];exact h y hy
def Ab.zh(ab:Ab o N A B)(m:Mg o A B hs ia ib){x:Nat}(hx:B[ib]?=some x)(h:∀y∈A.drop ia,P o x y):Mg o A B (hs++[x]) ia (ib+1):=by
 obtain⟨h1,e1⟩:=aJ.mp hx;have g:B.drop ib=x::B.drop (ib+1):=by rw[<- e1];exact dc h1
 refine⟨m.la,(),by rw[aW,m.len];rfl,?_,λz f=>?_,λz f y hy=>?_,λz f y hy=>?_⟩
 ·rw[cC];exact⟨m.so,cP ..,λa ha b hb=>by rw[aP.mp hb];exact m.ub a ha x<|by rw[g];exact aO ..⟩
 ·rcases bq.mp f with d|d
  ·exact m.mem z d
  ·rw[aP.mp d];exact .inr<|aS hx
 ·rcases bq.mp f with d|d
  ·exact m.ua z d y hy
  ·rw[aP.mp d];exact h y hy
 ·rcases bq.mp f with d|d
  ·exact m.ub z d y (by rw[g];exact aQ _ hy)
  ·rw[aP.mp d];obtain⟨j,p,k⟩:=w_ hy;exact uI ab.sb hx k ()
def sL{l:am}(h:l.Pairwise<|P o){i x:Nat}(hx:l[i]?=some x)(hxy:P o y x):∀z∈l.drop i,P o y z:=λz f=>by
 obtain⟨j,g,d⟩:=w_ f;by_cases c:j=i
 ·subst c;rw[hx]at d;cases d;exact hxy
 ·exact hxy.trans<|uI h hx d ()
def take_snoc{l:am}{k x:Nat}(h:l[i+k]?=some x):(l.drop i).take (k+1)=(l.drop i).take k++[x]:=by
 have h':(l.drop i)[k]?=some x:=by rw[ja];exact h
 obtain⟨h1,e1⟩:=aJ.mp h';rw[fq h1,e1]
theorem Mg.zo(ab:Ab o N A B)(m:Mg o A B hs ia ib)(hy:B[ib]?=some y):∀k,ia+k<=A.length->(∀i x,i<k->A[ia+i]?=some x->P o x y)->Mg o A B (hs++(A.drop ia).take k) (ia+k) ib
 | 0,_,_=>by rw[cW,b8];exact m
 | k+1,hk,h=>by
  have f:=Mg.zo ab m hy k () λi x g=>h i x ();have d:A[ia+k]?=some (A[ia+k]'()):=aI _;rw[take_snoc d,<- bX];exact f.yp ab d<|sL ab.sb hy<|h k _ () d
theorem Mg.Ah(ab:Ab o N A B)(m:Mg o A B hs ia ib)(hy:A[ia]?=some y):∀k,ib+k<=B.length->(∀i x,i<k->B[ib+i]?=some x->P o x y)->Mg o A B (hs++(B.drop ib).take k) ia (ib+k)
 | 0,_,_=>by rw[cW,b8];exact m
 | k+1,hk,h=>by
  have f:=Mg.Ah ab m hy k () λi x g=>h i x ();have d:B[ib+k]?=some (B[ib+k]'()):=aI _;rw[take_snoc d,<- bX];exact ab.zh f d<|sL ab.sa hy<|h k _ () d
def ze{l:am}(h:l.Pairwise<|P o)(i:Nat):(l.drop i).Pairwise (P o):=h.sublist<|List.drop_sublist ..
def Mg.fin(ab:Ab o N A B)(m:Mg o A B hs ia ib)(h:∀x∈A.drop ia,∀y∈B.drop ib,P o x y):Res o f A B (fa f hs++(fa f A).extract ia A.length++(fa f B).extract ib B.length):=by
 rw[yS,yS,qF,qF];have la:=m.la;have lb:=m.lb;refine⟨_,rfl,by rw[aW,aW,m.len,eF,eF];lia,?_,λx d=>?_⟩
 ·rw[cC,cC];refine⟨⟨m.so,ze ab.sa _,m.ua⟩,ze ab.sb _,λx d y hy=>?_⟩
  rcases bq.mp d with z|z
  ·exact m.ub x z y hy
  ·exact h x z y hy
 ·rcases bq.mp d with z|z
  ·rcases bq.mp z with z|z
   ·exact m.mem x z
   ·exact .inl<|dW z
  ·exact .inr<|dW z
def Mg.Wc(ab:Ab o N A B)(m:Mg o A B hs ia ib)(h:∀x∈A.drop ia,∀y∈B.drop ib,P o y x):Res o f A B (fa f hs++(fa f B).extract ib B.length++(fa f A).extract ia A.length):=by
 rw[yS,yS,qF,qF];have la:=m.la;have lb:=m.lb;refine⟨_,rfl,by rw[aW,aW,m.len,eF,eF];omega,?_,λx d=>?_⟩
 ·rw[cC,cC];refine⟨⟨m.so,ze ab.sb _,m.ub⟩,ze ab.sa _,λx d y hy=>?_⟩
  rcases bq.mp d with z|z
  ·exact m.ua x z y hy
  ·exact h y hy x z
 ·rcases bq.mp d with z|z
  ·rcases bq.mp z with z|z
   ·exact m.mem x z
   ·exact .inr<|dW z
  ·exact .inl<|dW z
def drop_nil{l:am}(h:l.length<=i):l.drop i=[]:=List.drop_eq_nil_of_le h
def IU{l:am}(h:l.Pairwise<|P o)(b n:Nat)(hn:b+n<=l.length):So o (λi=>l.getD (b+i) 0) 0 n:=λi j _ d f=>
 uI h (i:=b+i) (j:=b+j) (by show _=some (l.getD (b+i) 0);rw[aL,aI<|show b+i<l.length by lia];rfl) (by show _=some (l.getD (b+j) 0);rw[aL,aI<|show b+j<l.length by lia];rfl) ()
def getD_at{l:am}{i:Nat}(h:i<l.length):l[i]?=some (l.getD i 0):=by
 rw[aL,aI h];rfl
end
structure Sm (st st':SortSt):Prop where
 a:arrOf st'=arrOf st
 k:kindOf st'=kindOf st
 p:pendingOf st'=pendingOf st
 f:failedOf st'=failedOf st
def Sm.refl{st:SortSt}:Sm st st:=⟨rfl,rfl,rfl,rfl⟩
def Sm.trans{st:SortSt}(a:Sm st st')(b:Sm st' st''):Sm st st'':=⟨b.a.trans a.a,b.k.trans a.k,b.p.trans a.p,b.f.trans a.f⟩
meta abbrev G:=Option (Array Keyed)×Array Keyed×Nat×Nat×Nat×Nat×Nat
abbrev T3 (a b out:Array Keyed)(ia ib mg ac bc:Nat):StateT SortSt Sem (ForInStep G):=do
 let x <- elem' a ia
 if (ia+1+1 == a.size)=true then pure (ForInStep.done (some<|out.push x++b.extract ib b.size++a.extract (ia+1) a.size,out.push x,ia+1,ib,mg,ac,bc))
 else if (decide (ac<7) && decide (bc<7))=true then pure (ForInStep.done (none,out.push x,ia+1,ib,mg,ac,bc))
 else pure (ForInStep.yield (none,out.push x,ia+1,ib,mg,ac,bc))
abbrev T2 (a b out:Array Keyed)(ia ib mg ac bc:Nat):StateT SortSt Sem (ForInStep G):=do
 let x <- elem' b ib
 if (ib+1 == b.size)=true then pure (ForInStep.done (some<|out.push x++a.extract ia a.size++b.extract (ib+1) b.size,out.push x,ia,ib+1,mg,ac,bc))
 else
  let y <- elem' a ia
  let r <- nh true y b (ib+1) (b.size-(ib+1)) 0
  match r with
  | some k=>
   if k>0 then
    if (ib+1+k == b.size)=true then pure (ForInStep.done (some<|out.push x++b.extract (ib+1) (ib+1+k)++a.extract ia a.size++b.extract (ib+1+k) b.size,out.push x++b.extract (ib+1) (ib+1+k),ia,ib+1+k,mg,ac,k))
    else T3 a b (out.push x++b.extract (ib+1) (ib+1+k)) ia (ib+1+k) mg ac k
   else T3 a b (out.push x) ia (ib+1) mg ac k
  | _=>pure<|ForInStep.done (some<|out.push x++a.extract ia a.size++b.extract (ib+1) b.size,out.push x,ia,ib+1,mg,ac,bc)
abbrev T1 (a b out:Array Keyed)(ia ib mg ac bc:Nat):StateT SortSt Sem (ForInStep G):=do
 yo mg
 let x <- elem' b ib
 let r <- nh false x a ia (a.size-ia) 0
 match r with
 | some k=>
  if k>0 then
   if (ia+k+1 == a.size)=true then pure (ForInStep.done (some<|out++a.extract ia (ia+k)++b.extract ib b.size++a.extract (ia+k) a.size,out++a.extract ia (ia+k),ia+k,ib,mg,k,bc))
   else if (ia+k == a.size)=true then pure (ForInStep.done (some<|out++a.extract ia (ia+k)++a.extract (ia+k) a.size++b.extract ib b.size,out++a.extract ia (ia+k),ia+k,ib,mg,k,bc))
   else T2 a b (out++a.extract ia (ia+k)) (ia+k) ib mg k bc
  else T2 a b out ia ib mg k bc
 | _=>pure<|ForInStep.done (some<|out++a.extract ia a.size++b.extract ib b.size,out,ia,ib,mg,ac,bc)
section
variable {prog:aj}{w:ah}{A:aA}{E:af->aC->Prop}{s:aC}{o:Ord}{N:Nat}{f:Nat->Keyed}{kd:SortKind}{st st0:SortSt}{X Y hs:am}{ia ib:Nat}
def xg(h:Sm st0 st){Q:Unit->SortSt->Prop}(q:∀st',Sm st0 st'->Q Unit.unit st'):wpS (model prog w) A E s (yo m) Q st:=by
 rw[Rh];exact fM<|q _<|h.trans ⟨rfl,rfl,rfl,rfl⟩
abbrev On (o:Ord)(f:Nat->Keyed)(X Y:am)(n:Nat)(hs:am)(ia ib:Nat):Prop:=Mg o X Y hs ia ib/\ia+1<X.length/\ib<Y.length/\n<=ia+ib
abbrev G2 (o:Ord)(f:Nat->Keyed)(X Y:am)(n:Nat)(st0:SortSt):ForInStep G->SortSt->Prop:=λr j=>Sm st0 j/\match r with
 | .done c=>(∃r z,c=(some r,z)/\Res o f X Y r)\/∃hs ia ib mg d g,c=(none,fa f hs,ia,ib,mg,d,g)/\On o f X Y n hs ia ib
 | .yield c=>∃hs ia ib mg d g,c=(none,fa f hs,ia,ib,mg,d,g)/\On o f X Y n hs ia ib
abbrev Top (o:Ord)(X Y:am):Prop:=∀i x,X[i]?=some x->i+1=X.length->∀y∈Y,P o y x
def un3{α β γ κ:Type}{g:α->κ}{O:α->β->γ->Prop}{T:κ->Prop}(k:∀a b c,O a b c->T (g a)):∀q,(∃a b c,q=g a/\O a b c)->T q:=by
 rintro _ ⟨a,b,c,rfl,h⟩;exact k a b c h
def un4{α β γ δ κ:Type}{S:Prop}{g:α->β->γ->δ->κ}{O:α->β->γ->δ->Prop}{T:κ->Prop}(k:S->∀a b c d,O a b c d->T (g a b c d)):∀q,(S/\∃a b c d,q=g a b c d/\O a b c d)->T q:=by
 rintro q ⟨s,a,b,c,d,rfl,o⟩;exact k s a b c d o
def un5{α β γ δ ε κ:Type}{S:Prop}{g:α->β->γ->δ->ε->κ}{O:α->β->γ->δ->ε->Prop}{T:κ->Prop}(k:S->∀a b c d e,O a b c d e->T (g a b c d e)):∀q,(S/\∃a b c d e,q=g a b c d e/\O a b c d e)->T q:=by
 rintro q ⟨s,a,b,c,d,e,rfl,o⟩;exact k s a b c d e o
def un6{α β γ δ ε ζ κ:Type}{S:Prop}{g:α->β->γ->δ->ε->ζ->κ}{O:α->β->γ->δ->ε->ζ->Prop}{T:κ->Prop}(k:S->∀a b c d e f,O a b c d e f->T (g a b c d e f)):∀q,(S/\∃a b c d e f,q=g a b c d e f/\O a b c d e f)->T q:=by
 rintro q ⟨s,a,b,c,d,e,f,rfl,o⟩;exact k s a b c d e f o
def uo5{α β γ δ ε κ ρ σ:Type}{S:Prop}{j:ρ->σ->κ}{R:ρ->Prop}{g:α->β->γ->δ->ε->κ}{O:α->β->γ->δ->ε->Prop}{T:κ->Prop}(k1:S->∀r z,R r->T (j r z))(k:S->∀a b c d e,O a b c d e->T (g a b c d e)):∀q,(S/\((∃r z,q=j r z/\R r)\/∃a b c d e,q=g a b c d e/\O a b c d e))->T q:=by
 rintro q ⟨s,⟨r,z,rfl,f⟩|⟨a,b,c,d,e,rfl,o⟩⟩
 ·exact k1 s r z f
 ·exact k s a b c d e o
def uo6{α β γ δ ε ζ κ ρ σ:Type}{S:Prop}{j:ρ->σ->κ}{R:ρ->Prop}{g:α->β->γ->δ->ε->ζ->κ}{O:α->β->γ->δ->ε->ζ->Prop}{T:κ->Prop}(k1:S->∀r z,R r->T (j r z))(k:S->∀a b c d e f,O a b c d e f->T (g a b c d e f)):∀q,(S/\((∃r z,q=j r z/\R r)\/∃a b c d e f,q=g a b c d e f/\O a b c d e f))->T q:=by
 rintro q ⟨s,⟨r,z,rfl,p⟩|⟨a,b,c,d,e,f,rfl,o⟩⟩
 ·exact k1 s r z p
 ·exact k s a b c d e f o
def wZ(ab:Ab o N X Y)(tp:Top o X Y)(m:Mg o X Y hs ia ib)(h:ia+1=X.length):Res o f X Y (fa f hs++(fa f Y).extract ib Y.length++(fa f X).extract ia X.length):=
 m.Wc ab λx g y hy=>by
  obtain⟨j,k,d⟩:=w_ g;have:=(aJ.mp d).1;exact tp j x d () y<|dW hy
def UE(ab:Ab o N X Y)(tp:Top o X Y)(hm:Sm st0 st){n mg x:Nat}(m:Mg o X Y hs ia ib)(ha:ia+1<X.length)(hb:ib<Y.length)(hn:n<=ia+ib)(hx:X[ia]?=some x)(hy:Y[ib]?=some y)(hxy:P o x y) :
  wpS (model prog w) A E s (T3 (fa f X) (fa f Y) (fa f hs) ia ib mg ac bc) (G2 o f X Y n st0) st:=by
 unfold T3;rw[nH,nH];refine a_<|ki (nq hx) ?_;have d:=m.yp ab hx<|sL ab.sb hy hxy;rw[xD];by_cases c:ia+1+1=X.length
 ·rw[aN<|by rw[c];exact bT _];exact br ⟨hm,.inl ⟨_,_,rfl,wZ ab tp d c⟩⟩
 ·rw[aM<|by simpa using c];by_cases c2:(decide (ac<7) && decide (bc<7))=true
  ·rw[aN c2];exact br ⟨hm,.inr ⟨_,_,_,_,_,_,rfl,d,(),hb,()⟩⟩
  ·rw[aM c2];exact br ⟨hm,⟨_,_,_,_,_,_,rfl,d,(),hb,()⟩⟩
def UR(C:BC prog w A s o N f kd)(hk:kindOf st=kd)(ab:Ab o N X Y)(tp:Top o X Y)(hm:Sm st0 st){n mg x:Nat}(m:Mg o X Y hs ia ib)(ha:ia+1<X.length)(hb:ib<Y.length)(hn:n<=ia+ib)(hx:X[ia]?=some x)(hy:Y[ib]?=some y)(hxy:P o y x) :
  wpS (model prog w) A E s (T2 (fa f X) (fa f Y) (fa f hs) ia ib mg ac bc) (G2 o f X Y n st0) st:=by
 unfold T2;rw[nH,nH];refine a_<|ki (nq hy) ?_;have m2:=ab.zh m hy<|sL ab.sa hx hxy;rw[xD];by_cases c:ib+1=Y.length
 ·rw[aN<|by rw[c];exact bT _];exact br ⟨hm,.inl ⟨_,_,rfl,m2.fin ab λx _ y hy=>by rw[drop_nil ()]at hy;cases hy⟩⟩
 ·rw[aM<|by simpa using c];refine a_<|ki (nq hx) ?_;refine a_ (OU C hk (h:=λi=>Y.getD (ib+1+i) 0) (λi d=>nq<|getD_at ()) (λi d=>?_) (IU ab.sb _ _ ()) () λk t q g=>?_)
  ·have:=aS<|getD_at (l:=Y) (i:=ib+1+i) ();exact⟨ab.lt x (aS hx) _ this,ab.nb _ this⟩
  ·dsimp only;have j:=m2.Ah ab hx k () λi z d p=>by
    have:=q i d;rw[aL,p]at this;exact this
   by_cases c2:k>0
   ·rw[aN c2,xO,show ib+1+k-(ib+1)=k by lia,qF];by_cases c3:ib+1+k=Y.length
    ·rw[aN<|by rw[c3];exact bT _];exact br ⟨hm,.inl ⟨_,_,rfl,j.fin ab λx _ y hy=>by rw[drop_nil ()]at hy;cases hy⟩⟩
    ·rw[aM<|by simpa using c3];exact UE ab tp hm j ha () () hx (getD_at ())<|g k (aK _) ()
   ·rw[aM c2];have:k=0:=()
    subst this;exact UE ab tp hm m2 ha () () hx (getD_at ())<|g 0 (aK _) ()
def Y9(C:BC prog w A s o N f kd)(hk:kindOf st0=kd)(ab:Ab o N X Y)(tp:Top o X Y)(hm:Sm st0 st){n mg:Nat}(m:Mg o X Y hs ia ib)(ha:ia+1<X.length)(hb:ib<Y.length)(hn:n<=ia+ib) :
  wpS (model prog w) A E s (T1 (fa f X) (fa f Y) (fa f hs) ia ib mg ac bc) (G2 o f X Y n st0) st:=by
 unfold T1;rw[nH,nH];refine a_<|xg hm λF d=>?_;have hy:=getD_at (l:=Y) (i:=ib) hb;have t:=aS hy;refine a_<|ki (nq hy) ?_;refine a_ (NC C (by rw[d.k];exact hk) (h:=λi=>X.getD (ia+i) 0) (λi g=>nq<|getD_at ()) (λi g=>ab.lt _ (aS<|getD_at (l:=X) (i:=ia+i) ()) _ t) (ab.nb _ t) (IU ab.sa _ _ ()) () λk K J p=>?_);dsimp only;have j:=m.zo ab hy k () λi z g G=>by
  have:=J i g;rw[aL,G]at this;exact this
 by_cases c2:k>0
 ·rw[aN c2,xO,show ia+k-ia=k by lia,qF];by_cases c3:ia+k+1=X.length
  ·rw[aN<|by rw[c3];exact bT _];exact br ⟨d,.inl ⟨_,_,rfl,wZ ab tp j c3⟩⟩
  ·rw[aM<|by simpa using c3];by_cases q:ia+k=X.length
   ·rw[aN<|by rw[q];exact bT _];exact br ⟨d,.inl ⟨_,_,rfl,j.fin ab λx B y _=>by rw[drop_nil ()]at B;cases B⟩⟩
   ·rw[aM<|by simpa using q];exact UR C (by rw[d.k];exact hk) ab tp d j () hb () (getD_at ()) hy<|p k (aK _) ()
 ·rw[aM c2];have:k=0:=()
  subst this;exact UR C (by rw[d.k];exact hk) ab tp d m ha hb hn (getD_at ()) hy<|p 0 (aK _) ()
def aaf(C:BC prog w A s o N f kd)(hk:kindOf st=kd)(ab:Ab o N X Y)(tp:Top o X Y)(h1:1<=X.length)(hy0:Y[0]?=some y0)(h0:∀x∈X,P o y0 x)
  {Q:Array Keyed->SortSt->Prop} (q:∀out st',Sm st st'->Res o f X Y out->Q out st'):wpS (model prog w) A E s (zA (fa f X)<|fa f Y) Q st:=by
 rw[F6];refine a_<|wpS_lift<|d8 ⟨rfl,?_⟩;dsimp only;rw[nH,nH];have hY:=(aJ.mp hy0).1;refine a_<|ki (nq hy0) ?_;have m0:Mg o X Y [] 0 0:=⟨bK _,bK _,rfl,List.Pairwise.nil,(nofun),(nofun),(nofun)⟩;have m1:Mg o X Y [y0] 0 1:=ab.zh m0 hy0 h0;have e1:(#[f y0]:Array Keyed)=fa f [y0]:=rfl;rw[e1];by_cases c:1=Y.length
 ·rw[aN<|by rw[<- c];rfl];exact br (q _ _ Sm.refl<|m1.fin ab λx _ y hy=>by rw[drop_nil ()]at hy;cases hy)
 ·rw[aM<|by simpa using c];by_cases c2:0+1=X.length
  ·rw[aN<|by rw[<- c2];rfl];exact br (q _ _ Sm.refl<|wZ ab tp m1 c2)
  ·rw[aM<|by simpa using c2];refine a_<|gY ?_;refine a_ (d_ (cN (I:=λx c st'=>Sm st st'/\∃hs ia ib mg,c=(none,fa f hs,ia,ib,mg)/\On o f X Y (x+1) hs ia ib)
    (Q:=λc st'=>Sm st st'/\∃r z,c=(some r,z)/\Res o f X Y r) ?step ?fin ⟨Sm.refl,_,_,_,_,rfl,m1,(),(),aK _⟩) ?post)
   case post=>
    rintro c st' ⟨W,r,z,rfl,L⟩;exact br<|q _ _ W L
   case fin=>
    rintro c st' ⟨W,hs,ia,ib,mg,rfl,m,B,t,J⟩;exfalso
    lia
   case step=>
    intro x c st' _ hx G;revert G;revert c;refine un4 λW hs ia ib mg g=>?_;have m:=g.1;have B:=g.2.1;have t:=g.2.2.1;have J:=g.2.2.2;clear g;dsimp only;refine a_ (d_ (cN (I:=λU c d=>Sm st d/\∃hs ia ib ac bc,c=(none,fa f hs,ia,ib,ac,bc)/\On o f X Y (x+1+min U 1) hs ia ib)
     (Q:=λc d=>Sm st d/\((∃r z,c=(some r,z)/\Res o f X Y r)\/∃hs ia ib ac bc,c=(none,fa f hs,ia,ib,ac,bc)/\On o f X Y (x+1+1) hs ia ib)) ?istep ?ifin ⟨W,_,_,_,_,_,rfl,m,B,t,J⟩) ?ipost)
    case ifin=>
     rintro c d ⟨j,hs,ia,ib,ac,bc,rfl,m,B,t,J⟩;exact⟨j,.inr ⟨_,_,_,_,_,rfl,m,B,t,()⟩⟩
    case istep=>
     intro U c d _ hx' G;revert G;revert c;refine un5 λj hs ia ib ac bc g=>?_;have m:=g.1;have B:=g.2.1;have t:=g.2.2.1;have J:=g.2.2.2;clear g;dsimp only;have hy:=getD_at (l:=Y) (i:=ib) t;have F:=getD_at (l:=X) (i:=ia) ();have yB:=aS hy;have xA:=aS F;have lt:=ab.lt _ xA _ yB;refine a_<|ki (nq hy) ?_;refine a_<|ki (nq F) ?_;refine a_ (zE C (by rw[j.k];exact hk) (ab.nb _ yB) (ab.na _ xA) ?_)
     cases hl:o.lt (Y.getD ib 0) (X.getD ia 0)
     ·dsimp[bD,cF];refine a_<|ki (nq F) ?_;have M:=m.yp ab F<|sL ab.sb hy<|P.yu hl lt;rw[xD];by_cases c3:ia+1+1=X.length
      ·rw[aN<|by rw[c3];exact bT _];exact br ⟨j,.inl ⟨_,_,rfl,wZ ab tp M c3⟩⟩
      ·rw[aM<|by simpa using c3];by_cases T:ac+1>=mg
       ·rw[aN T];exact br ⟨j,.inr ⟨_,_,_,_,_,rfl,M,(),t,()⟩⟩
       ·rw[aM T];exact br ⟨j,_,_,_,_,_,rfl,M,(),t,()⟩
     ·dsimp[dJ];refine a_<|ki (nq hy) ?_;have M:=ab.zh m hy<|sL ab.sa F<|P.of_lt hl;rw[xD];by_cases c3:ib+1=Y.length
      ·rw[aN<|by rw[c3];exact bT _];exact br ⟨j,.inl ⟨_,_,rfl,M.fin ab λx _ y hy=>by rw[drop_nil ()]at hy;cases hy⟩⟩
      ·rw[aM<|by simpa using c3];by_cases T:bc+1>=mg
       ·rw[aN T];exact br ⟨j,.inr ⟨_,_,_,_,_,rfl,M,B,(),()⟩⟩
       ·rw[aM T];exact br ⟨j,_,_,_,_,_,rfl,M,B,(),()⟩
    case ipost=>
     intro c d G;revert G;revert c;refine uo5 (λj r z L=>?_) λj hs ia ib ac bc g=>?_
     ·dsimp only;exact br ⟨j,r,_,rfl,L⟩
     ·have m:=g.1;have B:=g.2.1;have t:=g.2.2.1;have J:=g.2.2.2;clear g;dsimp only;refine a_<|wpS_lift<|d8 ⟨rfl,?_⟩;refine a_ (d_ (cN (I:=λU c d=>Sm st d/\∃hs ia ib mg ac bc,c=(none,fa f hs,ia,ib,mg,ac,bc)/\On o f X Y (x+1+1) hs ia ib)
       (Q:=λc d=>Sm st d/\((∃r z,c=(some r,z)/\Res o f X Y r)\/∃hs ia ib mg ac bc,c=(none,fa f hs,ia,ib,mg,ac,bc)/\On o f X Y (x+1+1) hs ia ib)) ?jstep ?jfin ⟨j,_,_,_,_,_,_,rfl,m,B,t,J⟩) ?jpost)
      case jfin=>
       rintro c O ⟨p,G⟩;exact⟨p,.inr G⟩
      case jstep=>
       intro U c O _ hx' G;revert G;revert c;refine un6 λp hs ia ib mg ac bc g=>?_;have m:=g.1;have B:=g.2.1;have t:=g.2.2.1;have J:=g.2.2.2;clear g;dsimp only;have V:=λmg=>Y9 (n:=x+1+1) (mg:=mg) (ac:=ac) (bc:=bc) (E:=E) C hk ab tp p m B t J;unfold T1 T2 T3 at V;rw[nH,nH]at V;refine d_ (Q:=G2 o f X Y (x+1+1) st) ?_ ?_
       ·by_cases c3:mg>1
        ·rw[aN c3];exact V (mg-1)
        ·rw[aM c3];exact V mg
       ·rintro r Z ⟨K,L⟩
        cases r with
        | done c=>exact⟨K,L⟩
        | yield c=>exact⟨K,L⟩
      case jpost=>
       intro c O G;revert G;revert c;refine uo6 (λp r z L=>?_) λp hs ia ib mg ac bc g=>?_
       ·dsimp only;exact br ⟨p,r,_,rfl,L⟩
       ·have m:=g.1;have B:=g.2.1;have t:=g.2.2.1;have J:=g.2.2.2;clear g;dsimp only;refine a_<|xg p λZ K=>?_;exact br ⟨K,_,_,_,_,rfl,m,B,t,J⟩
end
def GY(a b:Array Keyed):zQ a b=(do
 rule "list.sort.merge-hi"
 let all_:=a.size+b.size
 let end1 (acc:Array Keyed) (p q:Nat):=a.extract 0 p++b.extract 0 q++acc.reverse
 let end2 (acc:Array Keyed) (p q:Nat):=b.extract 0 q++a.extract 0 p++acc.reverse
 let mut p:=a.size-1
 let mut q:=b.size
 let mut acc:Array Keyed:=#[<- elem' a p]
 if p == 0 then return end1 acc p q
 if q == 1 then return end2 acc p q
 let mut mg:=gallopOf (<- get)
 for _ in [0:all_] do
  let mut ca:=0
  let mut cb:=0
  for _ in [0:all_] do
   let some won <- lt' (<- elem' b (q-1)) (<- elem' a (p-1))|return end1 acc p q
   if won then
    p:=p-1;acc:=acc.push<|<- elem' a p;ca:=ca+1;cb:=0
    if p == 0 then return end1 acc p q
    if ca>=mg then break
   else
    q:=q-1;acc:=acc.push<|<- elem' b q;cb:=cb+1;ca:=0
    if q == 1 then return end2 acc p q
    if cb>=mg then break
  rule "list.sort.gallop"
  mg:=mg+1
  for _ in [0:all_] do
   if mg>1 then mg:=mg-1
   yo mg
   let some t <- nh false (<- elem' b (q-1)) a 0 p (p-1)|return end1 acc p q
   let k:=p-t
   ca:=k
   if k>0 then
    acc:=acc++(a.extract t p).reverse;p:=t
    if p == 0 then return end1 acc p q
   q:=q-1;acc:=acc.push (<- elem' b q)
   if q == 1 then return end2 acc p q
   let some t <- nh true (<- elem' a (p-1)) b 0 q (q-1)|return end1 acc p q
   let k:=q-t
   cb:=k
   if k>0 then
    acc:=acc++(b.extract t q).reverse;q:=t
    if q == 1 then return end2 acc p q
    if q == 0 then return end1 acc p q
   p:=p-1;acc:=acc.push (<- elem' a p)
   if p == 0 then return end1 acc p q
   if ca<7 && cb<7 then break
  mg:=mg+1
  yo mg
 unsupported "internal:list.sort.merge-bound"):=rfl
section
variable {o:Ord}{N:Nat}{f:Nat->Keyed}{A B ts:am}{na nb:Nat}
def QN(l:am):(fa f l).reverse=fa f l.reverse:=by
 unfold fa;rw[List.reverse_toArray,List.map_reverse]
def zf(l:am)(i:Nat):(fa f l).extract 0 i=fa f (l.take i):=by
 rw[xO,List.drop_zero,Nat.sub_zero]
structure Mh (o:Ord)(A B ts:am)(na nb:Nat):Prop where
 la:na<=A.length
 lb:nb<=B.length
 len:ts.length+na+nb=A.length+B.length
 so:ts.Pairwise (P o)
 mem:∀x∈ts,x∈A\/x∈B
 ua:∀y∈A.take na,∀x∈ts,P o y x
 ub:∀y∈B.take nb,∀x∈ts,P o y x
def xH{l:am}{y:Nat}(h:y∈l.take i):∃j,j<i/\l[j]?=some y:=by
 obtain⟨k,d⟩:=gf h;have:=(aJ.mp d).1;rw[bP]at this;rw[gB ()]at d;exact⟨k,(),d⟩
def take_one{l:am}{i x:Nat}(h:l[i]?=some x):l.take (i+1)=l.take i++[x]:=by
 obtain⟨h1,e1⟩:=aJ.mp h;rw[fq h1,e1]
def Mh.yp(ab:Ab o N A B)(m:Mh o A B ts (na+1) nb){x:Nat}(hx:A[na]?=some x)(h:∀y∈B.take nb,P o y x):Mh o A B (x::ts) na nb:=by
 have la:=m.la;have len:=m.len;have k:=take_one hx;have g:x∈A.take (na+1):=by rw[k];exact bM _ (aP.mpr rfl)
 refine⟨(),m.lb,by rw[bG];lia,cj.mpr ⟨λy hy=>m.ua x g y hy,m.so⟩,λz d=>?_,λy hy z d=>?_,λy hy z d=>?_⟩
 ·rcases bF.mp d with rfl|f
  ·exact .inl (aS hx)
  ·exact m.mem z f
 ·rcases bF.mp d with rfl|f
  ·obtain⟨j,p,q⟩:=xH hy;exact uI ab.sa q hx p
  ·exact m.ua y (by rw[k];exact eZ _ hy) z f
 ·rcases bF.mp d with rfl|f
  ·exact h y hy
  ·exact m.ub y hy z f
def Mh.Qk(ab:Ab o N A B)(m:Mh o A B ts na<|nb+1){x:Nat}(hx:B[nb]?=some x)(h:∀y∈A.take na,P o y x):Mh o A B (x::ts) na nb:=by
 have lb:=m.lb;have len:=m.len;have k:=take_one hx;have g:x∈B.take (nb+1):=by rw[k];exact bM _ (aP.mpr rfl)
 refine⟨m.la,(),by rw[bG];lia,cj.mpr ⟨λy hy=>m.ub x g y hy,m.so⟩,λz d=>?_,λy hy z d=>?_,λy hy z d=>?_⟩
 ·rcases bF.mp d with rfl|f
  ·exact .inr (aS hx)
  ·exact m.mem z f
 ·rcases bF.mp d with rfl|f
  ·exact h y hy
  ·exact m.ua y hy z f
 ·rcases bF.mp d with rfl|f
  ·obtain⟨j,p,q⟩:=xH hy;exact uI ab.sb q hx p
  ·exact m.ub y (by rw[k];exact eZ _ hy) z f
def sG{l:am}(h:l.Pairwise<|P o){i x:Nat}(hx:l[i]?=some x)(hxy:P o x y):∀z∈l.take (i+1),P o z y:=λz f=>by
 obtain⟨j,g,d⟩:=xH f;by_cases c:j=i
 ·subst c;rw[hx]at d;cases d;exact hxy
 ·exact(uI h d hx ()).trans hxy
theorem Mh.zo(ab:Ab o N A B){mb:Nat}(hy:B[mb]?=some y):∀(k:Nat) {ts:am}{at_:Nat},Mh o A B ts (at_+k) (mb+1)->(∀i x,at_<=i->i<at_+k->A[i]?=some x->P o y x)->Mh o A B ((A.drop at_).take k++ts) at_ (mb+1)
 | 0,ts,at_,m,_=>by rw[cW];exact m
 | k+1,ts,at_,m,h=>by
  have la:=m.la;have d:A[at_+k]?=some (A[at_+k]'()):=aI _;have f:=Mh.yp ab (show Mh o A B ts (at_+k+1) (mb+1)from m) d<|sG ab.sb hy<|h _ _ () () d;have g:=Mh.zo ab hy k f λi x h1 h2=>h i x h1 ();rw[take_snoc d,bX];exact g
theorem Mh.Ah(ab:Ab o N A B){ma:Nat}(hy:A[ma]?=some y):∀(k:Nat) {ts:am}{at_:Nat},Mh o A B ts (ma+1) (at_+k)->(∀i x,at_<=i->i<at_+k->B[i]?=some x->P o y x)->Mh o A B ((B.drop at_).take k++ts) (ma+1) at_
 | 0,ts,at_,m,_=>by rw[cW];exact m
 | k+1,ts,at_,m,h=>by
  have lb:=m.lb;have d:B[at_+k]?=some (B[at_+k]'()):=aI _;have f:=Mh.Qk ab (show Mh o A B ts (ma+1) (at_+k+1)from m) d<|sG ab.sa hy<|h _ _ () () d;have g:=Mh.Ah ab hy k f λi x h1 h2=>h i x h1 ();rw[take_snoc d,bX];exact g
def yQ{l:am}(h:l.Pairwise<|P o)(i:Nat):(l.take i).Pairwise (P o):=h.sublist<|List.take_sublist ..
def Mh.fin(ab:Ab o N A B)(m:Mh o A B ts na nb)(h:∀x∈A.take na,∀y∈B.take nb,P o x y):Res o f A B ((fa f A).extract 0 na++(fa f B).extract 0 nb++fa f ts):=by
 rw[zf,zf,qF,qF];have la:=m.la;have lb:=m.lb;have len:=m.len;refine⟨_,rfl,by rw[aW,aW,bP,bP];lia,?_,λx d=>?_⟩
 ·rw[cC,cC];refine⟨⟨yQ ab.sa _,yQ ab.sb _,h⟩,m.so,λx d y hy=>?_⟩
  rcases bq.mp d with z|z
  ·exact m.ua x z y hy
  ·exact m.ub x z y hy
 ·rcases bq.mp d with z|z
  ·rcases bq.mp z with z|z
   ·exact .inl (dX z)
   ·exact .inr<|dX z
  ·exact m.mem x z
def Mh.Wc(ab:Ab o N A B)(m:Mh o A B ts na nb)(h:∀x∈A.take na,∀y∈B.take nb,P o y x):Res o f A B ((fa f B).extract 0 nb++(fa f A).extract 0 na++fa f ts):=by
 rw[zf,zf,qF,qF];have la:=m.la;have lb:=m.lb;have len:=m.len;refine⟨_,rfl,by rw[aW,aW,bP,bP];lia,?_,λx d=>?_⟩
 ·rw[cC,cC];refine⟨⟨yQ ab.sb _,yQ ab.sa _,λx d y hy=>h y hy x d⟩,m.so,λx d y hy=>?_⟩
  rcases bq.mp d with z|z
  ·exact m.ub x z y hy
  ·exact m.ua x z y hy
 ·rcases bq.mp d with z|z
  ·rcases bq.mp z with z|z
   ·exact .inr (dX z)
   ·exact .inl<|dX z
  ·exact m.mem x z
abbrev YV (o:Ord)(X Y:am):Prop:=∀y,Y[0]?=some y->∀x∈X,P o y x
def vn(ab:Ab o N A B)(bt:YV o A B)(m:Mh o A B ts na nb)(h:nb=1):Res o f A B ((fa f B).extract 0 nb++(fa f A).extract 0 na++fa f ts):=
 m.Wc ab λx d y hy=>by
  obtain⟨j,k,g⟩:=xH hy;have:j=0:=()
  subst this;exact bt y g x<|dX d
def Mh.Ff(ab:Ab o N A B)(m:Mh o A B ts na nb)(h:na=0\/nb=0):Res o f A B ((fa f A).extract 0 na++(fa f B).extract 0 nb++fa f ts):=
 m.fin ab λx d y hy=>by
  rcases h with rfl|rfl
  ·rw[cW]at d;cases d
  ·rw[cW]at hy;cases hy
def za(l:am)(x:Nat):(fa f l.reverse).push (f x)=fa f (x::l).reverse:=by rw[xD,List.reverse_cons]
def OP(l m:am):fa f l.reverse++(fa f m).reverse=fa f (m++l).reverse:=by rw[QN,qF,List.reverse_append]
def we(l:am):(fa f l.reverse).reverse=fa f l:=by rw[QN,List.reverse_reverse]
end
meta abbrev H:=Option (Array Keyed)×Nat×Nat×Array Keyed×Nat×Nat×Nat
abbrev U3 (a b out:Array Keyed)(na nb mg ac bc:Nat):StateT SortSt Sem (ForInStep H):=do
 let x <- elem' a (na-1)
 if (na-1 == 0)=true then pure (ForInStep.done (some<|a.extract 0 (na-1)++b.extract 0 nb++(out.push x).reverse,na-1,nb,out.push x,mg,ac,bc))
 else if (decide (ac<7) && decide (bc<7))=true then pure (ForInStep.done (none,na-1,nb,out.push x,mg,ac,bc))
 else pure (ForInStep.yield (none,na-1,nb,out.push x,mg,ac,bc))
abbrev U2 (a b out:Array Keyed)(na nb mg ac bc:Nat):StateT SortSt Sem (ForInStep H):=do
 let x <- elem' b (nb-1)
 if (nb-1 == 1)=true then pure (ForInStep.done (some<|b.extract 0 (nb-1)++a.extract 0 na++(out.push x).reverse,na,nb-1,out.push x,mg,ac,bc))
 else
  let y <- elem' a (na-1)
  let r <- nh true y b 0 (nb-1) (nb-1-1)
  match r with
  | some t=>
   if nb-1-t>0 then
    if (t == 1)=true then pure (ForInStep.done (some<|b.extract 0 t++a.extract 0 na++(out.push x++(b.extract t<|nb-1).reverse).reverse,na,t,out.push x++(b.extract t<|nb-1).reverse,mg,ac,nb-1-t))
    else if (t == 0)=true then pure (ForInStep.done (some<|a.extract 0 na++b.extract 0 t++(out.push x++(b.extract t<|nb-1).reverse).reverse,na,t,out.push x++(b.extract t<|nb-1).reverse,mg,ac,nb-1-t))
    else U3 a b (out.push x++(b.extract t<|nb-1).reverse) na t mg ac (nb-1-t)
   else U3 a b (out.push x) na (nb-1) mg ac (nb-1-t)
  | _=>pure<|ForInStep.done (some<|a.extract 0 na++b.extract 0 (nb-1)++(out.push x).reverse,na,nb-1,out.push x,mg,ac,bc)
abbrev U1 (a b out:Array Keyed)(na nb mg ac bc:Nat):StateT SortSt Sem (ForInStep H):=do
 yo mg
 let x <- elem' b (nb-1)
 let r <- nh false x a 0 na (na-1)
 match r with
 | some t=>
  if na-t>0 then
   if (t == 0)=true then pure (ForInStep.done (some<|a.extract 0 t++b.extract 0 nb++(out++(a.extract t na).reverse).reverse,t,nb,out++(a.extract t na).reverse,mg,na-t,bc))
   else U2 a b (out++(a.extract t na).reverse) t nb mg (na-t) bc
  else U2 a b out na nb mg (na-t) bc
 | _=>pure<|ForInStep.done (some<|a.extract 0 na++b.extract 0 nb++out.reverse,na,nb,out,mg,ac,bc)
section
variable {prog:aj}{w:ah}{A:aA}{E:af->aC->Prop}{s:aC}{o:Ord}{N:Nat}{f:Nat->Keyed}{kd:SortKind}{st st0:SortSt}{X Y ts:am}{na nb:Nat}
abbrev Oh (o:Ord)(X Y:am)(n:Nat)(ts:am)(na nb:Nat):Prop:=Mh o X Y ts na nb/\1<=na/\2<=nb/\na+nb+n<=X.length+Y.length
abbrev H2 (o:Ord)(f:Nat->Keyed)(X Y:am)(n:Nat)(st0:SortSt):ForInStep H->SortSt->Prop:=λr j=>Sm st0 j/\match r with
 | .done c=>(∃r z,c=(some r,z)/\Res o f X Y r)\/∃ts na nb mg d g,c=(none,na,nb,fa f ts.reverse,mg,d,g)/\Oh o X Y n ts na nb
 | .yield c=>∃ts na nb mg d g,c=(none,na,nb,fa f ts.reverse,mg,d,g)/\Oh o X Y n ts na nb
def UO(ab:Ab o N X Y)(hm:Sm st0 st){n mg x:Nat}(m:Mh o X Y ts (na+1)<|nb+1)(hb:1<=nb)(hn:na+1+(nb+1)+n<=X.length+Y.length)(hx:X[na]?=some x)(hy:Y[nb]?=some y)(hxy:P o y x) :
  wpS (model prog w) A E s (U3 (fa f X) (fa f Y) (fa f ts.reverse) (na+1) (nb+1) mg ac bc) (H2 o f X Y n st0) st:=by
 unfold U3;rw[show na+1-1=na by lia];refine a_<|ki (nq hx) ?_;have m2:=m.yp ab hx<|sG ab.sb hy hxy;rw[za,we];by_cases c:na=0
 ·rw[aN<|by rw[c];rfl];exact br ⟨hm,.inl ⟨_,_,rfl,m2.Ff ab<|.inl c⟩⟩
 ·rw[aM<|by simpa using c];by_cases c2:(decide (ac<7) && decide (bc<7))=true
  ·rw[aN c2];exact br ⟨hm,.inr ⟨_,_,_,_,_,_,rfl,m2,(),(),()⟩⟩
  ·rw[aM c2];exact br ⟨hm,⟨_,_,_,_,_,_,rfl,m2,(),(),()⟩⟩
def Vv(C:BC prog w A s o N f kd)(hk:kindOf st=kd)(ab:Ab o N X Y)(bt:YV o X Y)(hm:Sm st0 st){n mg x:Nat}(m:Mh o X Y ts (na+1)<|nb+1)(hb:1<=nb)(hn:na+1+(nb+1)+n<=X.length+Y.length)(hx:X[na]?=some x)(hy:Y[nb]?=some y)(hxy:P o x y) :
  wpS (model prog w) A E s (U2 (fa f X) (fa f Y) (fa f ts.reverse) (na+1) (nb+1) mg ac bc) (H2 o f X Y n st0) st:=by
 unfold U2;rw[show nb+1-1=nb by lia,show na+1-1=na by lia];refine a_<|ki (nq hy) ?_;have g:=m.Qk ab hy<|sG ab.sa hx hxy;have lb:=m.lb;rw[za,we];by_cases c:nb=1
 ·rw[aN<|by rw[c];rfl];exact br ⟨hm,.inl ⟨_,_,rfl,vn ab bt g c⟩⟩
 ·rw[aM<|by simpa using c];refine a_<|ki (nq hx) ?_;refine a_ (OU C hk (h:=λi=>Y.getD (0+i) 0) (λi q=>nq<|getD_at ()) (λi q=>?_) (IU ab.sb _ _ ()) () λt B j p=>?_)
  ·have:=aS<|getD_at (l:=Y) (i:=0+i) ();exact⟨ab.lt x (aS hx) _ this,ab.nb _ this⟩
  ·dsimp only;have m3:=Mh.Ah ab hx (nb-t) (at_:=t) (by rw[show t+(nb-t)=nb by lia];exact g) λi z hi1 hi2 k=>by
    have:=p i hi1 ();rw[cI,aL (l:=Y),k]at this;exact this
   by_cases c2:nb-t>0
   ·rw[aN c2,xO Y t nb,OP,we];by_cases c3:t=1
    ·rw[aN<|by rw[c3];rfl];exact br ⟨hm,.inl ⟨_,_,rfl,vn ab bt m3 c3⟩⟩
    ·rw[aM<|by simpa using c3];by_cases d:t=0
     ·rw[aN<|by rw[d];rfl];exact br ⟨hm,.inl ⟨_,_,rfl,m3.Ff ab<|.inr d⟩⟩
     ·rw[aM<|by simpa using d];obtain⟨u,rfl⟩:∃u,t=u+1:=⟨t-1,()⟩;have:=j u ();rw[cI]at this;exact UO ab hm m3 () () hx (getD_at ()) this
   ·rw[aM c2];have:t=nb:=()
    subst this;obtain⟨u,rfl⟩:∃u,t=u+1:=⟨t-1,()⟩;have:=j u ();rw[cI]at this;exact UO ab hm g () () hx (getD_at ()) this
def Y8(C:BC prog w A s o N f kd)(hk:kindOf st0=kd)(ab:Ab o N X Y)(bt:YV o X Y)(hm:Sm st0 st){n mg:Nat}(m:Mh o X Y ts (na+1)<|nb+1)(hb:1<=nb)(hn:na+1+(nb+1)+n<=X.length+Y.length) :
  wpS (model prog w) A E s (U1 (fa f X) (fa f Y) (fa f ts.reverse) (na+1) (nb+1) mg ac bc) (H2 o f X Y n st0) st:=by
 unfold U1;refine a_<|xg hm λq d=>?_;have lb:=m.lb;have la:=m.la;rw[show nb+1-1=nb by lia,show na+1-1=na by lia];have hy:=getD_at (l:=Y) (i:=nb) ();have j:=aS hy;refine a_<|ki (nq hy) ?_;refine a_ (NC C (by rw[d.k];exact hk) (h:=λi=>X.getD (0+i) 0) (λi G=>nq<|getD_at ()) (λi G=>ab.lt _ (aS<|getD_at (l:=X) (i:=0+i) ()) _ j) (ab.nb _ j) (IU ab.sa _ _ ()) () λt J p F=>?_);dsimp only;have m3:=Mh.zo ab hy (na+1-t) (at_:=t) (by rw[show t+(na+1-t)=na+1 by lia];exact m) λi z hi1 hi2 B=>by
  have:=F i hi1 ();rw[cI,aL (l:=X),B]at this;exact this
 by_cases c2:na+1-t>0
 ·rw[aN c2,xO X t<|na+1,OP,we];by_cases g:t=0
  ·rw[aN<|by rw[g];rfl];exact br ⟨d,.inl ⟨_,_,rfl,m3.Ff ab<|.inl g⟩⟩
  ·rw[aM<|by simpa using g];obtain⟨u,rfl⟩:∃u,t=u+1:=⟨t-1,()⟩;have:=p u ();rw[cI]at this;exact Vv C (by rw[d.k];exact hk) ab bt d m3 hb () (getD_at ()) hy this
 ·rw[aM c2];have:t=na+1:=()
  subst this;have:=p na ();rw[cI]at this;exact Vv C (by rw[d.k];exact hk) ab bt d m hb hn (getD_at ()) hy this
def Zr(C:BC prog w A s o N f kd)(hk:kindOf st=kd)(ab:Ab o N X Y)(tp:Top o X Y)(bt:YV o X Y)(h1:1<=X.length)(h2:1<=Y.length)
  {Q:Array Keyed->SortSt->Prop} (q:∀out st',Sm st st'->Res o f X Y out->Q out st'):wpS (model prog w) A E s (zQ (fa f X)<|fa f Y) Q st:=by
 rw[GY];refine a_<|wpS_lift<|d8 ⟨rfl,?_⟩;dsimp only;rw[nH,nH];have M:=getD_at (l:=X) (i:=X.length-1) ();refine a_<|ki (nq M) ?_;have m0:Mh o X Y [] (X.length-1+1) Y.length:=⟨(),aK _,by rw[dB];lia,List.Pairwise.nil,(nofun),(λ_ _ _ h=>nomatch h),(λ_ _ _ h=>nomatch h)⟩;have m1:=m0.yp ab M λy hy=>tp _ _ M () y<|dX hy;obtain⟨V,ex0⟩:∃V,V=X.getD (X.length-1) 0:=⟨_,rfl⟩;rw[<- ex0]at m1 ⊢;have e1:(#[f V]:Array Keyed)=fa f [V].reverse:=rfl;rw[e1,we];by_cases c:X.length-1=0
 ·rw[aN<|by rw[c];rfl];exact br (q _ _ Sm.refl<|m1.Ff ab<|.inl c)
 ·rw[aM<|by simpa using c];by_cases c2:Y.length=1
  ·rw[aN<|by rw[c2];rfl];exact br (q _ _ Sm.refl<|vn ab bt m1 c2)
  ·rw[aM<|by simpa using c2];refine a_<|gY ?_;refine a_ (d_ (cN (I:=λx c st'=>Sm st st'/\∃ts na nb mg,c=(none,na,nb,fa f ts.reverse,mg)/\Oh o X Y (x+1) ts na nb)
    (Q:=λc st'=>Sm st st'/\∃r z,c=(some r,z)/\Res o f X Y r) ?step ?fin ⟨Sm.refl,_,_,_,_,rfl,m1,(),(),()⟩) ?post)
   case post=>
    rintro c st' ⟨W,r,z,rfl,L⟩;exact br<|q _ _ W L
   case fin=>
    rintro c st' ⟨W,ts,na,nb,mg,rfl,m,B,t,J⟩;exfalso
    lia
   case step=>
    intro x c st' _ hx G;revert G;revert c;refine un4 λW ts na nb mg g=>?_;have m:=g.1;have B:=g.2.1;have t:=g.2.2.1;have J:=g.2.2.2;clear g;dsimp only;refine a_ (d_ (cN (I:=λU c d=>Sm st d/\∃ts na nb ac bc,c=(none,na,nb,fa f ts.reverse,ac,bc)/\Oh o X Y (x+1+min U 1) ts na nb)
     (Q:=λc d=>Sm st d/\((∃r z,c=(some r,z)/\Res o f X Y r)\/∃ts na nb ac bc,c=(none,na,nb,fa f ts.reverse,ac,bc)/\Oh o X Y (x+1+1) ts na nb)) ?istep ?ifin ⟨W,_,_,_,_,_,rfl,m,B,t,J⟩) ?ipost)
    case ifin=>
     rintro c d ⟨j,ts,na,nb,ac,bc,rfl,m,B,t,J⟩;exact⟨j,.inr ⟨_,_,_,_,_,rfl,m,B,t,()⟩⟩
    case istep=>
     intro U c d _ hx' G;revert G;revert c;refine un5 λj ts na nb ac bc g=>?_;have m:=g.1;have B:=g.2.1;have t:=g.2.2.1;have J:=g.2.2.2;clear g;dsimp only;obtain⟨u,rfl⟩:∃u,na=u+1:=⟨na-1,()⟩;obtain⟨v,rfl⟩:∃v,nb=v+1:=⟨nb-1,()⟩;have la:=m.la;have lb:=m.lb;rw[show u+1-1=u by lia,show v+1-1=v by lia];have hy:=getD_at (l:=Y) (i:=v) ();have F:=getD_at (l:=X) (i:=u) ();have yB:=aS hy;have xA:=aS F;have lt:=ab.lt _ xA _ yB;refine a_<|ki (nq hy) ?_;refine a_<|ki (nq F) ?_;refine a_ (zE C (by rw[j.k];exact hk) (ab.nb _ yB) (ab.na _ xA) ?_)
     cases hl:o.lt (Y.getD v 0) (X.getD u 0)
     ·dsimp[bD,cF];refine a_<|ki (nq hy) ?_;have m2:=m.Qk ab hy<|sG ab.sa F<|P.yu hl lt;rw[za,we];by_cases c3:v=1
      ·rw[aN<|by rw[c3];rfl];exact br ⟨j,.inl ⟨_,_,rfl,vn ab bt m2 c3⟩⟩
      ·rw[aM<|by simpa using c3];by_cases T:bc+1>=mg
       ·rw[aN T];exact br ⟨j,.inr ⟨_,_,_,_,_,rfl,m2,B,(),()⟩⟩
       ·rw[aM T];exact br ⟨j,_,_,_,_,_,rfl,m2,B,(),()⟩
     ·dsimp[dJ];refine a_<|ki (nq F) ?_;have m2:=m.yp ab F<|sG ab.sb hy<|P.of_lt hl;rw[za,we];by_cases c3:u=0
      ·rw[aN<|by rw[c3];rfl];exact br ⟨j,.inl ⟨_,_,rfl,m2.Ff ab<|.inl c3⟩⟩
      ·rw[aM<|by simpa using c3];by_cases T:ac+1>=mg
       ·rw[aN T];exact br ⟨j,.inr ⟨_,_,_,_,_,rfl,m2,(),t,()⟩⟩
       ·rw[aM T];exact br ⟨j,_,_,_,_,_,rfl,m2,(),t,()⟩
    case ipost=>
     intro c d G;revert G;revert c;refine uo5 (λj r z L=>?_) λj ts na nb ac bc g=>?_
     ·dsimp only;exact br ⟨j,r,_,rfl,L⟩
     ·have m:=g.1;have B:=g.2.1;have t:=g.2.2.1;have J:=g.2.2.2;clear g;dsimp only;refine a_<|wpS_lift<|d8 ⟨rfl,?_⟩;refine a_ (d_ (cN (I:=λU c d=>Sm st d/\∃ts na nb mg ac bc,c=(none,na,nb,fa f ts.reverse,mg,ac,bc)/\Oh o X Y (x+1+1) ts na nb)
       (Q:=λc d=>Sm st d/\((∃r z,c=(some r,z)/\Res o f X Y r)\/∃ts na nb mg ac bc,c=(none,na,nb,fa f ts.reverse,mg,ac,bc)/\Oh o X Y (x+1+1) ts na nb)) ?jstep ?jfin ⟨j,_,_,_,_,_,_,rfl,m,B,t,J⟩) ?jpost)
      case jfin=>
       rintro c O ⟨p,G⟩;exact⟨p,.inr G⟩
      case jstep=>
       intro U c O _ hx' G;revert G;revert c;refine un6 λp ts na nb mg ac bc g=>?_;have m:=g.1;have B:=g.2.1;have t:=g.2.2.1;have J:=g.2.2.2;clear g;dsimp only;obtain⟨u,rfl⟩:∃u,na=u+1:=⟨na-1,()⟩;obtain⟨v,rfl⟩:∃v,nb=v+1:=⟨nb-1,()⟩;have t1:=λmg=>Y8 (n:=x+1+1) (mg:=mg) (ac:=ac) (bc:=bc) (E:=E) C hk ab bt p m () J;unfold U1 U2 U3 at t1;refine d_ (Q:=H2 o f X Y (x+1+1) st) ?_ ?_
       ·by_cases c3:mg>1
        ·rw[aN c3];exact t1 (mg-1)
        ·rw[aM c3];exact t1 mg
       ·rintro r Z ⟨K,L⟩
        cases r with
        | done c=>exact⟨K,L⟩
        | yield c=>exact⟨K,L⟩
      case jpost=>
       intro c O G;revert G;revert c;refine uo6 (λp r z L=>?_) λp ts na nb mg ac bc g=>?_
       ·dsimp only;exact br ⟨p,r,_,rfl,L⟩
       ·have m:=g.1;have B:=g.2.1;have t:=g.2.2.1;have J:=g.2.2.2;clear g;dsimp only;refine a_<|xg p λZ K=>?_;exact br ⟨K,_,_,_,_,rfl,m,B,t,J⟩
end
def Gz(i:Nat):mergeAt' i=(do
 let s <- get
 let(some (a1,n1,pw),some (a2,n2,_)):=((pendingOf s)[i]?,(pendingOf s)[i+1]?)|unsupported "internal:list.sort.pending"
 set (setPending s<|((pendingOf s).setIfInBounds i (a1,n1+n2,pw)).eraseIdxIfInBounds<|i+1)
 let some k <- nh false (<- elem' (arrOf s) a2) (arrOf s) a1 n1 0|return false
 let(a1,n1):=(a1+k,n1-k)
 if n1 == 0 then return true
 let some n2 <- nh true (<- elem' (arrOf s) (a1+n1-1)) (arrOf s) a2 n2 (n2-1)|return false
 if n2 == 0 then return true
 let x:=(arrOf s).extract a1 a2
 let y:=(arrOf s).extract a2 (a2+n2)
 let both <- if n1<=n2 then zA x y else zQ x y
 modify λs=>setArr s (both.toList.zipIdx.foldl (λa (p,j)=>a.setIfInBounds (a1+j) p)<|arrOf s)
 return (failedOf<|<- get).isNone):=rfl
abbrev seg (g:Nat->Nat)(a n:Nat):am:=(List.range n).map λi=>g<|a+i
section
variable {o:Ord}{N:Nat}{f:Nat->Keyed}{g:Nat->Nat}
def o9(g:Nat->Nat)(a n:Nat):(seg g a n).length=n:=by unfold seg;rw[aG,b_]
def tN{a n i:Nat}(h:i<n):(seg g a n)[i]?=some (g<|a+i):=by unfold seg;rw[aX,gv h];rfl
def rj{a n x:Nat}(h:x∈seg g a n):∃i,i<n/\x=g (a+i):=by
 obtain⟨i,d,rfl⟩:=bu.mp h;exact⟨i,cO.mp d,rfl⟩
def MG{a n:Nat}(h:So o g a<|a+n):(seg g a n).Pairwise (P o):=by
 rw[cA];intro i j f d k;rw[o9]at f d;have e1:=tN (g:=g) (a:=a) f;have e2:=tN (g:=g) (a:=a) d;rw[aI<|by rw[o9];exact f]at e1;rw[aI<|by rw[o9];exact d]at e2;rw[bf e1,bf e2];exact h _ _ () () ()
def Hu{arr:Array Keyed}(hs:arr.size=N)(hg:∀i,i<N->arr[i]?=some (f<|g i)){a n:Nat}(h:a+n<=N):arr.extract a (a+n)=fa f (seg g a n):=by
 apply Array.ext_getElem?;intro i;rw[N8,Array.getElem?_extract];by_cases c:i<n
 ·rw[aN (),tN c,hg _ ()];rfl
 ·rw[aM (),fZ<|by rw[o9];lia];rfl
theorem Be{α:Type}(b:Nat):∀(l:List α) (n:Nat) (arr:Array α),((l.zipIdx n).foldl (λa (p,j)=>a.setIfInBounds (b+j) p) arr).size=arr.size
 | [],_,_=>rfl
 | x::l,n,arr=>by
  rw[jk,dH,Be b l<|n+1];exact Array.size_setIfInBounds ..
theorem FT{α:Type}(b:Nat):∀(l:List α) (n:Nat) (arr:Array α) (k:Nat),b+n+l.length<=arr.size->((l.zipIdx n).foldl (λa (p,j)=>a.setIfInBounds (b+j) p) arr)[k]?=if b+n<=k/\k<b+n+l.length then l[k-(b+n)]? else arr[k]?
 | [],n,arr,k,h=>by rw[aM<|by rw[dB];lia];rfl
 | x::l,n,arr,k,h=>by
  rw[bG]at h;rw[jk,dH,FT b l (n+1) _ k<|by rw[Array.size_setIfInBounds];lia,bG];by_cases c:k=b+n
  ·subst c;rw[aM (),aN (),jv];show(arr.setIfInBounds (b+n) x)[b+n]?=some x;rw[Array.getElem?_setIfInBounds_self_of_lt ()]
  ·by_cases c2:b+n<=k/\k<b+n+(l.length+1)
   ·rw[aN (),aN c2,show k-(b+n)=k-(b+(n+1))+1 by lia,List.getElem?_cons_succ]
   ·rw[aM (),aM c2]
    skip
    rw[Array.getElem?_setIfInBounds_ne ()]
end
section
variable {prog:aj}{w:ah}{A:aA}{E:af->aC->Prop}{s:aC}{o:Ord}{N:Nat}{f:Nat->Keyed}{kd:SortKind}{g:Nat->Nat}{st:SortSt}
def RM{Q:PUnit->SortSt->Prop}(h:Q ⟨⟩ st'):wpS (model prog w) A E s (set st':StateT SortSt Sem PUnit) Q st:=by
 unfold wpS;rw[StateT.run_set];exact aR ⟨rfl,h⟩
def aaq(C:BC prog w A s o N f kd){l1:List<|Nat×Nat×Nat}{sa na nb pw pv:Nat}(h:Sg N f kd g (l1++(sa,na,pw)::(sa+na,nb,pv)::l2).toArray st)(ha:1<=na)(hb:1<=nb)(hN:sa+na+nb<=N)
  (c1:Cl g sa<|sa+na) (s1:So o g sa<|sa+na) (c2:Cl g (sa+na)<|sa+na+nb) (s2:So o g (sa+na)<|sa+na+nb)
  {Q:Bool->SortSt->Prop} (q:∀g' st',Sg N f kd g' (l1++(sa,na+nb,pw)::l2).toArray st'->Rn o g g' sa (sa+na+nb)->Q true st'):wpS (model prog w) A E s (mergeAt' l1.length) Q st:=by
 rw[Gz];refine a_<|gY ?_;have e1:(pendingOf st)[l1.length]?=some (sa,na,pw):=by rw[h.pend];simp
 have e2:(pendingOf st)[l1.length+1]?=some (sa+na,nb,pv):=by rw[h.pend];simp
 have e3:((pendingOf st).setIfInBounds l1.length (sa,na+nb,pw)).eraseIdxIfInBounds (l1.length+1)=(l1++(sa,na+nb,pw)::l2).toArray:=by
  rw[h.pend,List.setIfInBounds_toArray,fC];congr 1;rw[f6 _ _<|aK _,jv,List.eraseIdx_append_of_length_le (),show l1.length+1-l1.length=1 by lia];rfl
 rw[e1,e2];dsimp only;rw[e3];refine a_<|RM ?_;have h':Sg N f kd g (l1++(sa,na+nb,pw)::l2).toArray (setPending st (l1++(sa,na+nb,pw)::l2).toArray):=⟨h.size,h.get,h.lt,h.kind,h.failed,rfl⟩;obtain⟨J,Z⟩:∃J,J=setPending st (l1++(sa,na+nb,pw)::l2).toArray:=⟨_,rfl⟩;rw[<- Z]at h' ⊢;refine a_<|ki (h.get (sa+na) ()) ?_;have b0:=c2 (sa+na) () ();refine a_ (NC C h'.kind (h:=λi=>g<|sa+i) (λi G=>h.get _ ()) (λi G=>by have:=c1 (sa+i) () ();lia) () (λi j _ a b=>s1 _ _ () () ()) () λk k1 k2 k3=>?_);dsimp only;by_cases cz:na-k=0
 ·rw[aN<|by rw[cz];rfl];refine br (q g J h' ⟨λ_ _=>rfl,λi a b=>?_,λi j a b c=>?_⟩)
  ·by_cases d:i<sa+na
   ·have:=c1 i a d;lia
   ·have:=c2 i () b;lia
  ·by_cases d:j<sa+na
   ·exact s1 i j a b d
   ·by_cases M:sa+na<=i
    ·exact s2 i j M b c
    ·have r:=k2 (i-sa) ();rw[show sa+(i-sa)=i by lia]at r;by_cases T:j=sa+na
     ·subst T;exact r
     ·exact r.trans<|s2 _ _ () () c
 ·rw[aM<|by simpa using cz];have V:sa+k+(na-k)-1=sa+na-1:=()
  rw[V];refine a_<|ki (h.get (sa+na-1) ()) ?_;have a0:=c1 (sa+na-1) () ();refine a_ (OU C h'.kind (h:=λi=>g<|sa+na+i) (λi G=>h.get _ ()) (λi G=>by have:=c2 (sa+na+i) () ();lia) (λi j _ a b=>s2 _ _ () () ()) () λt t1 t2 t3=>?_);dsimp only;by_cases cy:t=0
  ·rw[aN<|by rw[cy];rfl];subst cy;refine br (q g J h' ⟨λ_ _=>rfl,λi a b=>?_,λi j a b c=>?_⟩)
   ·by_cases d:i<sa+na
    ·have:=c1 i a d;lia
    ·have:=c2 i () b;lia
   ·by_cases d:j<sa+na
    ·exact s1 i j a b d
    ·by_cases M:sa+na<=i
     ·exact s2 i j M b c
     ·have r:=t3 (j-(sa+na)) () ();rw[show sa+na+(j-(sa+na))=j by lia]at r;by_cases T:i=sa+na-1
      ·subst T;exact r
      ·exact(s1 i (sa+na-1) a () ()).trans r
  ·rw[aM<|by simpa using cy];have x1:(arrOf st).extract (sa+k) (sa+na)=fa f (seg g (sa+k)<|na-k):=by
    have:=Hu (f:=f) (g:=g) h.size h.get (a:=sa+k) (n:=na-k) ()
    rwa [show sa+k+(na-k)=sa+na by lia]at this
   have x2:(arrOf st).extract (sa+na) (sa+na+t)=fa f (seg g (sa+na) t):=Hu h.size h.get ();rw[x1,x2];have sx:So o g (sa+k) (sa+k+(na-k)):=λi j a b c=>s1 i j () b ();have sy:So o g (sa+na) (sa+na+t):=λi j a b c=>s2 i j a b ();have ab:Ab o N (seg g (sa+k)<|na-k) (seg g (sa+na) t):={
    sa:=MG sx
    sb:=MG sy
    lt:=λx W y hy=>by
     obtain⟨i,G,rfl⟩:=rj W;obtain⟨j,P,rfl⟩:=rj hy;have:=c1 (sa+k+i) () ();have:=c2 (sa+na+j) () ()
     lia
    nb:=λy hy=>by
     obtain⟨j,P,rfl⟩:=rj hy;exact h.lt _ ()
    na:=λy hy=>by
     obtain⟨j,P,rfl⟩:=rj hy;exact h.lt _ ()}
   have tp:Top o (seg g (sa+k)<|na-k) (seg g (sa+na) t):=λi x W G y hy=>by
    rw[o9]at G;rw[tN ()]at W
    cases W
    obtain⟨j,P,rfl⟩:=rj hy;rw[show sa+k+i=sa+na-1 by lia];exact t2 j P
   have bt:YV o (seg g (sa+k)<|na-k) (seg g (sa+na) t):=λy hy x W=>by
    rw[tN ()]at hy
    cases hy
    obtain⟨i,G,rfl⟩:=rj W;have:=k3 (k+i) () ()
    rwa [<- gD]at this
   have fin:∀out F,Sm J F->Res o f (seg g (sa+k)<|na-k) (seg g (sa+na) t) out->wpS (model prog w) A E s (do
     modify λs=>setArr s (out.toList.zipIdx.foldl (λa (p,j)=>a.setIfInBounds (sa+k+j) p)<|arrOf s)
     let s <- get
     pure (failedOf s).isNone) Q F:=by
    rintro out F U ⟨hs,rfl,K,hso,Y⟩;rw[o9,o9]at K;refine a_<|fM<|a_<|gY ?_;have hf:(failedOf F)=none:=by rw[U.f];exact h'.failed
    have L:∀j x,hs[j]?=some x->(∃i,i<na-k/\x=g (sa+k+i))\/∃i,i<t/\x=g (sa+na+i):=λj x e=>by
     rcases Y x (aS e)with z|z
     ·exact .inl (rj z)
     ·exact .inr<|rj z
    have ez:(fa f hs).toList=hs.map f:=by unfold fa;rfl
    have hsz:sa+k+0+(hs.map f).length<=(arrOf F).size:=by rw[aG,K,U.a,h'.size];lia
    refine br ?_
    skip
    rw[hf];refine q (λi=>if sa+k<=i/\i<sa+k+(na-k+t)then hs.getD (i-(sa+k)) 0 else g i) _ ⟨?_,λi G=>?_,λi G=>?_,by rw[show kindOf (setArr F _)=kindOf F from rfl,U.k];exact h'.kind,hf,by rw[show pendingOf (setArr F _)=pendingOf F from rfl,U.p];exact h'.pend⟩ ?_
    ·have:=Be (sa+k) (fa f hs).toList 0<|arrOf F;rw[U.a,h'.size]at this;rw[<- this,<- U.a]
    ·skip
     rw[ez,FT _ _ _ _ _ hsz,aG,K,U.a];by_cases d:sa+k<=i/\i<sa+k+(na-k+t)
     ·rw[aN (),aN d,aX,Nat.add_zero,getD_at (l:=hs) ()];rfl
     ·rw[aM (),aM d];exact h'.get i G
    ·by_cases d:sa+k<=i/\i<sa+k+(na-k+t)
     ·rw[aN d]
      rcases L _ _ (getD_at (l:=hs) (i:=i-(sa+k)) ())with⟨j,P,e⟩|⟨j,P,e⟩
      ·rw[e];exact h.lt _ ()
      ·rw[e];exact h.lt _ ()
     ·rw[aM d];exact h.lt i G
    ·have O:∀i,sa+k<=i->i<sa+na+t->(if sa+k<=i/\i<sa+k+(na-k+t)then hs.getD (i-(sa+k)) 0 else g i)=hs.getD (i-(sa+k)) 0:=λi a b=>aN ();have B:∀i,i<sa+k\/sa+na+t<=i->(if sa+k<=i/\i<sa+k+(na-k+t)then hs.getD (i-(sa+k)) 0 else g i)=g i:=λi a=>aM ();refine⟨λi G=>B i (),λi a b=>?_,λi j a b c=>?_⟩
     ·by_cases d:sa+k<=i/\i<sa+na+t
      ·skip
       rw[O i d.1 d.2]
       rcases L _ _ (getD_at (l:=hs) (i:=i-(sa+k)) ())with⟨j,P,e⟩|⟨j,P,e⟩
       ·rw[e];have:=c1 (sa+k+j) () ();lia
       ·rw[e];have:=c2 (sa+na+j) () ();lia
      ·skip
       rw[B i ()];by_cases M:i<sa+na
       ·have:=c1 i a M;lia
       ·have:=c2 i () b;lia
     ·skip
      by_cases d1:i<sa+k
      ·rw[B i<|.inl d1];have r:=k2 (i-sa) ();rw[show sa+(i-sa)=i by lia]at r;by_cases M:j<sa+k
       ·rw[B j<|.inl M];exact s1 i j a b ()
       ·by_cases T:j<sa+na+t
        ·rw[O j () T]
         rcases L _ _ (getD_at (l:=hs) (i:=j-(sa+k)) ())with⟨v,hv,e⟩|⟨v,hv,e⟩
         ·rw[e];exact s1 _ _ a () ()
         ·rw[e];by_cases d4:v=0
          ·subst d4;exact r
          ·exact r.trans<|s2 _ _ () () ()
        ·rw[B j ()];exact r.trans<|s2 _ _ () () c
      ·by_cases M:i<sa+na+t
       ·rw[O i () M];by_cases T:j<sa+na+t
        ·rw[O j () T];exact uI hso (getD_at ()) (getD_at ()) ()
        ·rw[B j ()]
         rcases L _ _ (getD_at (l:=hs) (i:=i-(sa+k)) ())with⟨v,hv,e⟩|⟨v,hv,e⟩
         ·rw[e];have r:=t3 (j-(sa+na)) () ();rw[show sa+na+(j-(sa+na))=j by lia]at r;by_cases d4:sa+k+v=sa+na-1
          ·rw[d4];exact r
          ·exact(s1 _ (sa+na-1) () () ()).trans r
         ·rw[e];exact s2 _ _ () () c
       ·rw[B i (),B j ()];exact s2 i j () b c
   by_cases cl:na-k<=t
   ·rw[aN cl];exact a_ (aaf C h'.kind ab tp (by rw[o9];lia) (tN ()) (bt _<|tN ()) fin)
   ·rw[aM cl];exact a_<|Zr C h'.kind ab tp bt (by rw[o9];lia) (by rw[o9];lia) fin
end
meta abbrev pr (x:Nat×Nat×Nat):Nat×Nat:=(x.1,x.2.1)
abbrev sQ (o:Ord)(g:Nat->Nat):List (Nat×Nat)->Nat->Nat->Prop
 | [],a,b=>a=b
 | x::l,a,b=>x.1=a/\1<=x.2/\Cl g a (a+x.2)/\So o g a (a+x.2)/\sQ o g l (a+x.2) b
abbrev PA (o:Ord)(g:Nat->Nat)(p:Array<|Nat×Nat×Nat)(b:Nat):Prop:=sQ o g (p.toList.map pr) 0 b
section
variable {o:Ord}{g:Nat->Nat}
def sQ.le:∀{l:List<|Nat×Nat}{a b:Nat},sQ o g l a b->a+l.length<=b
 | [],a,b,h=>by have h:a=b:=h;rw[dB];lia
 | x::l,a,b,h=>by
  have:=h.2.2.2.2.le;have:=h.2.1;rw[bG];lia
def sQ.congr{g':Nat->Nat}:∀{l:List<|Nat×Nat}{a b:Nat},sQ o g l a b->(∀i,a<=i->i<b->g' i=g i)->sQ o g' l a b
 | [],a,b,h,_=>h
 | x::l,a,b,h,e=>by
  have hb:=h.2.2.2.2.le;refine⟨h.1,h.2.1,λi h1 h2=>?_,λi j h1 h2 h3=>?_,h.2.2.2.2.congr λi h1 h2=>e i () h2⟩
  ·rw[e i h1 ()];exact h.2.2.1 i h1 h2
  ·rw[e i h1 (),e j () ()];exact h.2.2.2.1 i j h1 h2 h3
theorem sQ.app:∀{l m:List<|Nat×Nat}{a b:Nat},sQ o g (l++m) a b ↔ ∃c,sQ o g l a c/\sQ o g m c b
 | [],m,a,b=>⟨λh=>⟨a,rfl,h⟩,λ⟨c,h1,h2⟩=>by have h1:a=c:=h1;subst h1;exact h2⟩
 | x::l,m,a,b=>by
  constructor
  ·rintro⟨h1,h2,h3,j,f⟩;obtain⟨c,d,k⟩:=sQ.app.mp f;exact⟨c,⟨h1,h2,h3,j,d⟩,k⟩
  ·rintro⟨c,⟨h1,h2,h3,j,f⟩,d⟩;exact⟨h1,h2,h3,j,sQ.app.mpr ⟨c,f,d⟩⟩
def Yc{p:Array<|Nat×Nat×Nat}(h:i+1<p.size):∃l1 x y l2,p=(l1++x::y::l2).toArray/\l1.length=i:=by
 have h':i+1<p.toList.length:=h;refine⟨p.toList.take i,p.toList[i],p.toList[i+1],p.toList.drop<|i+2,?_,by rw[bP];lia⟩;apply Array.toList_inj.mp
 skip
 conv=>lhs;rw[<- eW i p.toList,dc<|show i<p.toList.length by lia,dc h']
end
section
variable {prog:aj}{w:ah}{A:aA}{E:af->aC->Prop}{s:aC}{o:Ord}{N:Nat}{f:Nat->Keyed}{kd:SortKind}{g:Nat->Nat}{p:Array (Nat×Nat×Nat)}{st:SortSt}
def G9(C:BC prog w A s o N f kd)(h:Sg N f kd g p st){lo:Nat}(hp:PA o g p lo)(hlo:lo<=N)(hi:i+1<p.size)
  {Q:Bool->SortSt->Prop} (q:∀g' p' st',Sg N f kd g' p' st'->PA o g' p' lo->p'.size+1=p.size->(∀k,lo<=k->g' k=g k)->Q true st'):wpS (model prog w) A E s (mergeAt' i) Q st:=by
 obtain⟨B,⟨d,na,z⟩,⟨L,nb,pv⟩,t,rfl,rfl⟩:=Yc hi;unfold PA at hp;rw[show(B++(d,na,z)::(L,nb,pv)::t).toArray.toList=B++(d,na,z)::(L,nb,pv)::t from rfl,bC]at hp;obtain⟨c,h1,h2⟩:=sQ.app.mp hp;obtain⟨e1,M,O,F,e2,J,G,K,rest⟩:=h2;have e1:d=c:=e1;subst e1;have e2:L=d+na:=e2;subst e2;have j:=rest.le;have M:1<=na:=M;have J:1<=nb:=J;have j:d+na+nb<=lo:=by
  have:d+na+nb+(List.map pr t).length<=lo:=j
  lia
 refine aaq C h M J () O F G K λg' st' h' R=>q g' _ st' h' ?_ (by simp;lia) λk P=>R.out k ();unfold PA;rw[show(B++(d,na+nb,z)::t).toArray.toList=B++(d,na+nb,z)::t from rfl,bC];refine sQ.app.mpr ⟨d,h1.congr λi a b=>R.out i (),rfl,by show 1<=na+nb;lia,?_,?_,?_⟩
 ·show Cl g' d (d+(na+nb));rw[<- gD];exact R.cl
 ·show So o g' d (d+(na+nb));rw[<- gD];exact R.so
 ·skip
  rw[<- gD];exact rest.congr λi a b=>R.out i<|.inr a
def Bw{p:Array<|Nat×Nat×Nat}{lo:Nat}{u:Nat×Nat×Nat->Nat×Nat×Nat}(hu:∀x,pr (u x)=pr x)(h:PA o g p lo):PA o g (p.modify i u) lo:=by
 unfold PA at h ⊢;have:(p.modify i u).toList.map pr=p.toList.map pr:=by
  rw[Array.toList_modify];apply fu;intro k;rw[aX,aX,List.getElem?_modify]
  cases p.toList[k]? with
  | none=>rfl
  | some x=>
   show some (pr<|if i=k then u x else x)=some (pr x);by_cases c:i=k
   ·rw[aN c,hu x]
   ·rw[aM c]
 rw[this];exact h
def yM{p:Array<|Nat×Nat×Nat}{lo n v:Nat}(h:PA o g p lo)(hn:1<=n)(c:Cl g lo<|lo+n)(d:So o g lo<|lo+n):PA o g (p.push (lo,n,v)) (lo+n):=by
 unfold PA at h ⊢;rw[f9,bC];exact sQ.app.mpr ⟨lo,h,rfl,hn,c,d,rfl⟩
def Sg.YE(h:Sg N f kd g p st)(p':Array<|Nat×Nat×Nat):Sg N f kd g p' (setPending st p'):=⟨h.size,h.get,h.lt,h.kind,h.failed,rfl⟩
def Tt(C:BC prog w A s o N f kd)(h:Sg N f kd (λi=>i) #[] st)(hN:1<=N)
  {Q:Unit->SortSt->Prop} (q:∀g' p' st',Sg N f kd g' p' st'->Cl g' 0 N->So o g' 0 N->Q Unit.unit st'):wpS (model prog w) A E s sortRuns' Q st:=by
 rw[sortRuns'_eq];refine a_<|gY ?_;dsimp only;rw[h.size];refine a_ (d_ (cN
  (I:=λx c st'=>∃t g p,c=(none,t)/\t<=N/\(x<=t\/t=N)/\Sg N f kd g p st'/\PA o g p t/\(∀i,t<=i->g i=i))
  (Q:=λc st'=>∃g p,c=(none,N)/\Sg N f kd g p st'/\PA o g p N) ?step ?fin ⟨0,_,_,rfl,bK _,.inl<|aK _,h,rfl,λ_ _=>rfl⟩) ?post)
 case fin=>
  rintro c st' ⟨t,g,p,rfl,h1,h2,h3,P,G⟩;have:t=N:=()
  subst this;exact⟨g,p,rfl,h3,P⟩
 case step=>
  intro x c st' _ hx F;revert F;revert c;refine un3 λt g p F=>?_;have h1:=F.1;have h2:=F.2.1;have h3:=F.2.2.1;have P:=F.2.2.2.1;have G:=F.2.2.2.2;clear F;dsimp only;by_cases O:t>=N
  ·rw[aN O];have:t=N:=()
   subst this;exact br ⟨g,p,rfl,h3,P⟩
  ·rw[aM O];refine a_<|Nz C h3 () () (λi a b=>G i a) λm g1 st1 s1 m1 m2 R1=>?_;dsimp only;by_cases c2:m<minRun' N N 0
   ·rw[aN c2];refine a_<|wpS_lift<|d8 ⟨rfl,?_⟩;refine a_<|Xl C s1 () m1 () R1 (λi a b=>G i ()) λK st2 s2 R2=>?_;rw[aM ⋯];have T:1<=min (N-t) (minRun' N N 0):=()
    have U:t+min (N-t) (minRun' N N 0)<=N:=()
    refine a_<|gY ?_;rw[s2.pend];have B:=sQ.congr P λi a b=>R2.out i (.inl b)
    cases e:p.back? with
    | none=>
     dsimp only;refine a_ (fM<|br ⟨_,_,_,rfl,U,(),s2.YE _,?_,λi J=>by rw[R2.out i<|.inr J,G i ()]⟩);rw[s2.pend];exact yM B T R2.cl R2.so
    | some y=>
     obtain⟨y1,y2,y3⟩:=y;dsimp only;refine a_ (d_ (cN (I:=λ_ c st'=>c=(none,Unit.unit)/\∃g' p',Sg N f kd g' p' st'/\PA o g' p' t/\(∀k,t<=k->g' k=K k)) (Q:=λc st'=>c=(none,Unit.unit)/\∃g' p',Sg N f kd g' p' st'/\PA o g' p' t/\(∀k,t<=k->g' k=K k)) ?vstep (λ_ _ h=>h) ⟨rfl,_,_,s2,B,λ_ _=>rfl⟩) ?vpost)
     case vstep=>
      rintro x c st' _ hx ⟨rfl,g',p',h1,h2,h3⟩;refine a_<|gY ?_;rw[h1.pend];by_cases c:p'.size>1
      ·rw[aN c]
       cases e:p'[p'.size-2]? with
       | none=>exact br ⟨rfl,g',p',h1,h2,h3⟩
       | some y=>
        obtain⟨y1,y2,y3⟩:=y;dsimp only;split
        ·exact br ⟨rfl,g',p',h1,h2,h3⟩
        ·refine a_<|G9 C h1 h2 () () λg3 p3 M W L _ Z=>?_;exact br ⟨rfl,g3,p3,W,L,λk V=>by rw[Z k V,h3 k V]⟩
      ·rw[aM c];exact br ⟨rfl,g',p',h1,h2,h3⟩
     case vpost=>
      rintro c st' ⟨rfl,g',p',h1,h2,h3⟩;dsimp only;refine a_ (fM<|a_<|fM<|br ⟨_,_,_,rfl,U,(),(h1.YE _).YE _,?_,λi J=>by rw[h3 i (),R2.out i<|.inr J,G i ()]⟩)
      skip
      rw[h1.pend];exact yM (Bw (λ_=>rfl) h2) T (λi a b=>by rw[h3 i a];exact R2.cl i a b) λi j a b c=>by rw[h3 i a,h3 j ()];exact R2.so i j a b c
   ·rw[aM c2];have U:t+m<=N:=()
    obtain⟨K,hg2⟩:∃K,K=g1:=⟨_,rfl⟩;rw[<- hg2]at R1 s1;have R2:=R1;have s2:=s1;have T:=m1;refine a_<|gY ?_;rw[s2.pend];have B:=sQ.congr P λi a b=>R2.out i (.inl b)
    cases e:p.back? with
    | none=>
     dsimp only;refine a_ (fM<|br ⟨_,_,_,rfl,U,(),s2.YE _,?_,λi J=>by rw[R2.out i<|.inr J,G i ()]⟩);rw[s2.pend];exact yM B T R2.cl R2.so
    | some y=>
     obtain⟨y1,y2,y3⟩:=y;dsimp only;refine a_ (d_ (cN (I:=λ_ c st'=>c=(none,Unit.unit)/\∃g' p',Sg N f kd g' p' st'/\PA o g' p' t/\(∀k,t<=k->g' k=K k)) (Q:=λc st'=>c=(none,Unit.unit)/\∃g' p',Sg N f kd g' p' st'/\PA o g' p' t/\(∀k,t<=k->g' k=K k)) ?vstep (λ_ _ h=>h) ⟨rfl,_,_,s2,B,λ_ _=>rfl⟩) ?vpost)
     case vstep=>
      rintro x c st' _ hx ⟨rfl,g',p',h1,h2,h3⟩;refine a_<|gY ?_;rw[h1.pend];by_cases c:p'.size>1
      ·rw[aN c]
       cases e:p'[p'.size-2]? with
       | none=>exact br ⟨rfl,g',p',h1,h2,h3⟩
       | some y=>
        obtain⟨y1,y2,y3⟩:=y;dsimp only;split
        ·exact br ⟨rfl,g',p',h1,h2,h3⟩
        ·refine a_<|G9 C h1 h2 () () λg3 p3 M W L _ Z=>?_;exact br ⟨rfl,g3,p3,W,L,λk V=>by rw[Z k V,h3 k V]⟩
      ·rw[aM c];exact br ⟨rfl,g',p',h1,h2,h3⟩
     case vpost=>
      rintro c st' ⟨rfl,g',p',h1,h2,h3⟩;dsimp only;refine a_ (fM<|a_<|fM<|br ⟨_,_,_,rfl,U,(),(h1.YE _).YE _,?_,λi J=>by rw[h3 i (),R2.out i<|.inr J,G i ()]⟩)
      skip
      rw[h1.pend];exact yM (Bw (λ_=>rfl) h2) T (λi a b=>by rw[h3 i a];exact R2.cl i a b) λi j a b c=>by rw[h3 i a,h3 j ()];exact R2.so i j a b c
 case post=>
  rintro c st' ⟨g,p,rfl,h1,h2⟩;dsimp only;refine a_ (d_ (cN
   (I:=λx c z=>c=(none,Unit.unit)/\∃g p,Sg N f kd g p z/\PA o g p N/\(p.size<=1\/p.size+x<=N))
   (Q:=λc z=>c=(none,Unit.unit)/\∃g p,Sg N f kd g p z/\PA o g p N/\p.size<=1) ?fstep ?ffin ⟨rfl,g,p,h1,h2,.inr ?finit⟩) ?fpost)
  case finit=>
   have:=sQ.le h2;rw[aG]at this;show p.toList.length+0<=N
   lia
  case ffin=>
   rintro c z ⟨rfl,g,p,h1,h2,h3⟩;exact⟨rfl,g,p,h1,h2,()⟩
  case fstep=>
   rintro x c z _ hx ⟨rfl,g,p,h1,h2,h3⟩;refine a_<|gY ?_;rw[h1.pend];by_cases c:p.size<=1
   ·rw[aN c];exact br ⟨rfl,g,p,h1,h2,c⟩
   ·rw[aM c];have il:∀(d:Prop) [Decidable d],(if d then p.size-2-1 else p.size-2)+1<p.size:=λd _=>by
     by_cases hd:d
     ·rw[aN hd];lia
     ·rw[aM hd];lia
    refine a_<|G9 C h1 h2 (aK _) (il _) λg' p' M W L Z _=>?_;exact br ⟨rfl,g',p',W,L,()⟩
  case fpost=>
   rintro c z ⟨rfl,g,p,h1,h2,h3⟩;dsimp only;refine br ?_;unfold PA at h2;have h3:p.toList.length<=1:=h3
   match hl:p.toList,h3 with
   | [],_=>
    rw[hl]at h2;have:0=N:=h2
    lia
   | [x],_=>
    rw[hl]at h2;obtain⟨e1,e2,e3,Y,e5⟩:=h2;have e5:0+x.2.1=N:=e5;have e3:Cl g 0 (0+x.2.1):=e3;have Y:So o g 0 (0+x.2.1):=Y;rw[e5]at e3 Y;exact q g p z h1 e3 Y
end
meta abbrev KQ (h:aq)(a:ak)(vs:ba):aq:=((h.update a<|Obj.mapSeq λ_=>#[]).push<|seqObj "tuple" vs.toArray 0).push<|seqObj "list" #[] 0
def SJ{h:aq}{a:ak}(hb:b≠a)(hlt:b<h.objs.size):(KQ h a vs).get? b=h.get? b:=by
 rw[gZ _ _ _<|by rw[size_push',iG];exact bE<|fh hlt,
  gZ _ _ _ (by rw[iG];exact bE hlt),Heap.get?_update_ne _ _ _ _ hb]
meta abbrev vv (vs:ba)(i:Nat):Keyed:=(vs.getD i .none,vs.getD i .none)
def zip_get(vs:ba){i:Nat}(h:i<vs.length):(vs.toArray.zip vs.toArray)[i]?=some (vv vs i):=by
 have e:vs[i]?=some (vs.getD i .none):=by rw[aL,aI h];rfl
 rw[Array.getElem?_zip_eq_some];exact⟨by rw[eV];exact e,by rw[eV];exact e⟩
section
variable {prog:aj}{w:ah}{A:aA}{E:af->aC->Prop}{s:aC}{o:Ord}{kd:SortKind}
def Br{a:ak}{vs:ba}{n:Nat}{P:PySem.Fin->aC->Prop}(hL:s.heap.get? a=some (seqObj "list" vs.toArray n))(hsz:vs.length<=sizeLine)
  (hkk:2<=vs.length->∀Q:SortKind->aC->Prop,Q kd { s with heap:=KQ s.heap a vs }->wpAny (model prog w) A (keyKind' vs.toArray) Q E { s with heap:=KQ s.heap a vs })
  (C:2<=vs.length->BC prog w A { s with heap:=KQ s.heap a vs } o vs.length (vv vs) kd)
  (h:∀g,Cl g 0 vs.length->So o g 0 vs.length->P (.done<|.ret .none) { s with heap:=sortedHeap s.heap a vs ((List.range vs.length).map λi=>vs.getD (g i) .none).toArray }) :
  wpAny (model prog w) A (Builtin.«list.sort» ⟨[.ref a],[]⟩) P E s:=by
 rw[list_sort_plain];have B:a<s.heap.objs.size:=bh hL;refine aH<|listItems_at hL rfl ?_;refine aH (listUpdate_at hL rfl ?_ (by rw[aZ];exact hsz)<|bK _);obtain⟨ep,F⟩:∃ep,(s.heap.update a<|Obj.mapSeq λ_=>#[]).get? a=some (seqObj "list" #[] ep):=⟨_,get?_update_seq hL λ_=>#[]⟩;refine aH<|seqEpoch_at F rfl ?_;refine aH<|wpAny_newTuple ?_;refine aH<|ji ?_;refine c8 ?_;have q:(KQ s.heap a vs).get? a=some (seqObj "list" #[] ep):=by
  rw[gZ _ _ _<|by rw[size_push',iG];exact bE<|fh B,gZ _ _ _<|by rw[iG];exact bE B];exact F
 skip
 dsimp only;have K:vs.toArray.size=vs.length:=by simp
 have L:∀i,i<vs.length->vs[i]?=some (vs.getD i .none):=λi t=>by rw[aL,aI t];rfl
 have wG:∀(arr:Array Keyed) (g:Nat->Nat),arr.size=vs.length->(∀i,i<vs.length->arr[i]?=some (vv vs<|g i))->arr.map (·.2)=((List.range vs.length).map λi=>vs.getD (g i) .none).toArray:=λarr g h1 k=>by
  apply Array.ext_getElem?;intro i;have e0:((List.range vs.length).map λi=>vs.getD (g i) Value.none).toArray[i]?=((List.range vs.length).map λi=>vs.getD (g i) Value.none)[i]?:=eV ..;rw[Array.getElem?_map,e0,aX];by_cases c:i<vs.length
  ·rw[k i c,gv c];rfl
  ·rw[fN (),fZ<|by rw[b_];lia];rfl
 by_cases k:vs.toArray.size<2
 ·rw[aN k,aN k];refine aH<|aR ?_;rw[StateT.run_pure];refine aH<|aR ?_;dsimp only;refine aH<|seqEpoch_at q rfl ?_;have G:=wG (vs.toArray.zip vs.toArray) (λi=>i) (by rw[jB,K];lia) λi t=>zip_get vs t;refine aH (listUpdate_at q rfl ?_ (by simp) (hsz2:=by rw[size_map];show(vs.toArray.zip vs.toArray).size<=_;rw[jB,K];lia));dsimp[bne_self_eq_false,bD,cF];refine aR ?_;have:=h (λi=>i) (λi a b=>⟨a,b⟩) λi j a b c=>();rw[<- G]at this;exact this
 ·rw[aM k,aM k];have z:2<=vs.length:=()
  refine aH<|hkk z _ ?_;refine aH (gb (Tt (f:=vv vs) (N:=vs.length) (C z) (st:=SortSt.mk' kd (vs.toArray.zip vs.toArray) #[] 7 none)
   (Q:=λ_ d=>∃g p,Sg vs.length (vv vs) kd g p d/\Cl g 0 vs.length/\So o g 0 vs.length)
   ⟨by show(vs.toArray.zip vs.toArray).size=_;rw[jB,K];lia,λi t=>zip_get vs t,λi t=>t,rfl,rfl,rfl⟩ () λW T d V O M=>⟨W,T,V,O,M⟩) ?_ λ_ _ e=>e)
  rintro⟨⟨⟩,d⟩ s' ⟨rfl,g,p,hS,hc,J⟩;dsimp only;refine aH<|seqEpoch_at q rfl ?_;have G:=wG (arrOf d) g hS.size hS.get;refine aH (listUpdate_at q rfl ?_ (by simp) (hsz2:=by have U:(arrOf d).size=vs.length:=hS.size;show((arrOf d).map (·.2)).size<=_;rw[size_map,U];lia));rw[hS.failed];dsimp[bne_self_eq_false,bD,cF];have:=h g hc J;rw[<- G]at this;exact aR this
end
section
variable {prog:aj}{w:ah}{A:aA}{E:af->aC->Prop}{s:aC}
def K_(b:Bool)(x y:af):keyLt' (tuples' b) x y=(do
  let us <- Builtin.List.listItems x
  let vs <- Builtin.List.listItems y
  for ((u,v),k)in (us.toList.zip vs.toList).zipIdx do
   if !(<- eqBool u v)then return <- oneLt' (b && k == 0) u v
  return us.size<vs.size):=rfl
def HU(b:Bool){x y:Int}{t:Tok}{Q:Bool->aC->Prop}(h:Q (decide<|x<y) s):wpAny (model prog w) A (oneLt' b (.int x t)<|.int y u) Q E s:=by
 cases b with
 | true=>exact oneLt_int h
 | false=>
  rw[oneLt'_eq];dsimp[bD,cF];exact aH<|PySem.P.lt_int<|dh h
def GW(b:Bool){l k:ak}{xs ys:ba}{ns:ag}{Q:Bool->aC->Prop}(hl:IsTup s.heap l xs.toArray)(hk:IsTup s.heap k ys.toArray)(hi:IntsAre xs ns)(hj:IntsAre ys ms)(h:Q (HT.lexLt ns ms) s) :
  wpAny (model prog w) A (keyLt' (tuples' b) (.ref l)<|.ref k) Q E s:=by
 rw[K_];obtain⟨L,j,_,O,B⟩:=hl;obtain⟨M,g,_,N,F⟩:=hk;refine aH<|listItems_at j B ?_;refine aH<|listItems_at g F ?_;have z:∀(xs ys:ba) (ns ms:ag) (n:Nat),IntsAre xs ns->IntsAre ys ms->∀f:bi×Unit->aC->Prop,(∀r,(r=some (HT.lexLt ns ms)\/(r=none/\HT.lexLt ns ms=decide (xs.length<ys.length)))->f (r,Unit.unit) s) ->
   wpAny (model prog w) A (forIn ((xs.zip ys).zipIdx n) ((none,Unit.unit):bi×Unit) λx c=>match x with
      | ((p,q),i)=>do
       let e <- eqBool p q
       if (!e)=true then do
         let r <- oneLt' (b && i == 0) p q
         pure (ForInStep.done (some r,Unit.unit))
        else pure (ForInStep.yield (none,Unit.unit))) f E s:=by
  intro xs
  induction xs with
  | nil=>
   intro ys ns ms n h1 h2 f q
   cases h1
   rw[List.zip_nil_left,List.zipIdx_nil,iY];refine aR (q none<|.inr ⟨rfl,?_⟩)
   cases h2 with
   | nil=>rw[HT.rZ];rfl
   | cons a t h2=>rw[HT.oG,bg<|by simp]
  | cons v K G=>
   intro ys ns ms n h1 h2 f q
   cases h1 with
   | cons a t h1=>
    cases h2 with
    | nil=>
     rw[List.zip_nil_right,List.zipIdx_nil,iY];exact aR<|q none<|.inr ⟨rfl,by rw[HT.qE,bB<|by simp]⟩
    | cons c u h2=>
     rw[List.zip_cons_cons,jk,jA];rw[HT.tu]at q;dsimp only;refine aH<|aH<|wpAny_eqBool_int ?_;by_cases e:a=c
     ·rw[aN e]at q;subst e;dsimp[bT,bW,bD,cF];refine aR (G _ _ _ _ h1 h2 _ λr d=>q r ?_)
      rcases d with d|⟨d,C⟩
      ·exact .inl d
      ·exact .inr ⟨d,by rw[C];simp⟩
     ·rw[aM e]at q;have J:(a == c)=false:=by simpa using e
      dsimp[J,cV,dJ];exact aH<|HU _<|aR<|aR<|q _<|.inl rfl
 refine aH (z xs ys ns ms 0 hi hj _ λr d=>?_)
 rcases d with rfl|⟨rfl,C⟩
 ·exact aR h
 ·dsimp only;rw[aZ,aZ,<- C];exact aR h
end
theorem CY:∀a:ag,HT.lexLt a a=false
 | []=>HT.rZ
 | x::a=>by rw[HT.tu,aN rfl];exact CY a
theorem Dg:∀{a b c:ag},HT.lexLt a b=true->HT.lexLt b c=true->HT.lexLt a c=true
 | [],[],_,h,_=>by rw[HT.rZ]at h;cases h
 | x::a,[],_,h,_=>by rw[HT.qE]at h;cases h
 | _,y::b,[],_,h=>by rw[HT.qE]at h;cases h
 | [],y::b,z::c,_,_=>HT.oG ..
 | x::a,y::b,z::c,h1,h2=>by
  rw[HT.tu]at h1 h2 ⊢;by_cases e1:x=y
  ·rw[aN e1]at h1;by_cases e2:y=z
   ·rw[aN e2]at h2;rw[aN<|e1.trans e2];exact Dg h1 h2
   ·rw[aM e2]at h2;have:=bY h2;rw[aM<|by omega];exact bg<|by omega
  ·rw[aM e1]at h1;have d:=bY h1;by_cases e2:y=z
   ·rw[aM<|by omega];exact bg (by omega)
   ·rw[aM e2]at h2;have:=bY h2;rw[aM<|by omega];exact bg<|by omega
theorem xr:∀{a b:ag},HT.lexLt a b=false->HT.lexLt b a=false->a=b
 | [],[],_,_=>rfl
 | [],y::b,h,_=>by rw[HT.oG]at h;cases h
 | x::a,[],_,h=>by rw[HT.oG]at h;cases h
 | x::a,y::b,h1,h2=>by
  rw[HT.tu]at h1 h2;by_cases e:x=y
  ·rw[aN e]at h1;rw[aN e.symm]at h2;rw[e,xr h1 h2]
  ·rw[aM e]at h1;rw[aM λz=>e z.symm]at h2;have:=eO h1;have:=eO h2;omega
def Ig{a c:ag}(h:HT.lexLt a c=true):HT.lexLt a b=true\/HT.lexLt b c=true:=by
 cases e:HT.lexLt a b with
 | true=>exact .inl rfl
 | false=>
  right
  cases e2:HT.lexLt b a with
  | true=>exact Dg e2 h
  | false=>rw[<- xr e e2];exact h
abbrev Gp (kss:List<|ag):Ord where
 lt i j:=HT.lexLt (kss.getD i []) (kss.getD j [])
 NB i:=CY _
 tr i j k:=Dg
 neg i j k:=Ig
section
variable {prog:aj}{w:ah}{A:aA}{E:af->aC->Prop}{s:aC}
theorem Ke{α β:Type}{f:α->Sem β}(r:α->β):∀(l:List α),(∀a∈l,∀Q:β->aC->Prop,Q (r a) s->wpAny M A (f a) Q E s)->∀Q:List β->aC->Prop,Q (l.map r) s->wpAny M A (l.mapM f) Q E s
 | [],_,Q,q=>by rw[List.mapM_nil];exact aR q
 | a::l,h,Q,q=>by
  rw[List.mapM_cons];refine aH<|h a (aO ..) _<|aH<|Ke r l (λb hb=>h b<|aQ _ hb) _<|aR q
def Im{α β:Type}{f:α->Sem β}(r:α->β)(l:List α)(h:∀a∈l,∀Q:β->aC->Prop,Q (r a) s->wpAny M A (f a) Q E s)(Q:Array β->aC->Prop)(q:Q (l.map r).toArray s):wpAny M A (l.toArray.mapM f) Q E s:=by
 rw[List.mapM_toArray,map_eq_pure_bind];exact aH<|Ke r l h _<|aR q
def QC(u:af):firstOfTuple' u=(do
  if (<- typeOf u) != .type "tuple" then return none
  return (<- Builtin.List.listItems u)[0]?):=rfl
def Lu{vs:ba}(h0:vs≠[])(ht:∀v∈vs,∃(l:ak) (xs:ba) (n:Int) (t:Tok),v=.ref l/\IsTup s.heap l (.int n t::xs).toArray){Q:SortKind->aC->Prop}(q:Q (tuples' true) s) :
  wpAny (model prog w) A (keyKind' vs.toArray) Q E s:=by
 have p:∀v,∃x:Int×Tok,v∈vs->∃(l:ak) (xs:ba),v=.ref l/\IsTup s.heap l (.int x.1 x.2::xs).toArray:=λv=>by
  by_cases c:v∈vs
  ·obtain⟨l,xs,n,t,e1,e2⟩:=ht v c;exact⟨(n,t),λ_=>⟨l,xs,e1,e2⟩⟩
  ·exact⟨(0,0),λz=>absurd z c⟩
 obtain⟨F,k⟩:=Classical.axiomOfChoice p;rw[keyKind'_eq];refine aH (Im (λv=>some<|Value.int (F v).1 (F v).2) vs (λv hv G g=>?_) _ ?_)
 ·obtain⟨l,xs,rfl,o,j,hc,n,C⟩:=k v hv;rw[QC];refine aH<|ju (T := "tuple") ⟨o,j,hc⟩ ?_;rw[aM ⋯];exact aH (listItems_at j C<|aR g)
 ·rw[aN<|by simp];refine aH<|d8 ?_;have e1:(vs.map λv=>some<|Value.int (F v).1 (F v).2).toArray.filterMap id=(vs.map λv=>Value.int (F v).1 (F v).2).toArray:=by
   rw[List.filterMap_toArray,List.filterMap_map];congr 1;rw[show(id ∘ λv=>some<|Value.int (F v).1 (F v).2)=λv=>some (Value.int (F v).1 (F v).2)from rfl];exact congrFun List.filterMap_eq_map' vs
  rw[e1,oneTypeOnly'_eq];refine aH (aH<|Im (λ_=>Value.type "int") _ (λv hv G g=>?_) _ ?_)
  ·obtain⟨u,_,rfl⟩:=bu.mp hv;exact aR g
  ·rw[bz];obtain⟨f,d,rfl⟩:∃f d,vs=f::d:=by
    cases vs with
    | nil=>exact absurd rfl h0
    | cons a b=>exact⟨a,b,rfl⟩
   have ha:((List.map ((λ_=>Value.type "int") ∘ λv=>Value.int (F v).1 (F v).2) (f::d)).toArray.all λx=>x == Value.type "int")=true:=by
    dsimp[List.all_toArray,jw,dO];intro _ _;rfl
   have B:(List.map ((λ_=>Value.type "int") ∘ λv=>Value.int (F v).1 (F v).2) (f::d)).toArray[0]?=some (Value.type "int"):=by simp
   rw[B];dsimp[ha,dJ];exact aR<|aR q
end
end Sx
namespace L2
open PySem PySem.Spec PyProof.Rows
section
variable {X:Cx}
theorem xT:∀{rs:bb}{its:ba},Vals (rs.map V.ref) its->its=rs.map Value.ref
 | [],_,r=>by cases r;rfl
 | a::rs,_,r=>by
  cases r with
  | cons h t=>
   have e:_=Value.ref a:=h;rw[e,xT t];rfl
theorem B3:∀(rs:bb),Vals (rs.map V.ref) (rs.map Value.ref)
 | []=>.nil
 | a::rs=>.cons (show RelV (.ref a) (.ref a)from rfl)<|B3 rs
def xM{s:aC}{H:Hp}{Q:VK}{h':aq}{tk:Nat}{rs:bb}{kss:List<|ag}(I1:Inv X pins σ H { s with heap:=h',toks:=tk })(hlen:rs.length=kss.length)(hz:rs.length<=sizeLine)
  (hT:∀(i:Nat) (r:ak) (ks:ag),rs[i]?=some r->kss[i]?=some ks->nF X.K H r (ks.map V.int)/\ks≠[])
  (q:∀l g,H l=none->Sx.Cl g 0 kss.length->Sx.So (Sx.Gp kss) g 0 kss.length->Q (.ref l) (upd H l<|.lst<|((List.range kss.length).map λi=>rs.getD (g i) 0).map V.ref)) :
  wpAny (model X.prog X.w) X.A.in1 (do
   let l <- newList (rs.map Value.ref)
   let _ <- holding [l] (call (Value.builtin "list.sort") [l] [])
   ret l) (λfin s'=>∃v,fin=Fin.done (Flow.ret v)/\EP X pins σ Q v s') X.xe { s with heap:=h',toks:=tk }:=by
 have B:(rs.map Value.ref).length=kss.length:=by rw[aG,hlen]
 refine aH<|ji ?_;have f:(h'.push<|seqObj "list" (rs.map Value.ref).toArray 0).get? h'.objs.size=some (seqObj "list" (rs.map Value.ref).toArray 0):=bA _ rfl
 skip
 have tup:∀(i:Nat) (r:ak) (ks:ag),rs[i]?=some r->kss[i]?=some ks->∃d:ba,IntsAre d ks/\IsTup (Sx.KQ (h'.push<|seqObj "list" (rs.map Value.ref).toArray 0) h'.objs.size<|rs.map Value.ref) r d.toArray:=λi r ks e1 e2=>by
  obtain⟨d,W,⟨o,N,hc,n,hd⟩,_⟩:=I1.tuple (hT i r ks e1 e2).1;refine⟨d,intsAre_of W,o,?_,hc,n,hd⟩;have lt:r<h'.objs.size:=bh N;rw[Sx.SJ (bE lt)<|by rw[dw];exact fh lt];exact aV _ N
 refine aH (c8<|c9 slot_list_sort ⟨_,f,rfl⟩ entry_list_sort (Sx.Br (o:=Sx.Gp kss) (kd:=tuples' true) f (by rw[B];lia) (λh2 L G=>?_) (λh2 i j k O U L G=>?_) λg hc hs=>⟨_,rfl,?_⟩)<|args_list_sort _)
 ·refine Sx.Lu (λz=>by rw[z]at h2;simp at h2) (λv hv=>?_) G;obtain⟨i,k⟩:=gf hv;rw[aX]at k;obtain⟨r,C,rfl⟩:=aY.mp k;have lt:=(aJ.mp C).1;have e2:kss[i]?=some kss[i]:=aI ();obtain⟨d,h1,h3⟩:=tup i r _ C e2;have p:=(hT i r _ C e2).2;generalize kss[i]=ks at h1 p
  cases h1 with
  | nil=>exact absurd rfl p
  | cons a t h1=>exact⟨r,_,a,t,rfl,h3⟩
 ·rw[B]at k O;have e1:rs[i]?=some (rs[i]'()):=aI _;have e2:rs[j]?=some (rs[j]'()):=aI _;have J:kss[i]?=some kss[i]:=aI k;have M:kss[j]?=some kss[j]:=aI O;obtain⟨x1,a1,b1⟩:=tup i _ _ e1 J;obtain⟨x2,Y,T⟩:=tup j _ _ e2 M;have v1:(rs.map Value.ref).getD i .none=.ref (rs[i]'()):=by rw[aL,aX,e1];rfl
  have v2:(rs.map Value.ref).getD j .none=.ref (rs[j]'()):=by rw[aL,aX,e2];rfl
  show wpAny _ _ (keyLt' (tuples' true) ((rs.map Value.ref).getD i .none)<|(rs.map Value.ref).getD j .none) L U _;rw[v1,v2];refine Sx.GW true b1 T a1 Y ?_;have Z:kss.getD i []=kss[i]:=by rw[aL,J];rfl
  have P:kss.getD j []=kss[j]:=by rw[aL,M];rfl
  have:(Sx.Gp kss).lt i j=HT.lexLt kss[i] kss[j]:=by show HT.lexLt _ _=_;rw[Z,P]
  rw[<- this];exact G
 ·rw[B]at hc hs ⊢;obtain⟨e,he⟩:=sortedHeap_at (out:=((List.range kss.length).map λi=>(rs.map Value.ref).getD (g i) .none).toArray) f;have old:∀b ob,h'.get? b=some ob->(sortedHeap (h'.push<|seqObj "list" (rs.map Value.ref).toArray 0) h'.objs.size (rs.map Value.ref) ((List.range kss.length).map λi=>(rs.map Value.ref).getD (g i) .none).toArray).get? b=some ob:=λb ob F=>by
   rw[sortedHeap_old (bE<|bh F)<|by rw[dw];exact fh<|bh F];exact aV _ F
  refine aR ⟨_,rfl,.ref h'.objs.size,_,I1.laid (t':=tk) (o:=.lst<|((List.range kss.length).map λi=>rs.getD (g i) 0).map V.ref) old (aK _) ?_,rfl,q _ g (I1.hok.fresh<|aK _) hc hs⟩;refine⟨by rw[aG,aG,b_];lia,((List.range kss.length).map λi=>rs.getD (g i) 0).map Value.ref,e,B3 _,?_⟩;rw[he];congr 2;rw[bz];congr 1;refine cB λi k=>?_;have:=(hc i (bK _)<|cO.mp k).2;have lt:g i<rs.length:=()
  show(rs.map Value.ref).getD (g i) .none=Value.ref (rs.getD (g i) 0);rw[aL,aX,aI lt,aL,aI lt];rfl
def Cf:kj X (.builtin "sorted") (λxs H Q=>∃(p:ak) (rs:bb) (kss:List<|ag),xs=[.ref p]/\qK X.K H p (rs.map V.ref)/\rs.length=kss.length /\
  (∀(i:Nat) (r:ak) (ks:ag),rs[i]?=some r->kss[i]?=some ks->nF X.K H r (ks.map V.int)/\ks≠[]) /\
  ∀l g,H l=none->Sx.Cl g 0 kss.length->Sx.So (Sx.Gp kss) g 0 kss.length->Q (.ref l) (upd H l<|.lst<|((List.range kss.length).map λi=>rs.getD (g i) 0).map V.ref)):=by
 kt_k;obtain⟨p,rs,kss,rfl,hq,d,G,q⟩:=h;kpc_g
 cases rx
 obtain⟨t,z,pl,j⟩:=I.list hq;have C:=xT z;subst C;obtain⟨o,B,f,n,J⟩:=pl.isList;rw[aG]at j;have k:(rs.map Value.ref).length=kss.length:=by rw[aG,d]
 refine dM kind_sorted iS iT (iU _) ?_;unfold Builtin.«sorted»;f_are;refine aH<|wpAny_collect_seq p (.inl rfl) B f J (λh' F=>xM (s:=s) (I.kept (t':=s.toks) F) d j G q)<|by rw[aZ,k];lia
end
end L2
namespace Am
open PySem
inductive A where
 | unb|non|bl (b:Bool)|int (i:Int)|str (x:Str)|tup (xs:List A)|frz (xs:List A)|rng (lo hi:Int)|ref (n:Nat)|exn (c:Str)|ty (n:String)|ktu (xs:List A)
@[reducible]def ae:=List A
inductive O where
 | lst (xs:ae)|dct (kvs:List<|ag×A)|qc (kvs:List<|Int×A)|vh (kvs:List<|L2.mT×A)|dcf (kvs:List<|ag×A)|ins (c:Str) (fs:List<|Str×A)
meta abbrev jK:=List O
inductive R (α:Type) where
 | ok (a:α) (S:jK)|ex (c:Str) (S:jK)|no
abbrev R.bind {α β:Type}(r:R α)(f:α->jK->R β):R β:=match r with
 | .ok a S=>f a S
 | .ex c S=>.ex c S
 | .no=>.no
abbrev R.post {α:Type}(r:R α)(P:α->jK->Prop)(E:Str->jK->Prop):Prop:=match r with
 | .ok a S=>P a S
 | .ex c S=>E c S
 | .no=>False
def jT{α β:Type}{r:R α}{f:α->jK->R β}{P:β->jK->Prop}{E:Str->jK->Prop}(h:(r.bind f).post P E):r.post (λa S=>(f a S).post P E) E:=by
 cases r<;>exact h
def Ll{α:Type}{r:R α}{P P':α->jK->Prop}{E E':Str->jK->Prop}(h:r.post P E)(hp:∀a S,P a S->P' a S)(he:∀c S,E c S->E' c S):r.post P' E':=by
 cases r with
 | ok a S=>exact hp _ _ h
 | ex c S=>exact he _ _ h
 | no=>exact h.elim
abbrev gd {α:Type}(c:Prop)[Decidable c](r:R α):R α:=if c then r else .no
abbrev opt {α β:Type}(o:Option β)(f:β->R α):R α:=match o with
 | some b=>f b
 | none=>.no
def kc{α:Type}{c:Prop}[Decidable c]{r:R α}{P:α->jK->Prop}{E:Str->jK->Prop}(h:(gd c r).post P E):c/\r.post P E:=by
 unfold gd at h;by_cases hc:c
 ·rw[aN hc]at h;exact⟨hc,h⟩
 ·rw[aM hc]at h;exact h.elim
def jN{α β:Type}{o:Option β}{f:β->R α}{P:α->jK->Prop}{E:Str->jK->Prop}(h:(opt o f).post P E):∃b,o=some b/\(f b).post P E:=by
 cases o with
 | none=>exact h.elim
 | some b=>exact⟨b,rfl,h⟩
def Ti{α:Type}{c:Prop}[Decidable c]{r:R α}(h:c):gd c r=r:=aN h
abbrev jI (S:jK)(n:Nat):Option (ae):=match S[n]? with
 | some (.lst xs)=>some xs
 | _=>none
def jW{n:Nat}(h:jI S n=some xs):S[n]?=some (.lst xs):=by
 unfold jI at h;split at h
 ·rename_i e;cases h;exact e
 ·cases h
def mQ{S:jK}{n:Nat}(h:S[n]?=some (.lst xs)):jI S n=some xs:=by
 unfold jI;rw[h]
inductive RS where
 | nx (τ:ae) (S:jK)|rt (a:A) (S:jK)|bk (τ:ae) (S:jK)|ct (τ:ae) (S:jK)|ex (c:Str) (S:jK)|no
meta abbrev Ex:=ae->jK->R A
meta abbrev rR:=ae->jK->R (ae)
meta abbrev Te:=ae->jK->R Bool
meta abbrev Sm:=ae->jK->RS
meta abbrev Tg:=A->ae->jK->R (ae)
end Am
namespace Am
open PySem L2
section
variable (K:au) (ρ:bb) (H:Hp)
abbrev ClN (K:au)(c:Str)(C:ak):Prop:=PySem.W.nsIn K mainGlobals c=some (some<|.ref C)
abbrev Fz (K:au)(H:Hp)(a:ak)(vs:List V):Prop:=
 (∃o,H a=some (.frz o<|.lst vs))\/∃(o:Obj) (d:Array af) (n:Nat),K.lookup a=some o/\o.cls=.type "list" /\ o.dict=none/\o.data=.seq d n/\d.size<=sizeLine/\Vals vs d.toList
abbrev KTp (K:au)(a:ak)(vs:List V):Prop:=∃(o:Obj) (d:Array af) (n:Nat),K.lookup a=some o/\o.cls=.type "tuple" /\ o.dict=none/\o.data=.seq d n/\d.size<=sizeLine/\Vals vs d.toList
mutual
inductive AV:A->V->Prop
 | non:AV .non .non
 | bl (b:Bool):AV (.bl b) (.bl b)
 | int (i:Int):AV (.int i) (.int i)
 | str (x:Str):AV (.str x) (.str x)
 | ty (n:String):AV (.ty n) (.ty n)
 | tup {a:ak} {xs:ae} {vs:List V} (h:H a=some (.tup vs)) (r:AVs xs vs):AV (.tup xs) (.ref a)
 | frz {a:ak} {xs:ae} {vs:List V} (h:Fz K H a vs) (r:AVs xs vs):AV (.frz xs) (.ref a)
 | rng {a:ak} {lo hi:Int} (h:H a=some (.rng lo hi)):AV (.rng lo hi) (.ref a)
 | ref {a:ak} {n:Nat} (h:ρ[n]?=some a):AV (.ref n) (.ref a)
 | exn {a C:ak} {c:Str} {oe:Obj} (n:ClN K c C) (h:H a=some (.frz oe xu)) (x:XO C oe):AV (.exn c) (.ref a)
 | ktu {a:ak} {xs:ae} {vs:List V} (h:KTp K a vs) (r:AVs xs vs):AV (.ktu xs)<|.ref a
inductive AVs:ae->List V->Prop
 | nil:AVs [] []
 | cons {x:A} {v:V} {xs:ae} {vs:List V} (h:AV x v) (t:AVs xs vs):AVs (x::xs) (v::vs)
end
abbrev DV:List (ag×A)->List (List Key×V)->Prop
 | [],[]=>True
 | p::r,q::r'=>(q.1=p.1.map Sum.inl/\AV K ρ H p.2 q.2)/\DV r r'
 | _,_=>False
abbrev DI:List (Int×A)->List (Key×V)->Prop
 | [],[]=>True
 | p::r,q::r'=>(q.1=Sum.inl p.1/\AV K ρ H p.2 q.2)/\DI r r'
 | _,_=>False
abbrev DP:List (L2.mT×A)->List (L2.mT×ak×af)->Prop
 | [],[]=>True
 | p::r,q::r'=>(q.1=p.1/\L2.sq H q.2.1 q.1/\∃v,RelV v q.2.2/\AV K ρ H p.2 v)/\DP r r'
 | _,_=>False
abbrev OR (a:ak):O->Prop
 | .lst xs=>∃d,H a=some (.lst d)/\AVs K ρ H xs d
 | .dct kvs=>∃ks,H a=some (.dT ks)/\DV K ρ H kvs ks
 | .qc kvs=>∃ks,H a=some (.dK ks)/\DI K ρ H kvs ks
 | .vh kvs=>∃xs,H a=some (.ext<|L2.wI a xs)/\DP K ρ H kvs xs
 | .dcf kvs=>∃o ks,H a=some (.frz o<|.dT ks)/\DV K ρ H kvs ks
 | .ins _ _=>∃o u,H a=some (.frz o u)
structure Rel (S:jK):Prop where
 len:ρ.length=S.length
 nd:ρ.Nodup
 «at»:∀(n:Nat) (a:ak) (o:O),ρ[n]?=some a->S[n]?=some o->OR K ρ H a o
end
abbrev Imm:HO->Prop
 | .tup _=>True
 | .rng _ _=>True
 | .frz _ _=>True
 | _=>False
structure Ext0 (ρ ρ':bb)(H H':Hp):Prop where
 pre:ρ <+: ρ'
 im:∀a u,Imm u->H a=some u->H' a=some u
structure Ext (ρ ρ':bb)(H H':Hp):Prop extends Ext0 ρ ρ' H H' where
 fr:∀a u,H a=some u->a∉ρ->H' a=some u
 nw:∀a,a∈ρ'->a∈ρ\/H a=none
def Ext.refl{H:Hp}:Ext ρ ρ H H:=⟨⟨dP _,λ_ _ _ h=>h⟩,λ_ _ h _=>h,λ_ h=>.inl h⟩
def Ext.trans{H H1 H2:Hp}(a:Ext ρ ρ1 H H1)(b:Ext ρ1 ρ2 H1 H2):Ext ρ ρ2 H H2:=⟨⟨a.pre.trans b.pre,λx u i h=>b.im x u i<|a.im x u i h⟩,λx u h n=>b.fr x u (a.fr x u h n) λz=>(a.nw x z).elim n λz=>by(rw[z]at h;cases h),λx h=>by
 by_cases d:x∈ρ
 ·exact .inl d
 ·right
  cases q:H x with
  | none=>rfl
  | some u=>
   rcases b.nw x h with z|z
   ·exact((a.nw x z).elim d λz=>by(rw[z]at q;cases q)).elim
   ·rw[a.fr x u q d]at z;cases z⟩
def Ext0.get{H H':Hp}(e:Ext0 ρ ρ' H H'){n:Nat}{a:ak}(h:ρ[n]?=some a):ρ'[n]?=some a:=by
 obtain⟨t,rfl⟩:=e.pre;rw[bw (aJ.mp h).1];exact h
section
variable {K:au}{ρ ρ':bb}{H H':Hp}
def Ext0.sqT(e:Ext0 ρ ρ' H H'){a:ak}(h:nF K H a vs):nF K H' a vs:=by
 rcases h with(h|⟨o,h⟩)|h
 ·exact .inl (.inl<|e.im _ _ trivial h)
 ·exact .inl (.inr ⟨o,e.im _ _ trivial h⟩)
 ·exact .inr h
def Ext0.fz(e:Ext0 ρ ρ' H H'){a:ak}(h:Fz K H a vs):Fz K H' a vs:=by
 rcases h with⟨o,h⟩|h
 ·exact .inl ⟨o,e.im _ _ trivial h⟩
 ·exact .inr h
def Fz.TH{a:ak}(h:Fz K H a vs):qK K H a vs:=by
 rcases h with⟨o,h⟩|h
 ·exact .inl (.inr ⟨o,h⟩)
 ·exact .inr h
mutual
theorem AV.mq(e:Ext0 ρ ρ' H H'):∀{x:A}{v:V},AV K ρ H x v->AV K ρ' H' x v
 | _,_,.non=>.non
 | _,_,.bl b=>.bl b
 | _,_,.int i=>.int i
 | _,_,.str x=>.str x
 | _,_,.ty x=>.ty x
 | _,_,.tup h r=>.tup (e.im _ _ trivial h) (AVs.mq e r)
 | _,_,.frz h r=>.frz (e.fz h) (AVs.mq e r)
 | _,_,.rng h=>.rng (e.im _ _ trivial h)
 | _,_,.ref h=>.ref (e.get h)
 | _,_,.exn n h x=>.exn n (e.im _ _ trivial h) x
 | _,_,.ktu h r=>.ktu h<|AVs.mq e r
theorem AVs.mq(e:Ext0 ρ ρ' H H'):∀{xs:ae}{vs:List V},AVs K ρ H xs vs->AVs K ρ' H' xs vs
 | _,_,.nil=>.nil
 | _,_,.cons h t=>.cons (AV.mq e h)<|AVs.mq e t
end
theorem DV.mq(e:Ext0 ρ ρ' H H'):∀{xs:List<|ag×A}{vs:List<|List Key×V},DV K ρ H xs vs->DV K ρ' H' xs vs
 | [],[],_=>trivial
 | _::_,_::_,⟨⟨a,b⟩,r⟩=>⟨⟨a,AV.mq e b⟩,DV.mq e r⟩
def DV.ext{x:List<|ag×A}{v:List<|List Key×V}(h:DV K ρ H x v)(e:Ext ρ ρ' H H'):DV K ρ' H' x v:=DV.mq e.toExt0 h
theorem DI.mq(e:Ext0 ρ ρ' H H'):∀{xs:List<|Int×A}{vs:List<|Key×V},DI K ρ H xs vs->DI K ρ' H' xs vs
 | [],[],_=>trivial
 | _::_,_::_,⟨⟨a,b⟩,r⟩=>⟨⟨a,AV.mq e b⟩,DI.mq e r⟩
def DI.ext{x:List<|Int×A}{v:List<|Key×V}(h:DI K ρ H x v)(e:Ext ρ ρ' H H'):DI K ρ' H' x v:=DI.mq e.toExt0 h
def sq.mq{k:L2.mT}(e:Ext0 ρ ρ' H H'):L2.sq H b k->L2.sq H' b k:=λ⟨r1,r2,h1,h2,h3⟩=>⟨r1,r2,e.im _ _ trivial h1,e.im _ _ trivial h2,e.im _ _ trivial h3⟩
theorem DP.mq(e:Ext0 ρ ρ' H H'):∀{xs:List<|L2.mT×A}{vs:List<|L2.mT×ak×af},DP K ρ H xs vs->DP K ρ' H' xs vs
 | [],[],_=>trivial
 | _::_,_::_,⟨⟨a,k,v,c,b⟩,r⟩=>⟨⟨a,sq.mq e k,v,c,AV.mq e b⟩,DP.mq e r⟩
def DP.ext{x:List<|L2.mT×A}{v:List<|L2.mT×ak×af}(h:DP K ρ H x v)(e:Ext ρ ρ' H H'):DP K ρ' H' x v:=DP.mq e.toExt0 h
def AV.ext{x:A}{v:V}(h:AV K ρ H x v)(e:Ext ρ ρ' H H'):AV K ρ' H' x v:=AV.mq e.toExt0 h
def AVs.ext{x:ae}{v:List V}(h:AVs K ρ H x v)(e:Ext ρ ρ' H H'):AVs K ρ' H' x v:=AVs.mq e.toExt0 h
theorem AVs.length:∀{xs:ae}{vs:List V},AVs K ρ H xs vs->xs.length=vs.length
 | _,_,.nil=>rfl
 | _,_,.cons _ t=>c7 (·+1)<|AVs.length t
theorem AVs.append:∀{xs ys:ae}{vs ws:List V},AVs K ρ H xs vs->AVs K ρ H ys ws->AVs K ρ H (xs++ys) (vs++ws)
 | _,_,_,_,.nil,s=>s
 | _,_,_,_,.cons h t,s=>.cons h<|AVs.append t s
theorem AVs.take:∀{xs:ae}{vs:List V}(n:Nat),AVs K ρ H xs vs->AVs K ρ H (xs.take n) (vs.take n)
 | _,_,0,_=>.nil
 | _,_,_+1,.nil=>.nil
 | _,_,n+1,.cons h t=>.cons h<|AVs.take n t
theorem AVs.get:∀{xs:ae}{vs:List V}{i:Nat}{x:A},AVs K ρ H xs vs->xs[i]?=some x->∃v,vs[i]?=some v/\AV K ρ H x v
 | _,_,_,_,.nil,e=>by simp at e
 | _,_,0,_,.cons h _,e=>by simp at e;subst e;exact⟨_,rfl,h⟩
 | _,_,i+1,x,.cons _ t,e=>by
  obtain⟨u,h1,h2⟩:=AVs.get (i:=i) (x:=x) t (by simpa using e);exact⟨u,by simpa using h1,h2⟩
theorem AVs.set{x:A}{v:V}(h:AV K ρ H x v):∀{xs:ae}{vs:List V}(i:Nat),AVs K ρ H xs vs->AVs K ρ H (xs.set i x) (vs.set i v)
 | _,_,_,.nil=>.nil
 | _,_,0,.cons _ t=>.cons h t
 | _,_,i+1,.cons q t=>.cons q<|AVs.set h i t
def AVs.one{x:A}{v:V}(h:AV K ρ H x v):AVs K ρ H [x] [v]:=.cons h .nil
theorem AVs.eraseIdx:∀{xs:ae}{vs:List V}(i:Nat),AVs K ρ H xs vs->AVs K ρ H (xs.eraseIdx i) (vs.eraseIdx i)
 | _,_,_,.nil=>.nil
 | _,_,0,.cons _ t=>t
 | _,_,i+1,.cons q t=>.cons q<|AVs.eraseIdx i t
theorem oq:∀(ns:ag),AVs K ρ H (ns.map .int) (ns.map .int)
 | []=>.nil
 | n::ns=>.cons (.int n)<|oq ns
def Rel.lay{S:jK}{p:ak}(R:Rel K ρ H S)(hp:H p=none)(r:AVs K ρ H xs vs):Ext ρ (ρ++[p]) H (upd H p<|.lst vs)/\Rel K (ρ++[p]) (upd H p<|.lst vs) (S++[.lst xs])/\(ρ++[p])[S.length]?=some p:=by
 have ex:Ext ρ (ρ++[p]) H (upd H p<|.lst vs):=⟨⟨dQ _ _,λa u _ h=>by rw[jP<|j3 h hp];exact h⟩,λa u h _=>by rw[jP<|j3 h hp];exact h,λa h=>by
  rcases bq.mp h with z|z
  ·exact .inl z
  ·have e:a=p:=by simpa using z
   rw[e];exact .inr hp⟩
 have g:∀(n:Nat) (a:ak),ρ[n]?=some a->a≠p:=by
  intro n a e z;subst z;have hn:n<S.length:=by rw[<- R.len];exact(aJ.mp e).1
  have:=R.at n a S[n] e (aI hn)
  cases j:S[n]with
  | lst xs=>rw[j]at this;obtain⟨vs,h,_⟩:=this;rw[hp]at h;cases h
  | dct _|qc _|vh _=>rw[j]at this;obtain⟨vs,h,_⟩:=this;rw[hp]at h;cases h
  | dcf _=>rw[j]at this;obtain⟨_,vs,h,_⟩:=this;rw[hp]at h;cases h
  | ins _ _=>rw[j]at this;obtain⟨_,_,h⟩:=this;rw[hp]at h;cases h
 have d:(ρ++[p])[S.length]?=some p:=by rw[<- R.len];simp
 refine⟨ex,⟨by simp[R.len],?_,?_⟩,d⟩
 ·rw[cE];cb_eq;have:b=p:=by simpa using hb
  obtain⟨n,hn,B⟩:=cD.mp ha;exact g n a (by rw[aI hn,B])<|e.trans this
 ·intro n a o h1 h2;by_cases hn:n<S.length
  ·rw[bw<|by rw[R.len];exact hn]at h1;rw[bw hn]at h2;have:=R.at n a o h1 h2
   cases o with
   | lst ys=>obtain⟨f,e,q⟩:=this;exact⟨f,by rw[jP<|g n a h1];exact e,q.ext ex⟩
   | dct _|qc _|vh _=>obtain⟨f,e,q⟩:=this;exact⟨f,by rw[jP<|g n a h1];exact e,q.ext ex⟩
   | dcf _=>obtain⟨k,f,e,q⟩:=this;exact⟨k,f,by rw[jP<|g n a h1];exact e,q.ext ex⟩
   | ins _ _=>obtain⟨k,t,e⟩:=this;exact⟨k,t,by rw[jP<|g n a h1];exact e⟩
  ·have e:n=S.length:=by
    have:=(aJ.mp h2).1;simp at this
    lia
   subst e;rw[d]at h1
   cases h1
   simp at h2;subst h2;exact⟨vs,kD,r.ext ex⟩
def Rel.im{p:ak}(R:Rel K ρ H S)(hp:H p=none):Ext ρ ρ H (upd H p u)/\Rel K ρ (upd H p u) S:=by
 have ex:Ext ρ ρ H (upd H p u):=⟨⟨dP _,λa u _ h=>by rw[jP<|j3 h hp];exact h⟩,λa u h _=>by rw[jP<|j3 h hp];exact h,λ_ h=>.inl h⟩;refine⟨ex,R.len,R.nd,λn a o h1 h2=>?_⟩;have:=R.at n a o h1 h2
 cases o with
 | lst ys=>obtain⟨d,e,q⟩:=this;exact⟨d,by rw[jP<|j3 e hp];exact e,q.ext ex⟩
 | dct _|qc _|vh _=>obtain⟨d,e,q⟩:=this;exact⟨d,by rw[jP<|j3 e hp];exact e,q.ext ex⟩
 | dcf _=>obtain⟨f,d,e,q⟩:=this;exact⟨f,d,by rw[jP<|j3 e hp];exact e,q.ext ex⟩
 | ins _ _=>obtain⟨f,g,e⟩:=this;exact⟨f,g,by rw[jP<|j3 e hp];exact e⟩
def Rel.put{S:jK}{n:Nat}{a:ak}(R:Rel K ρ H S)(ha:ρ[n]?=some a)(hS:S[n]?=some (.lst xs))(r:AVs K ρ H ys ws):Ext ρ ρ H (upd H a<|.lst ws)/\Rel K ρ (upd H a<|.lst ws) (S.set n<|.lst ys):=by
 obtain⟨p,e,_⟩:=R.at n a _ ha hS;have ex:Ext ρ ρ H (upd H a<|.lst ws):=⟨⟨dP _,λb u i h=>by
  have:b≠a:=by
   intro z;subst z;rw[e]at h;cases h;exact i
  rw[jP this];exact h⟩,λb u h n=>by
  rw[jP λz=>n<|by rw[z];exact aS ha];exact h,λ_ h=>.inl h⟩
 refine⟨ex,by rw[bV];exact R.len,R.nd,λm b o h1 h2=>?_⟩;by_cases j:m=n
 ·subst j;rw[ha]at h1;cases h1;rw[bJ (aJ.mp hS).1]at h2
  cases h2
  exact⟨ws,kD,r.ext ex⟩
 ·rw[bL<|cR j]at h2;have nb:b≠a:=λz=>by
   subst z;obtain⟨t,e1⟩:=aJ.mp ha;obtain⟨B,e2⟩:=aJ.mp h1;exact j<|(cX R.nd).mp<|e2.trans e1.symm
  have:=R.at m b o h1 h2
  cases o with
  | lst ys=>obtain⟨d,f,q⟩:=this;exact⟨d,by rw[jP nb];exact f,q.ext ex⟩
  | dct _|qc _|vh _=>obtain⟨d,f,q⟩:=this;exact⟨d,by rw[jP nb];exact f,q.ext ex⟩
  | dcf _=>obtain⟨g,d,f,q⟩:=this;exact⟨g,d,by rw[jP nb];exact f,q.ext ex⟩
  | ins _ _=>obtain⟨g,k,f⟩:=this;exact⟨g,k,by rw[jP nb];exact f⟩
def Rel.lst{n:Nat}{a:ak}(R:Rel K ρ H S)(ha:ρ[n]?=some a)(hS:S[n]?=some (.lst xs)):∃vs,H a=some (.lst vs)/\AVs K ρ H xs vs:=R.at n a _ ha hS
structure SR (K:au)(ρ:bb)(H:Hp)(τ:ae)(σ:St):Prop where
 len:τ.length=σ.length
 «at»:∀(i:Nat) (a:A),τ[i]?=some a->a=.unb\/∃v,σ[i]?=some (some v)/\AV K ρ H a v
def SR.mq(s:SR K ρ H τ σ)(e:Ext0 ρ ρ' H H'):SR K ρ' H' τ σ:=⟨s.len,λi a h=>by
 rcases s.at i a h with z|⟨v,h1,h2⟩
 ·exact .inl z
 ·exact .inr ⟨v,h1,AV.mq e h2⟩⟩
def SR.ext(s:SR K ρ H τ σ)(e:Ext ρ ρ' H H'):SR K ρ' H' τ σ:=s.mq e.toExt0
def Rel.out{D:ak}(R:Rel K ρ H S)(hD:H D=some (.lst vs))(hn:D∉ρ):Ext0 ρ ρ H (upd H D<|.lst ws)/\Rel K ρ (upd H D<|.lst ws) S:=by
 have ex:Ext0 ρ ρ H (upd H D<|.lst ws):=⟨dP _,λb u i h=>by
  have:b≠D:=by
   intro z;subst z;rw[hD]at h;cases h;exact i
  rw[jP this];exact h⟩
 refine⟨ex,R.len,R.nd,λn a o h1 h2=>?_⟩;have na:a≠D:=λz=>hn (by rw[<- z];exact aS h1);have:=R.at n a o h1 h2
 cases o with
 | lst ys=>obtain⟨d,e,q⟩:=this;exact⟨d,by rw[jP na];exact e,AVs.mq ex q⟩
 | dct _|qc _|vh _=>obtain⟨d,e,q⟩:=this;exact⟨d,by rw[jP na];exact e,q.mq ex⟩
 | dcf _=>obtain⟨f,d,e,q⟩:=this;exact⟨f,d,by rw[jP na];exact e,q.mq ex⟩
 | ins _ _=>obtain⟨f,g,e⟩:=this;exact⟨f,g,by rw[jP na];exact e⟩
def Rel.take{S:jK}{D:ak}(R:Rel K ρ H S)(hD:H D=some (.lst vs))(hn:D∉ρ)(r:AVs K ρ H xs vs):Rel K (ρ++[D]) H (S++[.lst xs])/\(ρ++[D])[S.length]?=some D:=by
 have ex:Ext0 ρ (ρ++[D]) H H:=⟨dQ _ _,λ_ _ _ h=>h⟩;have d:(ρ++[D])[S.length]?=some D:=by rw[<- R.len];simp
 refine⟨⟨by simp[R.len],?_,λn a o h1 h2=>?_⟩,d⟩
 ·rw[cE];cb_eq;have:b=D:=by simpa using hb
  exact hn<|by rw[<- this,<- e];exact ha
 ·by_cases hs:n<S.length
  ·rw[bw<|by rw[R.len];exact hs]at h1;rw[bw hs]at h2;have:=R.at n a o h1 h2
   cases o with
   | lst ys=>obtain⟨f,e,q⟩:=this;exact⟨f,e,AVs.mq ex q⟩
   | dct _|qc _|vh _=>obtain⟨f,e,q⟩:=this;exact⟨f,e,q.mq ex⟩
   | dcf _=>obtain⟨g,f,e,q⟩:=this;exact⟨g,f,e,q.mq ex⟩
   | ins _ _=>obtain⟨g,j,e⟩:=this;exact⟨g,j,e⟩
  ·have e:n=S.length:=by
    have:=(aJ.mp h2).1;simp at this
    lia
   subst e;rw[d]at h1
   cases h1
   simp at h2;subst h2;exact⟨vs,hD,AVs.mq ex r⟩
def SR.set{τ:ae}{σ:St}{a:A}{v:V}(s:SR K ρ H τ σ)(h:AV K ρ H a v):SR K ρ H (τ.set i a) (σ.set i<|some v):=by
 refine⟨by simp[s.len],λj b e=>?_⟩;by_cases d:j=i
 ·subst d;have f:j<τ.length:=by
   have:=(aJ.mp e).1;simpa using this
  rw[bJ f]at e
  cases e
  exact .inr ⟨v,bJ<|by rw[<- s.len];exact f,h⟩
 ·rw[bL<|cR d]at e;rw[bL<|cR d];exact s.at j b e
end
end Am
namespace Am
open PySem PySem.Spec PyProof.Rows L2
abbrev XE (X:Cx)(ρ:bb)(H:Hp):Str->jK->Prop:=λc d=>∀(C:ak) (ρ':bb) (H':Hp),ClN X.K c C->Ext ρ ρ' H H'->Rel X.K ρ' H' d->EX X (.ref C) none H'
def XE.ext{X:Cx}{H H':Hp}{c:Str}(h:XE X ρ H c S)(e:Ext ρ ρ' H H'):XE X ρ' H' c S:=λC ρ2 H2 n e2=>h C ρ2 H2 n<|e.trans e2
abbrev AO (X:Cx)(ρ:bb)(H:Hp)(Q:VK):A->jK->Prop:=λa d=>∀ρ' H' v,Ext ρ ρ' H H'->Rel X.K ρ' H' d->AV X.K ρ' H' a v->Q v H'
abbrev okB (X:Cx)(ρ:bb)(H:Hp)(Q:Bool->Hp->Prop):Bool->jK->Prop:=λb d=>∀ρ' H',Ext ρ ρ' H H'->Rel X.K ρ' H' d->Q b H'
abbrev okL (X:Cx)(ρ:bb)(H:Hp)(Q:List V->Hp->Prop):ae->jK->Prop:=λf g=>∀ρ' H' d,Ext ρ ρ' H H'->Rel X.K ρ' H' g->AVs X.K ρ' H' f d->Q d H'
def AO.ext{X:Cx}{H H':Hp}{Q:VK}{a:A}(h:AO X ρ H Q a S)(e:Ext ρ ρ' H H'):AO X ρ' H' Q a S:=λρ2 H2 v e2=>h ρ2 H2 v<|e.trans e2
def okB.ext{X:Cx}{H H':Hp}{Q:Bool->Hp->Prop}{a:Bool}(h:okB X ρ H Q a S)(e:Ext ρ ρ' H H'):okB X ρ' H' Q a S:=λρ2 H2 e2=>h ρ2 H2<|e.trans e2
def jM{α:Type}{X:Cx}{H H':Hp}{r:R α}{P P':α->jK->Prop}(h:r.post P<|XE X ρ H)(e:Ext ρ ρ' H H')(hp:∀a S,P a S->P' a S):r.post P' (XE X ρ' H'):=Ll h hp λ_ _ z=>z.ext e
abbrev tE (X:Cx)(c:Ex):TE:=λσ H Q=>∃ρ S τ,Rel X.K ρ H S/\SR X.K ρ H τ σ/\(c τ S).post (AO X ρ H Q) (XE X ρ H)
abbrev tT (X:Cx)(c:Te):TT:=λσ H Q=>∃ρ S τ,Rel X.K ρ H S/\SR X.K ρ H τ σ/\(c τ S).post (okB X ρ H Q) (XE X ρ H)
abbrev tL (X:Cx)(c:rR):TA:=λσ H Q=>∃ρ S τ,Rel X.K ρ H S/\SR X.K ρ H τ σ/\(c τ S).post (okL X ρ H Q) (XE X ρ H)
abbrev AE (X:Cx)(e:aE)(c:Ex):Prop:=PE X e<|tE X c
abbrev AT (X:Cx)(e:aE)(c:Te):Prop:=PT X e<|tT X c
abbrev AW (X:Cx)(e:aE)(c:Te):Prop:=PW X e<|tT X c
abbrev AL (X:Cx)(es:List aE)(c:rR):Prop:=PA X es<|tL X c
def PE.imp{X:Cx}{e:aE}{t t':TE}(h:PE X e t)(i:∀σ H Q,t' σ H Q->t σ H Q):PE X e t':=λpins s σ H Q I q=>h pins s σ H Q I<|i σ H Q q
def PT.imp{X:Cx}{e:aE}{t t':TT}(h:PT X e t)(i:∀σ H Q,t' σ H Q->t σ H Q):PT X e t':=λpins s σ H Q I q=>h pins s σ H Q I<|i σ H Q q
def PW.imp{X:Cx}{e:aE}{t t':TT}(h:PW X e t)(i:∀σ H Q,t' σ H Q->t σ H Q):PW X e t':=λw pins s σ H Q I q=>h w pins s σ H Q I<|i σ H Q q
def PA.imp{X:Cx}{e:List aE}{t t':TA}(h:PA X e t)(i:∀σ H Q,t' σ H Q->t σ H Q):PA X e t':=λp pins s σ H Q I q=>h p pins s σ H Q I<|i σ H Q q
def AW.at{X:Cx}{e:aE}{c:Te}(h:AW X e c):AT X e c:=h _
abbrev A.oR:A->Bool
 | .unb=>true
 | _=>false
abbrev jG (i:Nat):Ex:=λτ S=>if (τ.getD i .unb).oR then .no else .ok (τ.getD i .unb) S
abbrev eC (a:A):Ex:=λ_ S=>.ok a S
section
variable {X:Cx}{pos:Pos}{a b:aE}
def jF(i:Nat){x:Str}(hN:X.N[i]?=some x:=by rfl)(hv:YJ X.env.scope x:=by first|exact Or.inl rfl|exact Or.inr (Or.inl rfl)|exact Or.inr<|Or.inr rfl)(hd:(x == ("__debug__" : Str))=false:=by decide)
  (hcd:(x == ("__classdict__" : Str))=false:=by decide):AE X (.Name x pos) (jG i):=PE.imp (Pz hN hv hd hcd) λσ H Q h9=>by
 x_go;unfold jG at h
 cases d:τ[i]? with
 | none=>
  rw[aL,d]at h;exact h.elim
 | some x=>
  rw[aL,d]at h
  rcases r.at i x d with z|⟨v,e,q⟩
  ·subst z;exact h.elim
  ·refine⟨v,e,?_⟩
   cases x<;>first|(exact h ρ H v .refl R q)|exact h.elim
def jU{i:Int}{j pos}:AE X (.Constant (.int i) j pos) (eC<|.int i):=PE.imp WB λσ H Q ⟨ρ,S,τ,R,r,h⟩=>h ρ H _ .refl R<|.int i
def EF{j pos}:AE X (.Constant (.bool i) j pos) (eC<|.bl i):=PE.imp Zs λσ H Q ⟨ρ,S,τ,R,r,h⟩=>h ρ H _ .refl R<|.bl i
def Pf{j pos}:AE X (.Constant .none j pos) (eC .non):=PE.imp X5 λσ H Q ⟨ρ,S,τ,R,r,h⟩=>h ρ H _ .refl R .non
def LZ{x:Str}{i:Int}{t:Tok}(hm:X.mg x=some (.int i t))(hg:Gl X x:=by rfl)(hd:(x == ("__debug__" : Str))=false:=by decide):AE X (.Name x pos) (eC<|.int i):=
 PE.imp (HD (v:=.int i) hg hm ⟨t,rfl⟩ hd) λσ H Q ⟨ρ,S,τ,R,r,h⟩=>h ρ H _ .refl R<|.int i
abbrev jO (f:A->A->jK->R A)(ca cb:Ex):Ex:=λτ S=>(ca τ S).bind λa S1=>(cb τ S1).bind λb S2=>f a b S2
abbrev r2 (X:Cx)(f:A->A->jK->R A):R2:=λx y H Q=>∃ρ S a b,Rel X.K ρ H S/\AV X.K ρ H a x/\AV X.K ρ H b y/\(f a b S).post (AO X ρ H Q) (XE X ρ H)
abbrev r1 (X:Cx)(f:A->jK->R A):V->Hp->VK->Prop:=λx H Q=>∃ρ S a,Rel X.K ρ H S/\AV X.K ρ H a x/\(f a S).post (AO X ρ H Q) (XE X ρ H)
abbrev rN (X:Cx)(f:ae->jK->R A):List V->Hp->VK->Prop:=λxs H Q=>∃ρ S d,Rel X.K ρ H S/\AVs X.K ρ H d xs/\(f d S).post (AO X ρ H Q) (XE X ρ H)
def n5.imp{f:af->af->Sem af}{r r':R2}(h:n5 X f r)(i:∀x y H Q,r' x y H Q->r x y H Q):n5 X f r':=λpins s σ H x y v u Q I rx ry q=>h pins s σ H x y v u Q I rx ry<|i _ _ _ _ q
def kj.imp{f:af}{r r':List V->Hp->VK->Prop}(h:kj X f r)(i:∀x H Q,r' x H Q->r x H Q):kj X f r':=λpins s σ H x v Q I rx q=>h pins s σ H x v Q I rx<|i _ _ _ q
def sN{f:A->A->jK->R A}{ca cb:Ex}{H:Hp}{Q:VK}(h:tE X (jO f ca cb) σ H Q):Y7 (r2 X f) (tE X ca) (tE X cb) σ H Q:=by
 kl_no;refine⟨ρ,S,τ,R,r,jM (jT h) .refl λa S1 h1 ρ1 H1 x e1 R1 v1=>⟨ρ1,S1,τ,R1,r.ext e1,jM (jT h1) e1 λb S2 h2 ρ2 H2 y e2 R2 v2=>?_⟩⟩;exact⟨ρ2,S2,a,b,R2,v1.ext e2,v2,jM h2 (e1.trans e2) λc S3 h3=>h3.ext<|e1.trans e2⟩
def j5{f:A->A->jK->R A}{ca cb:Ex}(ho:n5 X (binaryOp op)<|r2 X f)(ha:AE X a ca)(hb:AE X b cb):AE X (.BinOp a op b pos) (jO f ca cb):=
 PE.imp (Ze ho ha hb) λσ H Q h=>sN h
def C7{op:CmpOp}{f:A->A->jK->R A}{ca cb:Ex}(ho:n5 X (compareOp op)<|r2 X f)(ha:AE X a ca)(hb:AE X b cb)(hm:behindInMarks op b=false:=by first|exact MQ _|with_unfolding_all rfl):AE X (.Compare a [op] [b] pos) (jO f ca cb):=
 PE.imp (RN ho ha hb hm) λσ H Q h=>sN h
abbrev A.Vc:A->jK->bi
 | .non,_=>some false
 | .bl b,_=>some b
 | .int i,_=>some (i != 0)
 | .str x,_=>if x.length<=sizeLine then some ((x.length:Int) != 0)else none
 | .tup xs,_=>some (!xs.isEmpty)
 | .frz xs,_=>some (!xs.isEmpty)
 | .ref n,S=>(jI S n).map λxs=>!xs.isEmpty
 | _,_=>none
abbrev sI (c:Ex):Te:=λτ S=>(c τ S).bind λa S1=>opt (a.Vc S1) λb=>.ok b S1
abbrev qm (c:Ex):Te:=λτ S=>(c τ S).bind λa S1=>match a with
 | .bl b=>.ok b S1
 | _=>.no
def EW{K:au}{H:Hp}{b:Bool}{v:V}(h:AV K ρ H (.bl b) v):v=.bl b:=by cases h;rfl
def kP{op:CmpOp}{f:A->A->jK->R A}{ca cb:Ex}(ho:n5 X (compareOp op)<|r2 X f)(ha:AE X a ca)(hb:AE X b cb)(hm:behindInMarks op b=false:=by first|exact MQ _|with_unfolding_all rfl):AT X (.Compare a [op] [b] pos) (qm<|jO f ca cb):=
 PT.imp (Tz ho ha hb hm) λσ H Q h9=>by
  x_go;refine sN ⟨ρ,S,τ,R,r,jM (jT h) .refl λc S1 h1 ρ1 H1 x e1 R1 v1=>?_⟩
  cases c with
  | bl k=>cases EW v1;exact⟨k,rfl,h1 ρ1 H1 e1 R1⟩
  | _=>exact h1.elim
def WG{K:au}{H:Hp}{x:A}{v:V}{b:Bool}(R:Rel K ρ H S)(h:AV K ρ H x v)(e:x.Vc S=some b):Yt K v H b:=by
 have d:∀{xs:ae} {f:List V},AVs K ρ H xs f->(!xs.isEmpty)=!f.isEmpty:=λr=>by cases r<;>rfl
 cases h with
 | non=>exact(bf e).symm
 | bl b=>exact(bf e).symm
 | int i=>exact(bf e).symm
 | str x=>
  by_cases g:x.length<=sizeLine
  ·exact⟨g,by have:=(aN g).symm.trans e;exact(bf this).symm⟩
  ·have:=(aM g).symm.trans e;cases this
 | tup h r=>exact .inr (.inl ⟨_,nF.of h,by rw[<- d r];exact(bf e).symm⟩)
 | frz h r=>exact .inl ⟨_,h.TH,by rw[<- d r];exact(bf e).symm⟩
 | rng h=>cases e
 | ty n=>cases e
 | exn n h x=>cases e
 | ktu h r=>cases e
 | @ref a n h=>
  have e:(jI S n).map (λxs=>!xs.isEmpty)=some b:=e;obtain⟨xs,hn,e⟩:=aY.mp e;obtain⟨f,h1,h2⟩:=R.lst h<|jW hn;exact .inl ⟨f,qK.of h1,by rw[<- d h2];exact e.symm⟩
def rO{ca:Ex}(ha:AE X a ca)(he:∀whole,isTrue a X.env whole=(do let v <- whole;standAt a.pos;holding [v] (truthy v)):=by intro _;rfl):AT X a (sI ca):=
 PT.imp (MI ha he) λσ H Q ⟨ρ,S,τ,R,r,h⟩=>⟨ρ,S,τ,R,r,jM (jT h) .refl λc S1 h1 ρ1 H1 x e1 R1 v1=>by
  obtain⟨b,hb,h1⟩:=jN h1;exact⟨b,WG R1 v1 hb,h1 ρ1 H1 e1 R1⟩⟩
abbrev Rt (c:Te):Te:=λτ S=>(c τ S).bind λb S1=>.ok (!b) S1
abbrev z8 (c d:Te):Te:=λτ S=>(c τ S).bind λb S1=>match b with|true=>d τ S1|false=>.ok false S1
abbrev YQ (c d:Te):Te:=λτ S=>(c τ S).bind λb S1=>match b with|true=>.ok true S1|false=>d τ S1
def PJ{c:Te}(h:AT X a c):AT X (.UnaryOp .Not a pos) (Rt c):=PT.imp (Yp h) λσ H Q ⟨ρ,S,τ,R,r,h⟩=>⟨ρ,S,τ,R,r,jM (jT h) .refl λb S1 h1=>h1⟩
def and_imp{c d:Te}{H:Hp}{Q:Bool->Hp->Prop}(h:tT X (z8 c d) σ H Q):Zo (tT X c) (tT X d) σ H Q:=by
 kl_no;refine⟨ρ,S,τ,R,r,jM (jT h) .refl λb S1 h1 ρ1 H1 e1 R1=>?_⟩
 cases b with
 | true=>
  rw[aN rfl];exact⟨ρ1,S1,τ,R1,r.ext e1,jM h1 e1 λ_ _ z=>z.ext e1⟩
 | false=>
  rw[aM bN];exact h1 ρ1 H1 e1 R1
def or_imp{c d:Te}{H:Hp}{Q:Bool->Hp->Prop}(h:tT X (YQ c d) σ H Q):tOr (tT X c) (tT X d) σ H Q:=by
 kl_no;refine⟨ρ,S,τ,R,r,jM (jT h) .refl λb S1 h1 ρ1 H1 e1 R1=>?_⟩
 cases b with
 | false=>
  rw[aM bN];exact⟨ρ1,S1,τ,R1,r.ext e1,jM h1 e1 λ_ _ z=>z.ext e1⟩
 | true=>
  rw[aN rfl];exact h1 ρ1 H1 e1 R1
variable {rest:List aE}
def Dp{c:Te}(h:AT X a c):AW X (.BoolOp .And [a] pos) c:=Q5 h
def O_{c:Te}(h:AT X a c):AW X (.BoolOp .Or [a] pos) c:=Yi h
def GD{c d:Te}(h:AT X a c)(h2:AW X (.BoolOp .And (b::rest) pos) d):AW X (.BoolOp .And (a::b::rest) pos) (z8 c d):=PW.imp (WI h h2) λ_ _ _ q=>and_imp q
def N6{c d:Te}(h:AT X a c)(h2:AW X (.BoolOp .Or (b::rest) pos) d):AW X (.BoolOp .Or (a::b::rest) pos) (YQ c d):=PW.imp (ZG h h2) λ_ _ _ q=>or_imp q
abbrev MC (c d:Ex):Ex:=λτ S=>(c τ S).bind λa S1=>match a with | .bl true=>d τ S1 | .bl false=>.ok (.bl false) S1|_=>.no
abbrev eOr (c d:Ex):Ex:=λτ S=>(c τ S).bind λa S1=>match a with | .bl true=>.ok (.bl true) S1 | .bl false=>d τ S1|_=>.no
abbrev WT (c:Ex):Ex:=λτ S=>(c τ S).bind λa S1=>match a with | .bl b=>.ok (.bl !b) S1|_=>.no
def M3{op}{c:Ex}(h:AE X a c):AE X (.BoolOp op [a] pos) c:=WZ h
def Oi{c d:Ex}(h:AE X a c)(h2:AE X (.BoolOp .And (b::rest) pos) d):AE X (.BoolOp .And (a::b::rest) pos) (MC c d):=PE.imp (V3 h h2) λσ H Q h9=>by
 x_go;refine⟨ρ,S,τ,R,r,jM (jT h) .refl λb S1 h1 ρ1 H1 x e1 R1 v1=>?_⟩
 cases b with
 | bl k=>
  cases EW v1
  refine⟨k,rfl,?_⟩
  cases k with
  | true=>
   rw[aN rfl];exact⟨ρ1,S1,τ,R1,r.ext e1,jM h1 e1 λ_ _ z=>z.ext e1⟩
  | false=>
   rw[aM bN];exact h1 ρ1 H1 _ e1 R1<|.bl false
 | _=>exact h1.elim
def Yy{c:Ex}(h:AE X a c):AE X (.UnaryOp .Not a pos) (WT c):=PE.imp (X6 h) λσ H Q h9=>by
 x_go;refine⟨ρ,S,τ,R,r,jM (jT h) .refl λb S1 h1 ρ1 H1 x e1 R1 v1=>?_⟩
 cases b with
 | bl k=>
  cases EW v1
  exact⟨k,rfl,h1 ρ1 H1 _ e1 R1<|.bl _⟩
 | _=>exact h1.elim
abbrev eIf (t:Te)(c d:Ex):Ex:=λτ S=>(t τ S).bind λb S1=>match b with|true=>c τ S1|false=>d τ S1
abbrev jR:rR:=λ_ S=>.ok [] S
abbrev jH (c:Ex)(d:rR):rR:=λτ S=>(c τ S).bind λa S1=>(d τ S1).bind λf S2=>.ok (a::f) S2
def jS:AL X [] jR:=PA.imp DC λσ H Q ⟨ρ,S,τ,R,r,h⟩=>h ρ H _ .refl R .nil
def jJ{e:aE}{c:Ex}{d:rR}(ha:AE X e c)(hr:AL X es d)(hs:starEach (e::es) X.env=(false,eval e X.env)::starEach es X.env:=by rfl):AL X (e::es) (jH c d):=
 PA.imp (wN ha hr hs) λσ H Q h9=>by
  x_go;refine⟨ρ,S,τ,R,r,jM (jT h) .refl λa S1 h1 ρ1 H1 x e1 R1 v1=>⟨ρ1,S1,τ,R1,r.ext e1,jM (jT h1) e1 λf S2 h2 ρ2 H2 xs e2 R2 v2=>?_⟩⟩;exact h2 ρ2 H2 _ (e1.trans e2) R2<|.cons (v1.ext e2) v2
abbrev pL (d:rR):Ex:=λτ S=>(d τ S).bind λf S1=>gd (f.length<=sizeLine)<|.ok (.tup f) S1
abbrev newL (as:ae)(S:jK):R A:=gd (as.length<=sizeLine)<|.ok (.ref S.length)<|S++[.lst as]
abbrev qh (d:rR):Ex:=λτ S=>(d τ S).bind λf S1=>newL f S1
def xy{H H0:Hp}{Q:VK}(R:Rel X.K ρ H S)(r:AVs X.K ρ H as vs)(e:Ext ρ0 ρ H0 H)(h:AO X ρ0 H0 Q (.tup as) S):∀p,H p=none->Q (.ref p) (upd H p<|.tup vs):=λp f=>by
 obtain⟨ex,d⟩:=R.im (u:=.tup vs) f;exact h ρ _ _ (e.trans ex) d<|.tup kD<|r.ext ex
def nK{H H0:Hp}{S:jK}{Q:VK}(R:Rel X.K ρ H S)(r:AVs X.K ρ H as vs)(e:Ext ρ0 ρ H0 H)(h:AO X ρ0 H0 Q (.ref S.length)<|S++[.lst as]):∀p,H p=none->Q (.ref p) (upd H p<|.lst vs):=λp f=>by
 obtain⟨ex,d,g⟩:=R.lay f r;exact h _ _ _ (e.trans ex) d<|.ref g
def Sv{H H0:Hp}{vs:List V}{Q:VK}(R:Rel X.K ρ H S)(r:AVs X.K ρ H as vs)(e:Ext ρ0 ρ H0 H)(h:(newL as S).post (AO X ρ0 H0 Q)<|XE X ρ0 H0):vs.length<=sizeLine/\∀p,H p=none->Q (.ref p) (upd H p<|.lst vs):=by
 obtain⟨d,h⟩:=kc h;exact⟨by rw[<- r.length];exact d,nK R r e h⟩
def n8{d:rR}{x1}(h:AL X es d):AE X (.Tuple es x1 pos) (pL d):=PE.imp (Wr h) λσ H Q h9=>by
 x_go;refine⟨ρ,S,τ,R,r,jM (jT h) .refl λg S1 h1 ρ1 H1 xs e1 R1 v1=>?_⟩;obtain⟨f,h1⟩:=kc h1;exact⟨by rw[<- v1.length];exact f,xy R1 v1 e1 h1⟩
def mJ{d:rR}(h:AL X es d):AE X (.List es pos) (qh d):=PE.imp (V6 h) λσ H Q ⟨ρ,S,τ,R,r,h⟩=>
 ⟨ρ,S,τ,R,r,jM (jT h) .refl λf S1 h1 ρ1 H1 xs e1 R1 v1=>Sv R1 v1 e1 h1⟩
end
section
variable {X:Cx}{pos:Pos}{a b:aE}
abbrev aSub (a b:A)(S:jK):R A:=match a,b with
 | .int i,.int j=>.ok (.int<|i-j) S
 | _,_=>.no
def yD:n5 X (binaryOp .Sub) (r2 X aSub):=n5.imp WJ λx y H Q h9=>by
 z_go
 cases va<;>first|exact h.elim|(cases vb<;>first|exact h.elim|exact⟨_,_,rfl,rfl,h _ _ _ .refl R<|.int _⟩)
abbrev xj (i j:Int):Bool:=(decide (-(2 ^ 64)<i) && decide (i<2 ^ 64)) || (decide (-(2 ^ 64)<j) && decide (j<2 ^ 64))
def mulOk_of{i j:Int}(h:xj i j=true):Q_ i j:=by
 unfold xj at h;dsimp[Bool.or_eq_true,gh,g_]at h;exact h
abbrev zV (a b:A)(S:jK):R A:=match a,b with
 | .int i,.int j=>gd (xj i j) (.ok (.int<|i * j) S)
 | .ref n,.int k=>opt (jI S n) λxs=>gd (-(2 ^ 63)<=k/\k<2 ^ 63/\xs.length * k.toNat<=sizeLine) (.ok (.ref S.length)<|S++[.lst (List.replicate k.toNat xs).flatten])
 | _,_=>.no
theorem AVs.rep{K:au}{H:Hp}(r:AVs K ρ H xs vs):∀k:Nat,AVs K ρ H (List.replicate k xs).flatten (List.replicate k vs).flatten
 | 0=>.nil
 | k+1=>by rw[dG,dG,e_,e_];exact r.append<|AVs.rep r k
def BF:n5 X (binaryOp .Mult) (r2 X zV):=λpins s σ H x y v u Q I rx ry h9=>by
 z_go
 cases va with
 | int i=>
  cases vb with
  | int j=>
   obtain⟨g,h⟩:=kc h;exact VW pins s σ H _ _ v u Q I rx ry ⟨i,j,rfl,rfl,mulOk_of g,h _ _ _ .refl R<|.int _⟩
  | _=>exact h.elim
 | @ref p n d=>
  cases vb with
  | int k=>
   kj_on;obtain⟨hc,h⟩:=kc h;obtain⟨f,h1,h2⟩:=R.lst d<|jW hn;exact Wo pins s σ H _ _ v u Q I rx ry ⟨p,k,f,rfl,rfl,h1,hc.1,hc.2.1,by rw[<- h2.length];exact hc.2.2,nK R (h2.rep _) .refl h⟩
  | _=>exact h.elim
 | _=>exact h.elim
abbrev z_ (a b:A)(S:jK):R A:=match a,b with
 | .int i,.int j=>gd (0<j/\j<18446744073709551616) (.ok (.int<|i / j) S)
 | _,_=>.no
def CT:n5 X (binaryOp .FloorDiv) (r2 X z_):=n5.imp PZ λx y H Q h9=>by
 z_go
 cases va<;>first|exact h.elim|(cases vb<;>first|exact h.elim|exact⟨_,_,rfl,rfl,(kc h).1,(kc h).2 _ _ _ .refl R<|.int _⟩)
abbrev CO (a b:A)(S:jK):R A:=match a,b with
 | .int i,.int j=>gd (0<j) (.ok (.int<|i % j) S)
 | _,_=>.no
def Bp:n5 X (binaryOp .Mod) (r2 X CO):=n5.imp XH λx y H Q h9=>by
 z_go
 cases va<;>first|exact h.elim|(cases vb<;>first|exact h.elim|exact⟨_,_,rfl,rfl,(kc h).1,(kc h).2 _ _ _ .refl R<|.int _⟩)
abbrev VA (a b:A)(S:jK):R A:=match a,b with
 | .int i,.int j=>gd (0<=j/\j<=1000000/\i.natAbs<2 ^ 64) (.ok (.int<|i ^ j.toNat) S)
 | _,_=>.no
def ZU:n5 X (binaryOp .Pow) (r2 X VA):=n5.imp Yk λx y H Q h9=>by
 z_go
 cases va<;>first|exact h.elim|(cases vb<;>first|exact h.elim|exact⟨_,_,rfl,rfl,(kc h).1,(kc h).2 _ _ _ .refl R<|.int _⟩)
abbrev mC (a b:A)(S:jK):R A:=match a,b with
 | .int i,.int j=>.ok (.int<|i+j) S
 | .tup xs,.tup ys=>gd (xs.length+ys.length<=sizeLine) (.ok (.tup<|xs++ys) S)
 | .str x,.str y=>gd (x.length+y.length<=sizeLine) (.ok (.str<|x++y) S)
 | .ref n,.ref m=>opt (jI S n) λxs=>opt (jI S m) λys=>gd (xs.length+ys.length<=sizeLine) (.ok (.ref S.length)<|S++[.lst<|xs++ys])
 | _,_=>.no
def AVs.nil_inv{K:au}{H:Hp}(r:AVs K ρ H xs vs):xs=[] ↔ vs=[]:=by cases r<;>simp
theorem nv:n5 X (binaryOp .Add) (r2 X mC):=λpins s σ H x y v u Q I rx ry h9=>by
 z_go
 cases va with
 | int i=>
  cases vb with
  | int j=>exact Xa pins s σ H _ _ v u Q I rx ry ⟨i,j,rfl,rfl,h _ _ _ .refl R<|.int _⟩
  | _=>exact h.elim
 | str x=>
  cases vb with
  | str y=>
   obtain⟨hc,h⟩:=kc h;exact Gv pins s σ H _ _ v u Q I rx ry ⟨x,y,rfl,rfl,hc,h _ _ _ .refl R<|.str _⟩
  | _=>exact h.elim
 | @tup p xs d h1 r1=>
  cases vb with
  | @tup q ys f h2 r2=>
   obtain⟨hc,h⟩:=kc h;by_cases hv:d=[]
   ·have t:=r1.nil_inv.mpr hv;subst hv t;exact QE pins s σ H _ _ v u Q I rx ry ⟨p,q,f,rfl,rfl,nF.of h1,nF.of h2,h _ _ _ .refl R<|.tup h2 r2⟩
   ·refine Ry pins s σ H _ _ v u Q I rx ry ⟨p,q,d,f,rfl,rfl,nF.of h1,nF.of h2,hv,by rw[<- r1.length,<- r2.length];exact hc,λe=>?_,λ_=>xy R (r1.append r2) .refl h⟩;have hy:=r2.nil_inv.mpr e;subst hy;rw[b8]at h;exact h _ _ _ .refl R<|.tup h1 r1
  | _=>exact h.elim
 | @ref p n k=>
  cases vb with
  | @ref q m hq=>
   kj_on;obtain⟨ys,z,h⟩:=jN h;obtain⟨hc,h⟩:=kc h;obtain⟨d,h1,h2⟩:=R.lst k<|jW hn;obtain⟨f,h3,g⟩:=R.lst hq<|jW z;exact YA pins s σ H _ _ v u Q I rx ry ⟨p,q,d,f,rfl,rfl,h1,h3,by rw[<- h2.length,<- g.length];exact hc,nK R (h2.append g) .refl h⟩
  | _=>exact h.elim
 | _=>exact h.elim
abbrev A.ints:ae->Option (ag)
 | []=>some []
 | .int i::xs=>(A.ints xs).map (i::·)
 | _=>none
def XY{x:A}{bs:ag}(e:A.ints (x::xs)=some bs):∃b cs,x=.int b/\A.ints xs=some cs/\bs=b::cs:=by
 unfold A.ints at e;split at e
 ·rename_i z;cases z
 ·rename_i i ys z
  cases z
  obtain⟨cs,h1,h2⟩:=aY.mp e;exact⟨i,cs,rfl,h1,h2.symm⟩
 ·cases e
def qi{K:au}{H:Hp}:∀{xs:ae}{vs:List V}{bs:ag},AVs K ρ H xs vs->A.ints xs=some bs->vs=bs.map V.int:=by
 intro xs
 induction xs with
 | nil=>
  intro vs bs h e
  cases h
  cases e
  rfl
 | cons x xs d=>
  intro vs bs h e;obtain⟨b,f,rfl,e1,rfl⟩:=XY e
  cases h with
  | cons h t=>
   cases h
   rw[d t e1];rfl
abbrev VO (a b:A)(S:jK):R A:=match a,b with
 | .int i,.int j=>.ok (.bl<|decide<|i<j) S
 | _,_=>.no
def SQ(hu:X.A.units+64<cLine):n5 X (compareOp .Lt) (r2 X VO):=λpins s σ H x y v u Q I rx ry h9=>by
 z_go
 cases va with
 | int i=>
  cases vb with
  | int j=>exact YY pins s σ H _ _ v u Q I rx ry ⟨i,j,rfl,rfl,h _ _ _ .refl R<|.bl _⟩
  | _=>exact h.elim
 | _=>exact h.elim
abbrev aLe (a b:A)(S:jK):R A:=match a,b with
 | .int i,.int j=>.ok (.bl<|decide<|i<=j) S
 | _,_=>.no
def abo:n5 X (compareOp .LtE) (r2 X aLe):=n5.imp ZY λx y H Q h9=>by
 z_go
 cases va<;>first|exact h.elim|(cases vb<;>first|exact h.elim|exact⟨_,_,rfl,rfl,h _ _ _ .refl R<|.bl _⟩)
abbrev LU (a b:A)(S:jK):R A:=match a,b with
 | .int i,.int j=>.ok (.bl<|decide<|j<i) S
 | _,_=>.no
def Nr(hu:X.A.units+64<cLine):n5 X (compareOp .Gt) (r2 X LU):=λpins s σ H x y v u Q I rx ry h9=>by
 z_go
 cases va with
 | int i=>
  cases vb with
  | int j=>exact Zh pins s σ H _ _ v u Q I rx ry ⟨i,j,rfl,rfl,h _ _ _ .refl R<|.bl _⟩
  | _=>exact h.elim
 | _=>exact h.elim
abbrev aGe (a b:A)(S:jK):R A:=match a,b with
 | .int i,.int j=>.ok (.bl<|decide<|j<=i) S
 | _,_=>.no
def aby:n5 X (compareOp .GtE) (r2 X aGe):=n5.imp ZH λx y H Q h9=>by
 z_go
 cases va<;>first|exact h.elim|(cases vb<;>first|exact h.elim|exact⟨_,_,rfl,rfl,h _ _ _ .refl R<|.bl _⟩)
abbrev GO (neg:Bool)(a b:A)(S:jK):R A:=match a,b with
 | .bl i,.bl j=>.ok (.bl<|if neg then i != j else i == j) S
 | .non,.non=>.ok (.bl<|!neg) S
 | .unb,.non=>.no
 | .exn _,.non=>.no
 | _,.non=>.ok (.bl neg) S
 | _,_=>.no
def V1{n:Bool}{a b:A}(h1:b≠.non)(h2:∀j,b≠.bl j):GO n a b S=.no:=by
 unfold GO;split<;>first|rfl|exact absurd rfl h1|exact absurd rfl<|h2 _
def Wb{n:Bool}{a b:A}{F:A->jK->Prop}{G:Str->jK->Prop}(h:(GO n a b S).post F G)(h1:b≠.non)(h2:∀j,b≠.bl j):False:=by
 rw[V1 h1 h2]at h;exact h
def TR:n5 X (compareOp .IsNot) (r2 X<|GO true):=λpins s σ H x y v u Q I rx ry h9=>by
 z_go
 cases vb with
 | non=>
  refine RB pins s σ H _ _ v u Q I rx ry ⟨rfl,?_⟩
  cases va<;>first|exact h _ _ _ .refl R (.bl _)|exact h.elim
 | bl j=>
  cases va with
  | bl i=>exact La pins s σ H _ _ v u Q I rx ry ⟨i,j,rfl,rfl,h _ _ _ .refl R<|.bl _⟩
  | _=>exact h.elim
 | _=>
  exact(Wb h (λz=>nomatch z) nofun).elim
abbrev eUn (f:A->jK->R A)(c:Ex):Ex:=λτ S=>(c τ S).bind λa S1=>f a S1
abbrev M6 (a:A)(S:jK):R A:=match a with
 | .int i=>.ok (.int<|-i) S
 | _=>.no
def Zg:UnR X (unaryOp .USub) (r1 X M6):=λpins s σ H x v Q I rx h9=>by
 obtain⟨ρ,S,a,R,va,h⟩:=h9
 cases va with
 | int i=>exact XS pins s σ H _ v Q I rx ⟨i,rfl,h _ _ _ .refl R<|.int _⟩
 | _=>exact h.elim
def Ws{f:A->jK->R A}{c:Ex}{H:Hp}{Q:VK}(h:tE X (eUn f c) σ H Q):tUn (r1 X f) (tE X c) σ H Q:=by
 kl_no;exact⟨ρ,S,τ,R,r,jM (jT h) .refl λa S1 h1 ρ1 H1 x e1 R1 v1=>⟨ρ1,S1,a,R1,v1,jM h1 e1 λc S3 h3=>h3.ext e1⟩⟩
def V9{c:Ex}(h:AE X a c):AE X (.UnaryOp .USub a pos) (eUn M6 c):=PE.imp (Zw Zg h) λ_ _ _ q=>Ws q
abbrev nY (a b:A)(S:jK):R A:=match a,b with
 | .tup xs,.int i=>opt (t8 xs i) λx=>.ok x S
 | .frz xs,.int i=>opt (t8 xs i) λx=>.ok x S
 | .ref n,.int i=>opt (jI S n) λxs=>opt (t8 xs i) λx=>.ok x S
 | .str z,.int i=>gd (z.length<=sizeLine) (opt (t8 z.cps.toList i) λc=>.ok (.str ⟨#[c]⟩) S)
 | _,_=>.no
def AVs.t8{K:au}{H:Hp}{i:Int}{x:A}(r:AVs K ρ H xs vs)(h:L2.t8 xs i=some x):∃v,L2.t8 vs i=some v/\AV K ρ H x v:=by
 unfold L2.t8 at h ⊢;rw[<- r.length]
 cases d:EK xs.length i with
 | none=>rw[d]at h;cases h
 | some j=>
  rw[d]at h;exact r.get h
def Zi:Um X (r2 X nY):=λd f pins s σ H x y v u Q I rx ry ⟨ρ,S,a,b,R,va,vb,h⟩ hs=>by
 cases va with
 | @tup p xs g h1 r1=>
  cases vb with
  | int i=>
   obtain⟨x,j,h⟩:=jN h;obtain⟨z,e,q⟩:=r1.t8 j;exact WE d f pins s σ H _ _ v u Q I rx ry ⟨p,g,i,z,rfl,rfl,nF.of h1,e,h _ _ _ .refl R q⟩ hs
  | _=>exact h.elim
 | @frz p xs g h1 r1=>
  cases vb with
  | int i=>
   obtain⟨x,j,h⟩:=jN h;obtain⟨z,e,q⟩:=r1.t8 j;exact J5 d f pins s σ H _ _ v u Q I rx ry ⟨p,g,i,z,rfl,rfl,h1.TH,e,h _ _ _ .refl R q⟩ hs
  | _=>exact h.elim
 | @ref p n k=>
  cases vb with
  | int i=>
   kj_on;obtain⟨x,j,h⟩:=jN h;obtain⟨g,h1,r1⟩:=R.lst k<|jW hn;obtain⟨z,e,q⟩:=r1.t8 j;exact J5 d f pins s σ H _ _ v u Q I rx ry ⟨p,g,i,z,rfl,rfl,qK.of h1,e,h _ _ _ .refl R q⟩ hs
  | _=>exact h.elim
 | str z=>
  cases vb with
  | int i=>
   obtain⟨t,h⟩:=kc h;obtain⟨c,hc,h⟩:=jN h;exact Yv d f pins s σ H _ _ v u Q I rx ry ⟨z,i,c,rfl,rfl,t,hc,h _ _ _ .refl R<|.str _⟩ hs
  | _=>exact h.elim
 | _=>exact h.elim
def lK{ca cb:Ex}(ha:AE X a ca)(hb:AE X b cb)(hs:xw b:=by exact λ_ _=>rfl):AE X (.Subscript a b pos) (jO nY ca cb):=PE.imp (IL Zi ha hb hs) λσ H Q h=>sN h
end
abbrev sF (f:A->A->bi):ae->ae->bi
 | [],[]=>some true
 | x::xs,y::ys=>(f x y).bind λp=>(sF f xs ys).map λq=>p && q
 | _,_=>some false
inductive Sh
 | non
 | bl (b:Bool)
 | int (i:Int)
 | str (x:Str)
 | tup (xs:ae)
 | lst
abbrev Yb (S:jK):A->Option Sh
 | .non=>some .non
 | .bl b=>some (.bl b)
 | .int i=>some (.int i)
 | .str x=>some (.str x)
 | .tup xs=>some (.tup xs)
 | .ref i=>(jI S i).map λ_=>.lst
 | _=>none
abbrev RV (f:A->A->bi):Sh->Sh->bi
 | .non,.non=>some true
 | .bl x,.bl y=>some (x == y)
 | .bl x,.int y=>some ((if x then 1 else 0) == y)
 | .int x,.bl y=>some (x == (if y then 1 else 0))
 | .int x,.int y=>some (x == y)
 | .str x,.str y=>some (x == y)
 | .tup xs,.tup ys=>sF f xs ys
 | .lst,.lst=>none
 | _,_=>some false
abbrev vJ (S:jK):Nat->A->A->bi
 | 0,_,_=>none
 | n+1,a,b=>match a,b with
  | .ref i,.ref j=>(jI S i).bind λxs=>(jI S j).bind λys=>sF (vJ S n) xs ys
  | _,_=>(Yb S a).bind λx=>(Yb S b).bind λy=>RV (vJ S n) x y
section
variable {X:Cx}{pins:bn}{σ:L2.St}{H:Hp}{s:aC}{ρ:bb}{S:jK}
inductive KdV (s:aC):Sh->af->Prop
 | non:KdV s .non .none
 | bl (b:Bool):KdV s (.bl b) (.bool b)
 | int (i:Int) (t:Tok):KdV s (.int i) (.int i t)
 | str (x:Str) (t:Tok):KdV s (.str x) (.str x t)
 | tup {p:ak} {us:ba} (xs:ae) (h:s.heap.IsTuple p us.toArray):KdV s (.tup xs) (.ref p)
 | lst {p:ak} {us:ba} (h:s.heap.IsList p us.toArray):KdV s .lst<|.ref p
def ID{p:ak}(h:s.heap.IsTuple p us)(h':s.heap.IsList p ws):False:=by
 obtain⟨o,e,c,_⟩:=h;obtain⟨o',d,f,_⟩:=h';rw[e]at d
 cases d
 exact absurd (c.symm.trans f) ⋯
def JM(I:Inv X pins σ H s)(R:Rel X.K ρ H S){a:A}{x:V}(ha:AV X.K ρ H a x)(r:RelV x u)(e:Yb S a=some h):KdV s h u:=by
 cases ha with
 | non=>cases e;cases(show u=Value.none from r);exact .non
 | bl b=>cases e;cases(show u=Value.bool b from r);exact .bl b
 | int i=>cases e;obtain⟨t,rfl⟩:∃t,u=Value.int i t:=r;exact .int i t
 | str i=>cases e;obtain⟨t,rfl⟩:∃t,u=Value.str i t:=r;exact .str i t
 | tup h1 r1=>cases e;cases(show u=Value.ref _ from r);obtain⟨us,_,p,_⟩:=I.tuple<|nF.of h1;exact .tup _ p
 | ref h1=>
  obtain⟨xs,e1,rfl⟩:=aY.mp e
  cases(show u=Value.ref _ from r)
  obtain⟨d,h3,r1⟩:=R.lst h1<|jW e1;obtain⟨us,_,p,_⟩:=I.list<|qK.of h3;exact .lst p.isList
 | _=>cases e
abbrev Al (B:aA)(s:aC)(u v:af)(k:Bool):Prop:=SeqAt.RcAt B s u v k/\SeqAt.EqAt B s u v k/\SeqAt.RcNeAt B s u v (!k)
def Z3{B:aA}(hu:B.units<cLine){f:A->A->bi}{v:af}{k:Bool}(d:KdV s h u)(d':KdV s h' v)(nt:∀xs ys,h=.tup xs->h'≠.tup ys)(e:RV f h h'=some k):Al B s u v k:=by
 cases d with
 | non=>cases d' with
  | non=>cases e;exact⟨.none_none,.same _,.none_none⟩
  | bl b=>cases e;exact⟨.none_bool _,.none_bool _,.none_bool _⟩
  | int i t=>cases e;exact⟨.none_int _ _,.none_int _ _,.none_int _ _⟩
  | str x t=>cases e;exact⟨.none_str _ _,.none_str _ _,.none_str _ _⟩
  | tup xs p=>cases e;exact⟨.none_tuple p hu,.none_tuple p hu,.none_tuple p hu⟩
  | lst p=>cases e;exact⟨.none_list p hu,.none_list p hu,.none_list p hu⟩
 | bl c=>cases d' with
  | non=>cases e;exact⟨.bool_none _,.bool_none _,.bool_none _⟩
  | bl b=>cases e;exact⟨.bool_bool _ _,.bool_bool _ _,.bool_bool _ _⟩
  | int i t=>cases e;exact⟨.bool_int _ _ _,.bool_int _ _ _,.bool_int _ _ _⟩
  | str x t=>cases e;exact⟨.bool_str _ _ _,.bool_str _ _ _,.bool_str _ _ _⟩
  | tup xs p=>cases e;exact⟨.bool_tuple _ p hu,.bool_tuple _ p hu,.bool_tuple _ p hu⟩
  | lst p=>cases e;exact⟨.bool_list _ p hu,.bool_list _ p hu,.bool_list _ p hu⟩
 | int c j=>cases d' with
  | non=>cases e;exact⟨.int_none _ _,.int_none _ _,.int_none _ _⟩
  | bl b=>cases e;exact⟨.int_bool _ _ _,.int_bool _ _ _,.int_bool _ _ _⟩
  | int i t=>cases e;exact⟨.int_int _ _ _ _,.int_int _ _ _ _,.int_int _ _ _ _⟩
  | str x t=>cases e;exact⟨.int_str _ _ _ _,.int_str _ _ _ _,.int_str _ _ _ _⟩
  | tup xs p=>cases e;exact⟨.int_tuple _ _ p hu,.int_tuple _ _ p hu,.int_tuple _ _ p hu⟩
  | lst p=>cases e;exact⟨.int_list _ _ p hu,.int_list _ _ p hu,.int_list _ _ p hu⟩
 | str c j=>cases d' with
  | non=>cases e;exact⟨.str_none _ _,.str_none _ _,.str_none _ _⟩
  | bl b=>cases e;exact⟨.str_bool _ _ _,.str_bool _ _ _,.str_bool _ _ _⟩
  | int i t=>cases e;exact⟨.str_int _ _ _ _,.str_int _ _ _ _,.str_int _ _ _ _⟩
  | str x t=>cases e;exact⟨.str_str _ _ _ _,.str_str _ _ _ _,.str_str _ _ _ _⟩
  | tup xs p=>cases e;exact⟨.str_tuple _ _ p hu,.str_tuple _ _ p hu,.str_tuple _ _ p hu⟩
  | lst p=>cases e;exact⟨.str_list _ _ p hu,.str_list _ _ p hu,.str_list _ _ p hu⟩
 | tup zs g=>cases d' with
  | non=>cases e;exact⟨.tuple_none g hu,.tuple_none g hu,.tuple_none g hu⟩
  | bl b=>cases e;exact⟨.tuple_bool _ g hu,.tuple_bool _ g hu,.tuple_bool _ g hu⟩
  | int i t=>cases e;exact⟨.tuple_int _ _ g hu,.tuple_int _ _ g hu,.tuple_int _ _ g hu⟩
  | str x t=>cases e;exact⟨.tuple_str _ _ g hu,.tuple_str _ _ g hu,.tuple_str _ _ g hu⟩
  | tup xs p=>exact absurd rfl (nt _ _ rfl)
  | lst p=>cases e;exact⟨.tuple_list g p hu,.of_refs (λz=>by subst z;exact ID g p)<|.tuple_list g p hu,.tuple_list g p hu⟩
 | lst g=>cases d' with
  | non=>cases e;exact⟨.list_none g hu,.list_none g hu,.list_none g hu⟩
  | bl b=>cases e;exact⟨.list_bool _ g hu,.list_bool _ g hu,.list_bool _ g hu⟩
  | int i t=>cases e;exact⟨.list_int _ _ g hu,.list_int _ _ g hu,.list_int _ _ g hu⟩
  | str x t=>cases e;exact⟨.list_str _ _ g hu,.list_str _ _ g hu,.list_str _ _ g hu⟩
  | tup xs p=>cases e;exact⟨.list_tuple g p hu,.of_refs (λz=>by subst z;exact ID p g)<|.list_tuple g p hu,.list_tuple g p hu⟩
  | lst p=>cases e
def CC{a:A}{x:V}(h:AV X.K ρ H a x)(e:Yb S a=some (.tup xs)):a=.tup xs/\∃p vs,x=.ref p/\H p=some (.tup vs)/\AVs X.K ρ H xs vs:=by
 cases h with
 | tup h r=>cases e;exact⟨rfl,_,_,rfl,h,r⟩
 | ref h=>obtain⟨_,_,z⟩:=aY.mp e;cases z
 | _=>cases e
def Dq{i:Nat}{x:V}(h:AV X.K ρ H (.ref i) x):∃p,x=.ref p/\ρ[i]?=some p:=by
 cases h with
 | ref h=>exact⟨_,rfl,h⟩
def Nn{a:A}(e:Yb S a=some .lst):∃i,a=.ref i:=by
 cases a with
 | ref i=>exact⟨i,rfl⟩
 | _=>cases e
def OE{n:Nat}{a:A}{k:Bool}(e:vJ S (n+1) a b=some k):(∃i j xs ys,a=.ref i/\b=.ref j/\jI S i=some xs/\jI S j=some ys/\sF (vJ S n) xs ys=some k)\/(∃h h',Yb S a=some h/\Yb S b=some h'/\RV (vJ S n) h h'=some k/\(h=.lst->h'≠.lst)):=by
 unfold vJ at e;split at e
 ·obtain⟨xs,e1,e⟩:=cG.mp e;obtain⟨ys,e2,e⟩:=cG.mp e;exact .inl ⟨_,_,xs,ys,rfl,rfl,e1,e2,e⟩
 ·rename_i g;obtain⟨h,e1,e⟩:=cG.mp e;obtain⟨h',e2,e⟩:=cG.mp e;refine .inr ⟨h,h',e1,e2,e,λd f=>?_⟩;subst d f;obtain⟨i,rfl⟩:=Nn e1;obtain⟨j,rfl⟩:=Nn e2;exact g i j rfl rfl
def Q9{f:A->A->bi}{k:Bool}(d:KdV s h u)(d':KdV s h' u)(nt:∀xs ys,h=.tup xs->h'≠.tup ys)(e:RV f h h'=some k):k=true:=by
 cases d with
 | non=>cases d';exact(bf e).symm
 | bl b=>cases d';exact(bf e).symm.trans (bT b)
 | int b=>cases d';exact(bf e).symm.trans (bT b)
 | str b=>cases d';exact(bf e).symm.trans (bT b)
 | tup xs p=>cases d' with
  | tup=>exact absurd rfl (nt _ _ rfl)
  | lst q=>exact(ID p q).elim
 | lst p=>cases d' with
  | tup _ q=>exact(ID q p).elim
  | lst q=>cases e
def EC{f:A->A->bi}(hf:∀a b x u k,AV X.K ρ H a x->AV X.K ρ H b x->RelV x u->f a b=some k->k=true):∀{xs ys:ae}{vs:List V}{us:ba}{k:Bool},AVs X.K ρ H xs vs->AVs X.K ρ H ys vs->Vals vs us->sF f xs ys=some k->k=true:=by
 intro xs ys vs us k h1 h2 q e
 induction q generalizing xs ys k with
 | nil=>cases h1;cases h2;exact(bf e).symm
 | cons j _ d=>
  cases h1 with
  | cons h t=>cases h2 with
   | cons h' g=>
    obtain⟨p,e1,e⟩:=cG.mp e;obtain⟨q,e2,e3⟩:=aY.mp e;rw[<- e3,hf _ _ _ _ p h h' j e1,d t g e2];rfl
def IG(h h':Sh):(∃xs ys,h=.tup xs/\h'=.tup ys)\/(∀xs ys,h=.tup xs->h'≠.tup ys):=by
 cases h with
 | tup xs=>cases h' with
  | tup ys=>exact .inl ⟨xs,ys,rfl,rfl⟩
  | _=>exact .inr λ_ _ _ z=>nomatch z
 | _=>exact .inr λ_ _ z=>nomatch z
theorem Ce(I:Inv X pins σ H s)(R:Rel X.K ρ H S):∀(n:Nat) (a b:A) (x:V) (u:af) (k:Bool),AV X.K ρ H a x->AV X.K ρ H b x->RelV x u->vJ S n a b=some k->k=true
 | 0,_,_,_,_,_,_,_,_,e=>nomatch e
 | n+1,a,b,x,u,k,ha,hb,ru,e=>by
  rcases OE e with⟨i,j,xs,ys,rfl,rfl,e1,e2,e⟩|⟨h,h',e1,e2,e,_⟩
  ·obtain⟨p,rfl,h1⟩:=Dq ha;obtain⟨q,z,h2⟩:=Dq hb
   cases z
   obtain⟨f,h3,r1⟩:=R.lst h1<|jW e1;obtain⟨g,d,r2⟩:=R.lst h2<|jW e2;rw[h3]at d
   cases d
   obtain⟨us,q,_⟩:=I.list<|qK.of h3;exact EC (λa b x u k=>Ce I R n a b x u k) r1 r2 q e
  ·rcases IG h h' with⟨xs,ys,rfl,rfl⟩|t
   ·obtain⟨rfl,p,f,rfl,h3,r1⟩:=CC ha e1;obtain⟨rfl,q,g,z,d,r2⟩:=CC hb e2
    cases z
    have:=I.yi (nF.of h3)<|nF.of d;subst this;obtain⟨us,q,_⟩:=I.tuple<|nF.of h3;exact EC (λa b x u k=>Ce I R n a b x u k) r1 r2 q e
   ·exact Q9 (JM I R ha ru e1) (JM I R hb ru e2) t e
abbrev A5 (f:A->A->bi)(xs ys:ae)(j:Nat):Bool:=match xs[j]?,ys[j]? with
 | some x,some y=>(f x y).getD true
 | _,_=>true
theorem yY{f:A->A->bi}:∀{xs ys:ae}{k:Bool},sF f xs ys=some k->k=((List.range<|min xs.length ys.length).all (A5 f xs ys) && xs.length == ys.length)/\∀j x y,xs[j]?=some x->ys[j]?=some y->f x y=some (A5 f xs ys j)
 | [],[],k,e=>⟨(bf e).symm,λj x y h=>by simp at h⟩
 | [],_::_,k,e=>⟨(bf e).symm,λj x y h=>by simp at h⟩
 | _::_,[],k,e=>⟨(bf e).symm,λj x y _ h=>by simp at h⟩
 | x::xs,y::ys,k,e=>by
  unfold sF at e
  cases e1:f x y with
  | none=>rw[e1]at e;cases e
  | some p=>
   rw[e1]at e;obtain⟨q,e2,e3⟩:=aY.mp e;obtain⟨h1,h2⟩:=yY e2;have d:A5 f (x::xs) (y::ys) 0=p:=by simp[A5,e1]
   have ps:∀j,A5 f (x::xs) (y::ys) (j+1)=A5 f xs ys j:=λj=>by simp[A5]
   refine⟨?_,λj a b ha hb=>?_⟩
   ·rw[<- e3,h1,bG,bG,Nat.succ_min_succ,List.range_succ_eq_map,List.all_cons,jw,d];have:(A5 f (x::xs) (y::ys) ∘ Nat.succ)=A5 f xs ys:=funext ps;rw[this,Bool.and_assoc];simp
   ·cases j with
    | zero=>
     simp at ha hb;subst ha hb;rw[d];exact e1
    | succ j=>rw[ps];exact h2 j a b (by simpa using ha)<|by simpa using hb
def zb{f:A->A->bi}{B:aA}(hf:∀a b x y u v k,AV X.K ρ H a x->AV X.K ρ H b y->RelV x u->RelV y v->f a b=some k->SeqAt.EqAt B s u v k){us ts:ba}{k:Bool}
  (r1:AVs X.K ρ H xs vs) (r2:AVs X.K ρ H ys ws) (q1:Vals vs us) (q2:Vals ws ts) (e:sF f xs ys=some k):∀j (h1:j<us.toArray.size) (h2:j<ts.toArray.size),SeqAt.EqAt B s us.toArray[j] ts.toArray[j] (A5 f xs ys j):=by
 intro j h1 h2;have M:=r1.length;have N:=r2.length;have O:=q1.length;have L:=q2.length;have z:j<xs.length:=by simp at h1;lia
 have hy:j<ys.length:=by simp at h2;lia
 have e1:xs[j]?=some xs[j]:=aI z;have e2:ys[j]?=some ys[j]:=aI hy;obtain⟨x,ex,G⟩:=r1.get e1;obtain⟨y,d,g⟩:=r2.get e2;obtain⟨u,p,F⟩:=q1.get ex;obtain⟨t,C,rt⟩:=q2.get d;have J:us.toArray[j]=u:=by
  have:us[j]?=some us.toArray[j]:=by simp at h1;simp[h1]
  rw[p]at this;exact(bf this).symm
 have q:ts.toArray[j]=t:=by
  have:ts[j]?=some ts.toArray[j]:=by simp at h2;simp[h2]
  rw[C]at this;exact(bf this).symm
 rw[J,q];exact hf _ _ x y u t _ G g F rt<|(yY e).2 j _ _ e1 e2
def in1_units(B:aA):B.in1.units=B.units+1:=rfl
theorem IP(I:Inv X pins σ H s)(R:Rel X.K ρ H S):∀(n:Nat) (B:aA) (a b:A) (x y:V) (u v:af) (k:Bool),B.units+n<cLine->AV X.K ρ H a x->AV X.K ρ H b y->RelV x u->RelV y v->vJ S n a b=some k->Al B s u v k
 | 0,_,_,_,_,_,_,_,_,_,_,_,_,_,e=>nomatch e
 | n+1,B,a,b,x,y,u,v,k,hu,ha,hb,rx,ry,e=>by
  have f:B.units<cLine:=()
  have d:∀a b x y u v k,AV X.K ρ H a x->AV X.K ρ H b y->RelV x u->RelV y v->vJ S n a b=some k->SeqAt.EqAt B.in1 s u v k:=λa b x y u v k h1 h2 h3 J W=>(IP I R n B.in1 a b x y u v k (by rw[in1_units];lia) h1 h2 h3 J W).2.1;have same:=λ(z:y=x)=>Ce I R (n+1) a b x u k ha (z ▸ hb) rx e;have t:∀{p q:ak},x=.ref p->y=.ref q->u=.ref p->v=.ref q->SeqAt.RcAt B s u v k->SeqAt.EqAt B s u v k:=λ{p q} g G z3 z4 h=>by
   subst z3 z4;by_cases O:p=q
   ·subst O;rw[same<|G.trans g.symm];exact .same _
   ·exact .of_refs O h
  rcases OE e with⟨i,j,xs,ys,rfl,rfl,e1,e2,e⟩|⟨h,h',e1,e2,e,_⟩
  ·obtain⟨p,rfl,h1⟩:=Dq ha;obtain⟨q,rfl,h2⟩:=Dq hb;obtain⟨P,h3,r1⟩:=R.lst h1<|jW e1;obtain⟨Z,J,r2⟩:=R.lst h2<|jW e2;obtain⟨us,C,p1,_⟩:=I.list<|qK.of h3;obtain⟨ts,F,p2,_⟩:=I.list<|qK.of J;have M:=t rfl rfl rx ry
   cases(show u=Value.ref p from rx)
   cases(show v=Value.ref q from ry)
   have Y:=r1.length;have l2:=r2.length;have T:=C.length;have l4:=F.length;have ek:=(yY e).1;by_cases N:xs.length=ys.length
   ·rw[<- N,Nat.min_self,bT,Bool.and_true]at ek;have L:us.toArray.size=ts.toArray.size:=by simp;lia
    have g:=SeqAt.RcAt.lists p1.isList p2.isList L f<|zb d r1 r2 C F e;have G:=SeqAt.RcNeAt.lists p1.isList p2.isList L f<|zb d r1 r2 C F e;rw[aZ,<- T,<- Y,<- ek]at g G;exact⟨g,M g,G⟩
   ·have:(xs.length == ys.length)=false:=by simpa using N
    rw[this,Bool.and_false]at ek;subst ek;have L:(us.toArray.size != ts.toArray.size)=true:=by simp;lia
    have g:=SeqAt.RcAt.lists_lengths p1.isList p2.isList L f;exact⟨g,M g,SeqAt.RcNeAt.lists_lengths p1.isList p2.isList L f⟩
  ·rcases IG h h' with⟨xs,ys,rfl,rfl⟩|U
   ·obtain⟨rfl,p,P,rfl,h3,r1⟩:=CC ha e1;obtain⟨rfl,q,Z,rfl,J,r2⟩:=CC hb e2;have M:=t rfl rfl rx ry
    cases(show u=Value.ref p from rx)
    cases(show v=Value.ref q from ry)
    obtain⟨us,C,p1,_⟩:=I.tuple<|nF.of h3;obtain⟨ts,F,p2,_⟩:=I.tuple<|nF.of J;have ek:=(yY e).1;have g:=SeqAt.RcAt.tuples p1 p2 f<|zb d r1 r2 C F e;have G:=SeqAt.RcNeAt.tuples p1 p2 f<|zb d r1 r2 C F e;rw[aZ,aZ,<- C.length,<- F.length,<- r1.length,<- r2.length,<- ek]at g G;exact⟨g,M g,G⟩
   ·exact Z3 f (JM I R ha rx e1) (JM I R hb ry e2) U e
end
section
variable {X:Cx}
abbrev uc (neg:Bool)(a b:A)(S:jK):R A:=opt (vJ S 12 a b) λk=>.ok (.bl<|if neg then !k else k) S
def Qj(hu:X.A.units+64<cLine):n5 X (compareOp .Eq) (r2 X<|uc false):=λpins s σ H x y v u Q I rx ry h9=>by
 z_go;obtain⟨k,e,h⟩:=jN h;exact(IP I R 12 X.A a b x y v u k (by omega) va vb rx ry e).1 _ _ _ _ ⟨.bl _,H,I,rfl,h _ _ _ .refl R<|.bl _⟩
def Gi(hu:X.A.units+64<cLine):n5 X (compareOp .NotEq) (r2 X<|uc true):=λpins s σ H x y v u Q I rx ry h9=>by
 z_go;obtain⟨k,e,h⟩:=jN h;exact(IP I R 12 X.A a b x y v u k (by omega) va vb rx ry e).2.2 _ _ _ _ ⟨.bl _,H,I,rfl,h _ _ _ .refl R<|.bl _⟩
end
section
variable {X:Cx}{pos:Pos}{a b:aE}
meta abbrev Pt:=ae->jK->R (Option Int)
abbrev ZV:Pt:=λ_ S=>.ok none S
abbrev Zf (c:Ex):Pt:=λτ S=>(c τ S).bind λa S1=>match a with
 | .int i=>.ok (some i) S1
 | _=>.no
abbrev Ul (xs:ae)(lo hi:Option Int):ae:=(xs.drop<|HT.sIx xs.length 0 lo).take<|HT.sIx xs.length xs.length hi-HT.sIx xs.length 0 lo
abbrev aSl (a:A)(lo hi:Option Int)(S:jK):R A:=match a with
 | .ref n=>opt (jI S n) λxs=>.ok (.ref S.length) (S++[.lst<|Ul xs lo hi])
 | .frz xs=>.ok (.ref S.length) (S++[.lst<|Ul xs lo hi])
 | .tup xs=>gd (¬(HT.sIx xs.length 0 lo=0/\HT.sIx xs.length xs.length hi=xs.length)) (.ok (.tup<|Ul xs lo hi) S)
 | _=>.no
abbrev eSl (c:Ex)(lo hi:Pt):Ex:=λτ S=>(c τ S).bind λa S1=>(lo τ S1).bind λl S2=>(hi τ S2).bind λu S3=>aSl a l u S3
abbrev aac (a:A)(S:jK):R A:=match a with
 | .ref n=>opt (jI S n) λxs=>.ok (.ref S.length) (S++[.lst xs.reverse])
 | .tup xs=>.ok (.tup xs.reverse) S
 | _=>.no
abbrev kC (f:ae->jK->R A)(d:rR):Ex:=λτ S=>(d τ S).bind λg S1=>f g S1
def Er{f:ae->jK->R A}{d:rR}{H:Hp}{Q:VK}(h:tE X (kC f d) σ H Q):tCB (rN X f) (tL X d) σ H Q:=by
 kl_no;exact⟨ρ,S,τ,R,r,jM (jT h) .refl λg S1 h1 ρ1 H1 j e1 R1 v1=>⟨ρ1,S1,g,R1,v1,jM h1 e1 λ_ _ z=>z.ext e1⟩⟩
variable {x:Str}{p:Pos}{e:aE}{es:List aE}{id T:String}{f:ae->jK->R A}{d:rR}
def kF(hc:kj X (.builtin id)<|rN X f)(hm:X.mg x=none)(hv:bootBuiltins x=some (.builtin id))(ha:AL X (e::es) d)(hg:Gl X x:=by rfl)(hn:x ≠ "__name__" := by decide)(hdb:(x == ("__debug__" : Str))=false:=by decide)
  (he:starEach (e::es) X.env=(false,eval e X.env)::starEach es X.env:=by rfl) (hpl:(backTo pos<|starEach es X.env).any (·.1)=false:=by rfl):AE X (.Call (.Name x p) (e::es) [] pos) (kC f d):=
 PE.imp (MK hc hg hm hv ha hn hdb he hpl) λ_ _ _ h=>Er h
def mY(hc:kj X (.type T)<|rN X f)(hm:X.mg x=none)(hv:bootBuiltins x=some (.type T))(ha:AL X (e::es) d)(hg:Gl X x:=by rfl)(hn:x ≠ "__name__" := by decide)(hdb:(x == ("__debug__" : Str))=false:=by decide)
  (he:starEach (e::es) X.env=(false,eval e X.env)::starEach es X.env:=by rfl) (hpl:(backTo pos<|starEach es X.env).any (·.1)=false:=by rfl):AE X (.Call (.Name x p) (e::es) [] pos) (kC f d):=
 PE.imp (Lm hc hg hm hv ha hn hdb he hpl) λ_ _ _ h=>Er h
def U_(hm:X.mg x=none)(hv:bootBuiltins x=some (.type T))(hg:Gl X x:=by rfl)(hn:x ≠ "__name__" := by decide)(hdb:(x == ("__debug__" : Str))=false:=by decide):AE X (.Name x pos) (eC<|.ty T):=
 PE.imp (SD (v:=.ty T) hg hm hv rfl hn hdb) λσ H Q ⟨ρ,S,τ,R,r,h⟩=>h ρ H _ .refl R<|.ty T
abbrev A.seq (S:jK):A->Option (ae)
 | .tup xs=>some xs
 | .frz xs=>some xs
 | .ref n=>jI S n
 | _=>none
def Ga{K:au}{H:Hp}{x:A}{v:V}(R:Rel K ρ H S)(h:AV K ρ H x v)(e:x.seq S=some xs):∃p vs,v=.ref p/\(qK K H p vs\/nF K H p vs)/\AVs K ρ H xs vs:=by
 cases h with
 | tup h r=>cases bf e;exact⟨_,_,rfl,.inr<|nF.of h,r⟩
 | frz h r=>cases bf e;exact⟨_,_,rfl,.inl h.TH,r⟩
 | ref h=>
  obtain⟨vs,h1,r1⟩:=R.lst h<|jW e;exact⟨_,vs,rfl,.inl<|qK.of h1,r1⟩
 | _=>cases e
def P4{K:au}{H:Hp}{x:A}(h:AVs K ρ H [x] vs):∃v,vs=[v]/\AV K ρ H x v:=by
 cases h with
 | cons h t=>cases t;exact⟨_,rfl,h⟩
def Ra{K:au}{H:Hp}{x:A}(h:AVs K ρ H [x,y] vs):∃v w,vs=[v,w]/\AV K ρ H x v/\AV K ρ H y w:=by
 cases h with
 | cons h t=>obtain⟨w,rfl,h'⟩:=P4 t;exact⟨_,_,rfl,h,h'⟩
abbrev f1 (g:A->jK->R A):ae->jK->R A:=λd S=>match d with
 | [x]=>g x S
 | _=>.no
abbrev f2 (g:A->A->jK->R A):ae->jK->R A:=λd S=>match d with
 | [x,y]=>g x y S
 | _=>.no
def Ui{g:A->jK->R A}{P:A->jK->Prop}{E:Str->jK->Prop}(h:(f1 g as S).post P E):∃x,as=[x]/\(g x S).post P E:=by
 match as,h with
 | [],h=>exact h.elim
 | [x],h=>exact⟨x,rfl,h⟩
 | _::_::_,h=>exact h.elim
def Si{g:A->A->jK->R A}{P:A->jK->Prop}{E:Str->jK->Prop}(h:(f2 g as S).post P E):∃x y,as=[x,y]/\(g x y S).post P E:=by
 match as,h with
 | [],h=>exact h.elim
 | [_],h=>exact h.elim
 | [x,y],h=>exact⟨x,y,rfl,h⟩
 | _::_::_::_,h=>exact h.elim
def LB{g:A->jK->R A}{H:Hp}{Q:VK}(h:rN X (f1 g) vs H Q):∃v,vs=[v]/\∃ρ S x,Rel X.K ρ H S/\AV X.K ρ H x v/\(g x S).post (AO X ρ H Q) (XE X ρ H):=by
 obtain⟨ρ,S,d,R,v,h⟩:=h;obtain⟨x,rfl,h⟩:=Ui h;obtain⟨w,rfl,hv⟩:=P4 v;exact⟨w,rfl,ρ,S,x,R,hv,h⟩
def rn2{g:A->A->jK->R A}{H:Hp}{Q:VK}(h:rN X (f2 g) vs H Q):∃v w,vs=[v,w]/\∃ρ S x y,Rel X.K ρ H S/\AV X.K ρ H x v/\AV X.K ρ H y w/\(g x y S).post (AO X ρ H Q) (XE X ρ H):=by
 obtain⟨ρ,S,j,R,v,h⟩:=h;obtain⟨x,y,rfl,h⟩:=Si h;obtain⟨w,f,rfl,hv,d⟩:=Ra v;exact⟨w,f,rfl,ρ,S,x,y,R,hv,d,h⟩
abbrev su (x:A)(S:jK):R A:=match x with
 | .str x=>gd (x.length<=sizeLine) (.ok (.int x.length) S)
 | .tup xs=>.ok (.int xs.length) S
 | .frz xs=>.ok (.int xs.length) S
 | .ref n=>opt (jI S n) λxs=>.ok (.int xs.length) S
 | _=>.no
def uE:kj X (.builtin "len") (rN X<|f1 su):=kj.imp Pe λg H Q h0=>by
 kd_p;clear h0
 cases hv with
 | str z=>
  obtain⟨f,h⟩:=kc h;exact⟨_,_,rfl,⟨f,rfl⟩,h _ _ _ .refl R<|.int _⟩
 | @tup p xs us h1 r=>exact⟨_,us.length,rfl,.inr ⟨us,(nF.of h1),rfl⟩,by rw[<- r.length];exact h _ _ _ .refl R<|.int _⟩
 | @frz p xs us h1 r=>exact⟨_,us.length,rfl,.inl ⟨us,h1.TH,rfl⟩,by rw[<- r.length];exact h _ _ _ .refl R<|.int _⟩
 | ref d=>
  kj_on;obtain⟨us,h1,r⟩:=R.lst d<|jW hn;exact⟨_,us.length,rfl,.inl ⟨us,qK.of h1,rfl⟩,by rw[<- r.length];exact h _ _ _ .refl R<|.int _⟩
 | _=>exact h.elim
abbrev X7 (x:A)(S:jK):R A:=match x with
 | .int i=>.ok (.int<|if i<0 then -i else i) S
 | _=>.no
def YX:kj X (.builtin "abs") (rN X<|f1 X7):=kj.imp NP λd H Q h0=>by
 kd_p;clear h0
 cases hv<;>first|exact h.elim|exact⟨_,rfl,h _ _ _ .refl R<|.int _⟩
abbrev Zt (x y:A)(S:jK):R A:=match x,y with
 | .int i,.int j=>.ok (.int<|if j>i then j else i) S
 | _,_=>.no
abbrev Z2 (x y:A)(S:jK):R A:=match x,y with
 | .int i,.int j=>.ok (.int<|if j<i then j else i) S
 | _,_=>.no
abbrev Vf (x:A)(S:jK):R A:=match x with
 | .int i=>.ok (.int i) S
 | .bl k=>.ok (.int<|if k then 1 else 0) S
 | .str y=>opt (PySem.intText? y) λn=>gd (y.length<=640) (.ok (.int n) S)
 | _=>.no
abbrev yZ (x y:A)(S:jK):R A:=match x,y with
 | .int i,.int j=>.ok (.rng i j) S
 | _,_=>.no
def FW:kj X (.type "range") (rN X<|f2 yZ):=kj.imp Dy λk H Q h0=>by
 obtain⟨w,q,rfl,ρ,S,x,y,R,hv,d,h⟩:=rn2 h0;clear h0
 cases hv with
 | int i=>
  cases d with
  | int j=>
   refine⟨i,j,rfl,λp g=>?_⟩;obtain⟨ex,f⟩:=R.im (u:=.rng i j) g;exact h ρ _ _ ex f<|.rng kD
  | _=>exact h.elim
 | _=>exact h.elim
abbrev Bv (i j:Int):Prop:=(-(2 ^ 62)<=i/\i<2 ^ 62/\-(2 ^ 62)<=j/\j<2 ^ 62)/\(j-i).toNat<=1000
instance (i j:Int):Decidable (Bv i j):=by unfold Bv;infer_instance
abbrev wR (x:A)(S:jK):R A:=match x with
 | .rng i j=>gd (Bv i j) (.ok (.ref S.length)<|S++[.lst<|(lU i j).map .int])
 | .tup xs=>.ok (.ref S.length) (S++[.lst xs])
 | .frz xs=>.ok (.ref S.length) (S++[.lst xs])
 | .ref n=>opt (jI S n) λxs=>.ok (.ref S.length) (S++[.lst xs])
 | _=>.no
def CK(hc:X.calm=true):kj X (.type "list") (rN X<|f1 wR):=λpins s σ H d us Q I rx h0=>by
 kd_p;clear h0
 cases hv with
 | @rng p i j g=>
  obtain⟨f,h⟩:=kc h;exact A8 hc pins s σ H _ us Q I rx ⟨p,i,j,rfl,g,f.1,f.2,nK R (oq _) .refl h⟩
 | @tup p xs d h1 r=>exact tH pins s σ H _ us Q I rx ⟨p,d,rfl,.inr<|nF.of h1,nK R r .refl h⟩
 | @frz p xs d h1 r=>exact tH pins s σ H _ us Q I rx ⟨p,d,rfl,.inl h1.TH,nK R r .refl h⟩
 | @ref p n g=>
  kj_on;obtain⟨d,h1,r⟩:=R.lst g<|jW hn;exact tH pins s σ H _ us Q I rx ⟨p,d,rfl,.inl<|qK.of h1,nK R r .refl h⟩
 | _=>exact h.elim
abbrev wg (x:A)(S:jK):R A:=match x with
 | .rng i j=>gd (Bv i j) (.ok (.tup<|(lU i j).map .int) S)
 | .tup xs=>.ok (.tup xs) S
 | .frz xs=>.ok (.tup xs) S
 | .ref n=>opt (jI S n) λxs=>.ok (.tup xs) S
 | _=>.no
def DU(hc:X.calm=true):kj X (.type "tuple") (rN X<|f1 wg):=λpins s σ H d us Q I rx h0=>by
 kd_p;clear h0
 cases hv with
 | @rng p i j g=>
  obtain⟨f,h⟩:=kc h;exact zS hc pins s σ H _ us Q I rx ⟨p,i,j,rfl,g,f.1,f.2,xy R (oq _) .refl h⟩
 | @tup p xs d h1 r=>exact rX pins s σ H _ us Q I rx ⟨p,d,rfl,.inr ⟨(nF.of h1),h _ _ _ .refl R<|.tup h1 r⟩⟩
 | @frz p xs d h1 r=>exact rX pins s σ H _ us Q I rx ⟨p,d,rfl,.inl ⟨h1.TH,xy R r .refl h⟩⟩
 | @ref p n g=>
  kj_on;obtain⟨d,h1,r⟩:=R.lst g<|jW hn;exact rX pins s σ H _ us Q I rx ⟨p,d,rfl,.inl ⟨qK.of h1,xy R r .refl h⟩⟩
 | _=>exact h.elim
abbrev A.Gx:ae->Option (List Bool)
 | []=>some []
 | .bl b::xs=>(A.Gx xs).map (b::·)
 | _=>none
theorem Gy{K:au}{H:Hp}:∀{xs:ae}{vs:List V}{bs:List Bool},AVs K ρ H xs vs->A.Gx xs=some bs->vs=bs.map V.bl
 | _,_,_,.nil,e=>by cases e;rfl
 | x::xs,_,bs,.cons h t,e=>by
  cases x with
  | bl b=>
   obtain⟨d,e1,rfl⟩:=aY.mp (show(A.Gx xs).map (b::·)=some bs from e)
   cases h
   rw[Gy t e1];rfl
  | _=>cases e
abbrev GZ (x:A)(S:jK):R A:=match x with
 | .ref n=>opt (jI S n) λxs=>opt (A.Gx xs) λbs=>.ok (.bl<|bs.all λb=>b) S
 | _=>.no
def Z0(hc:X.calm=true):kj X (.builtin "all") (rN X<|f1 GZ):=kj.imp (LH hc) λd H Q h0=>by
 kd_p;clear h0
 cases hv with
 | @ref p n f=>
  kj_on;obtain⟨bs,hb,h⟩:=jN h;obtain⟨d,h1,r⟩:=R.lst f<|jW hn;rw[Gy r hb]at h1;exact⟨p,bs,rfl,qK.of h1,h _ _ _ .refl R<|.bl _⟩
 | _=>exact h.elim
abbrev W6 (x:A)(S:jK):R A:=match x with
 | .ref n=>opt (jI S n) λxs=>opt (A.Gx xs) λbs=>.ok (.bl<|bs.any λb=>b) S
 | _=>.no
def Y6(hc:X.calm=true):kj X (.builtin "any") (rN X<|f1 W6):=kj.imp (LQ hc) λd H Q h0=>by
 kd_p;clear h0
 cases hv with
 | @ref p n f=>
  kj_on;obtain⟨bs,hb,h⟩:=jN h;obtain⟨d,h1,r⟩:=R.lst f<|jW hn;rw[Gy r hb]at h1;exact⟨p,bs,rfl,qK.of h1,h _ _ _ .refl R<|.bl _⟩
 | _=>exact h.elim
abbrev insI (x:Int):ag->ag
 | []=>[x]
 | y::ys=>if x<=y then x::y::ys else y::insI x ys
abbrev sortI:ag->ag
 | []=>[]
 | x::xs=>insI x<|sortI xs
theorem insI_perm(x:Int):∀ys:ag,(insI x ys).Perm (x::ys)
 | []=>eS _
 | y::ys=>by
  unfold insI;by_cases h:x<=y
  ·rw[aN h]
  ·rw[aM h];exact((insI_perm x ys).cons y).trans (List.Perm.swap x y ys)
theorem sortI_perm:∀xs:ag,(sortI xs).Perm xs
 | []=>eS _
 | x::xs=>(insI_perm x<|sortI xs).trans<|(sortI_perm xs).cons x
theorem Jl(x:Int):∀ys:ag,ys.Pairwise (·<=·)->(insI x ys).Pairwise (·<=·)
 | [],_=>cP _ _
 | y::ys,h=>by
  unfold insI;obtain⟨h1,h2⟩:=cj.mp h;by_cases f:x<=y
  ·rw[aN f];exact cj.mpr ⟨λz d=>(bF.mp d).elim (λe=>e ▸ f) λd=>Int.le_trans f<|h1 z d,h⟩
  ·rw[aM f];refine cj.mpr ⟨λz d=>?_,Jl x ys h2⟩
   rcases bF.mp ((insI_perm x ys).mem_iff.mp d)with e|d
   ·subst e;lia
   ·exact h1 z d
theorem w6:∀xs:ag,(sortI xs).Pairwise (·<=·)
 | []=>List.Pairwise.nil
 | x::xs=>Jl x _<|w6 xs
abbrev M_ (x:A)(S:jK):R A:=opt (x.seq S) λxs=>opt (A.ints xs) λd=>gd (d.length<64)<|.ok (.ref S.length)<|S++[.lst<|(sortI d).map .int]
def TY:kj X (.builtin "sorted") (rN X<|f1 M_):=kj.imp Dm λq H Q h0=>by
 kd_p;clear h0;kj_on;obtain⟨d,hb,h⟩:=jN h;obtain⟨k,h⟩:=kc h;obtain⟨p,us,rfl,hs,r⟩:=Ga R hv hn;rw[qi r hb]at hs;refine⟨p,d,rfl,hs,k,λl f g j hw=>?_⟩;have:f=sortI d:=IK (j.trans (sortI_perm d).symm) hw<|w6 d;rw[this];exact nK R (oq _) .refl h l g
abbrev A.kd:A->jK->Option Kd
 | .non,_=>some .non
 | .bl _,_=>some .bl
 | .int _,_=>some .int
 | .str _,_=>some .str
 | .tup _,_=>some .tup
 | .ref n,S=>(jI S n).map λ_=>.lst
 | _,_=>none
def Sd{K:au}(k:Kd):PySem.W.kitOne K k.ty (.type "str")=some (decide<|k=.str):=by cases k<;>rfl
abbrev Lx (k:Kd)(c:String):bi:=if c = "int" then some (decide<|k=.int\/k=.bl)else if c = "bool" then some (decide<|k=.bl)else if c = "tuple" then some (decide<|k=.tup)else if c = "list" then some (decide<|k=.lst)else if c = "str" then some (decide<|k=.str)else none
def Jc{K:au}{k:Kd}{c:String}{b:Bool}(h:Lx k c=some b):PySem.W.kitOne K k.ty (.type c)=some b:=by
 unfold Lx at h;split at h
 ·rename_i e;subst e;rw[<- h];exact T_ k
 ·split at h
  ·rename_i e;subst e;rw[<- h];exact Nl k
  ·split at h
   ·rename_i e;subst e;rw[<- h];exact kit_tuple k
   ·split at h
    ·rename_i e;subst e;rw[<- h];exact Oz k
    ·split at h
     ·rename_i e;subst e;rw[<- h];exact Sd k
     ·cases h
abbrev TX (x y:A)(S:jK):R A:=match y with
 | .ty c=>opt (x.kd S) λk=>opt (Lx k c) λb=>.ok (.bl b) S
 | _=>.no
def Z8{K:au}{H:Hp}{x:A}{v:V}{k:Kd}(R:Rel K ρ H S)(h:AV K ρ H x v)(e:x.kd S=some k):(∃p vs,v=.ref p/\nF K H p vs/\k=.tup)\/XI H v k:=by
 cases h with
 | non=>cases e;exact .inr rfl
 | bl b=>cases e;exact .inr ⟨b,rfl⟩
 | int i=>cases e;exact .inr ⟨i,rfl⟩
 | str i=>cases e;exact .inr ⟨i,rfl⟩
 | tup h r=>cases e;exact .inl ⟨_,_,rfl,(nF.of h),rfl⟩
 | ref h=>
  obtain⟨xs,e1,e2⟩:=aY.mp e;obtain⟨vs,h1,_⟩:=R.lst h (jW e1)
  cases e2
  exact .inr ⟨_,vs,rfl,h1⟩
 | _=>cases e
def UZ:kj X (.builtin "isinstance") (rN X<|f2 TX):=λpins s σ H f us Q I rx h0=>by
 obtain⟨w,J,rfl,ρ,S,x,y,R,hv,d,h⟩:=rn2 h0;clear h0
 cases d with
 | ty c=>
  obtain⟨k,t,h⟩:=jN h;obtain⟨b,hb,hq⟩:=jN h;have hq:AO X ρ H Q (.bl b) S:=hq;clear h
  rcases Z8 R hv t with⟨p,f,rfl,j,rfl⟩|B
  ·obtain⟨F,C,rfl,r1,r2⟩:=vals2 rx;obtain⟨g,q,⟨o,h1,h2,_⟩,_⟩:=I.tuple j
   cases(show _=Value.ref p from r1)
   cases(show _=Value.type c from r2)
   exact cU PySem.W.kitx_tuple I.D3 ⟨o,h1,h2⟩ (Jc hb) (λz=>nomatch z) λG=>⟨.bl b,H,I.tok _,rfl,hq _ _ _ .refl R<|.bl _⟩
  ·exact Fj (c:=c) pins s σ H _ us Q I rx ⟨w,_,b,rfl,B.ab7,Jc hb,hq _ _ _ .refl R<|.bl _⟩
 | _=>exact h.elim
end
abbrev DO (x:ag):List (ag)->List (ag)
 | []=>[x]
 | y::ys=>if HT.lexLt y x=true then y::DO x ys else x::y::ys
abbrev kB:List (ag)->List (ag)
 | []=>[]
 | x::xs=>DO x<|kB xs
abbrev CP (a b:ag):Prop:=HT.lexLt b a=false
def CP.trans{a c:ag}(h1:CP a b)(h2:CP b c):CP a c:=by
 unfold CP at *
 cases e:HT.lexLt c a with
 | false=>rfl
 | true=>
  rcases Sx.Ig (b:=b) e with z|z
  ·rw[h2]at z;cases z
  ·rw[h1]at z;cases z
theorem yb(x:ag):∀ys:List<|ag,(DO x ys).Perm (x::ys)
 | []=>eS _
 | y::ys=>by
  unfold DO;by_cases h:HT.lexLt y x=true
  ·rw[aN h];exact((yb x ys).cons y).trans (List.Perm.swap x y ys)
  ·rw[aM h]
theorem j8:∀xs:List<|ag,(kB xs).Perm xs
 | []=>eS _
 | x::xs=>(yb x<|kB xs).trans<|(j8 xs).cons x
theorem Js(x:ag):∀ys:List<|ag,ys.Pairwise CP->(DO x ys).Pairwise CP
 | [],_=>cP _ _
 | y::ys,h=>by
  unfold DO;obtain⟨h1,h2⟩:=cj.mp h;by_cases g:HT.lexLt y x=true
  ·rw[aN g];refine cj.mpr ⟨λz d=>?_,Js x ys h2⟩
   rcases bF.mp ((yb x ys).mem_iff.mp d)with e|d
   ·subst e;unfold CP
    cases e:HT.lexLt z y with
    | false=>rfl
    | true=>have:=Sx.Dg g e;rw[Sx.CY]at this;cases this
   ·exact h1 z d
  ·rw[aM g];have f:CP x y:=by unfold CP;simpa using g
   exact cj.mpr ⟨λz d=>(bF.mp d).elim (λe=>e ▸ f) λd=>f.trans<|h1 z d,h⟩
theorem uL:∀xs:List<|ag,(kB xs).Pairwise CP
 | []=>List.Pairwise.nil
 | x::xs=>Js x _<|uL xs
def GC{xs:List<|ag}(p:xs.Perm ys)(h:xs.Pairwise CP):xs=kB ys:=
 fy (λa b _ _ h1 h2=>(Sx.xr h1 h2).symm) h (uL ys) (p.trans (j8 ys).symm)
theorem pig:∀(N:Nat) (l:am),l.Nodup->(∀x∈l,x<N)->l.length<=N
 | 0,l,_,h=>by
  cases l with
  | nil=>exact aK _
  | cons a l=>exact absurd (h a<|aO ..)<|fR _
 | N+1,l,nd,h=>by
  have h1:=pig N (l.erase N) (nd.erase N) λx d=>by
   have:=h x<|List.mem_of_mem_erase d;have:x≠N:=λz=>by
    subst z;exact(List.Nodup.not_mem_erase nd) d
   lia
  have:=List.le_length_erase (l:=l) (a:=N)
  lia
def zq{N:Nat}{g:Nat->Nat}(h:∀i,i<N->g i<N)(inj:∀i j,i<j->j<N->g i≠g j):((List.range N).map g).Perm (List.range N):=by
 have nd:((List.range N).map g).Nodup:=by
  unfold List.Nodup;rw[cA];intro i j k p f;rw[aG,b_]at k p;rw[fH,fH,eT,eT];exact inj i j f p
 have lt:∀x∈(List.range N).map g,x<N:=λx d=>by
  obtain⟨i,k,rfl⟩:=bu.mp d;exact h i<|cO.mp k
 refine(jb nd List.nodup_range).mpr λa=>⟨λha=>cO.mpr<|lt a ha,λha=>?_⟩;refine Classical.byContradiction λhn=>?_;have:=pig N (a::(List.range N).map g) (bU.mpr ⟨hn,nd⟩) λx d=>by
  rcases bF.mp d with rfl|d
  ·exact cO.mp ha
  ·exact lt x d
 rw[bG,aG,b_]at this
 lia
def range_getD{α:Type}(l:List α)(d:α):(List.range l.length).map (λi=>l.getD i d)=l:=by
 apply fu;intro i;rw[aX];by_cases c:i<l.length
 ·rw[gv c];show some (l.getD i d)=_;rw[aL,aI c];rfl
 ·rw[fZ<|by rw[b_];lia,fZ ()];rfl
def GA{kss:List<|ag}{g:Nat->Nat}(c:Sx.Cl g 0 kss.length)(so:Sx.So (Sx.Gp kss) g 0 kss.length):(List.range kss.length).map (λi=>kss.getD (g i) [])=kB kss:=by
 refine GC ?_ ?_
 ·have p:=zq (N:=kss.length) (g:=g) (λi k=>(c i (bK _) k).2) λi j d f z=>by
   have:=so i j (bK _) d f;rw[z]at this;exact this.NB
  have:=p.map λi=>kss.getD i [];rw[bz,range_getD]at this;exact this
 ·rw[cA];intro i j k f d;rw[aG,b_]at k f;rw[fH,fH,eT,eT];exact(so i j (bK _) d f).ge
abbrev Wl:ae->Option (List<|ag)
 | []=>some []
 | .tup xs::r=>match A.ints xs with
  | some (k::ks)=>(Wl r).map λd=>(k::ks)::d
  | _=>none
 | _=>none
theorem Ux{K:au}{H:Hp}:∀{xs:ae}{vs:List V}{kss:List<|ag},AVs K ρ H xs vs->Wl xs=some kss ->
  ∃rs:bb,vs=rs.map V.ref/\rs.length=kss.length/\∀(i:Nat) (r:ak) (ks:ag),rs[i]?=some r->kss[i]?=some ks->nF K H r (ks.map V.int)/\ks≠[]/\AV K ρ H (.tup<|ks.map .int) (.ref r)
 | [],_,_,.nil,e=>by cases e;exact⟨[],rfl,rfl,λi r ks h=>by simp at h⟩
 | x::xs,_,kss,.cons h t,e=>by
  cases h with
  | tup h r=>
   rename_i a ys us;unfold Wl at e
   cases e1:A.ints ys with
   | none=>rw[e1]at e;cases e
   | some ks=>
    rw[e1]at e
    cases ks with
    | nil=>cases e
    | cons k ks=>
     obtain⟨f,e2,rfl⟩:=aY.mp e;obtain⟨rs,rfl,p,g⟩:=Ux t e2;have ev:=qi r e1;subst ev;refine⟨a::rs,rfl,by rw[bG,bG,p],λi j d h1 h2=>?_⟩
     cases i with
     | zero=>
      cases h1
      cases h2
      exact⟨nF.of h,(λz=>nomatch z),.tup h<|oq _⟩
     | succ i=>exact g i j d (by simpa using h1)<|by simpa using h2
  | _=>cases e
theorem AH{K:au}{H:Hp}{α:Type}{f:α->A}{h:α->V}:∀{l:List α},(∀a∈l,AV K ρ H (f a)<|h a)->AVs K ρ H (l.map f) (l.map h)
 | [],_=>.nil
 | a::l,e=>.cons (e a<|aO ..)<|AH λb hb=>e b<|aQ _ hb
section
variable {X:Cx}
abbrev CQ (n:Nat)(S:jK):R A:=opt (jI S n) λxs=>opt (Wl xs) λd=>.ok (.ref S.length)<|S++[.lst<|(kB d).map λks=>.tup<|ks.map .int]
abbrev XM (x:A)(S:jK):R A:=match x with
 | .ref n=>CQ n S
 | _=>.no
abbrev isT (x:A)(S:jK):Bool:=match x with
 | .ref n=>match jI S n with
  | some (.tup _::_)=>true
  | _=>false
 | _=>false
abbrev yq (x:A)(S:jK):R A:=match isT x S with
 | false=>M_ x S
 | true=>match x with
  | .ref n=>CQ n S
  | _=>.no
def SE:kj X (.builtin "sorted") (rN X<|f1 XM):=kj.imp Cf λC H Q h0=>by
 kd_p;clear h0
 cases hv with
 | ref q=>
  rename_i p n;kj_on;obtain⟨d,hb,h⟩:=jN h;obtain⟨us,h1,r⟩:=R.lst q<|jW hn;obtain⟨f,rfl,B,k⟩:=Ux r hb;refine⟨p,f,d,rfl,qK.of h1,B,λi r ks e1 e2=>⟨(k i r ks e1 e2).1,(k i r ks e1 e2).2.1⟩,λl g j hc hs=>?_⟩;have z:AVs X.K ρ H ((kB d).map λks=>.tup<|ks.map .int) (((List.range d.length).map λi=>f.getD (g i) 0).map V.ref):=by
   rw[<- GA hc hs,bz,bz];refine AH λi t=>?_;have lt:=(hc i (bK _)<|cO.mp t).2;have e1:f[g i]?=some (f.getD (g i) 0):=by rw[aL,aI ()];rfl
   have e2:d[g i]?=some (d.getD (g i) []):=by rw[aL,aI lt];rfl
   exact(k _ _ _ e1 e2).2.2
  exact nK R z .refl h l j
 | _=>exact h.elim
def Ml:kj X (.builtin "sorted") (rN X<|f1 yq):=λpins s σ H xs us Q I r h=>by
 obtain⟨w,rfl,ρ,S,x,R,hv,h⟩:=LB h;unfold yq at h
 cases e:isT x S with
 | false=>
  rw[e]at h;exact TY pins s σ H _ us Q I r ⟨ρ,S,[x],R,.cons hv .nil,h⟩
 | true=>
  rw[e]at h;exact SE pins s σ H _ us Q I r ⟨ρ,S,[x],R,.cons hv .nil,h⟩
end
abbrev RS.post (r:RS)(N:ae->jK->Prop)(T:A->jK->Prop)(B C:ae->jK->Prop)(E:Str->jK->Prop):Prop:=match r with
 | .nx τ S=>N τ S
 | .rt a S=>T a S
 | .bk τ S=>B τ S
 | .ct τ S=>C τ S
 | .ex c S=>E c S
 | .no=>False
abbrev RS.of {α:Type}(r:R α)(f:α->jK->RS):RS:=match r with
 | .ok a S=>f a S
 | .ex c S=>.ex c S
 | .no=>.no
def of_post{α:Type}{r:R α}{f:α->jK->RS}{N B C:ae->jK->Prop}{T:A->jK->Prop}{E:Str->jK->Prop}(h:(RS.of r f).post N T B C E):r.post (λa S=>(f a S).post N T B C E) E:=by
 cases r<;>exact h
def RS.mono{r:RS}{N B C N' B' C':ae->jK->Prop}{T T':A->jK->Prop}{E E':Str->jK->Prop}(h:r.post N T B C E)(hn:∀τ S,N τ S->N' τ S)(ht:∀a S,T a S->T' a S)(hb:∀τ S,B τ S->B' τ S)(hc:∀τ S,C τ S->C' τ S)(he:∀c S,E c S->E' c S):r.post N' T' B' C' E':=by
 cases r with
 | nx τ S=>exact hn _ _ h
 | rt a S=>exact ht _ _ h
 | bk τ S=>exact hb _ _ h
 | ct τ S=>exact hc _ _ h
 | ex c S=>exact he _ _ h
 | no=>exact h.elim
abbrev Kh (X:Cx)(ρ:bb)(H:Hp)(N:L2.St->Hp->Prop):ae->jK->Prop:=λf g=>∀ρ' H' d,Ext ρ ρ' H H'->Rel X.K ρ' H' g->SR X.K ρ' H' f d->N d H'
def Kh.ext{X:Cx}{H H':Hp}{N:L2.St->Hp->Prop}(h:Kh X ρ H N τ S)(e:Ext ρ ρ' H H'):Kh X ρ' H' N τ S:=λρ2 H2 d e2=>h ρ2 H2 d<|e.trans e2
abbrev Bj (X:Cx)(ρ:bb)(H:Hp)(D:Ends)(r:RS):Prop:=r.post (Kh X ρ H D.nx) (AO X ρ H D.rt) (Kh X ρ H D.bk) (Kh X ρ H D.ct)<|XE X ρ H
def Bj.ext{X:Cx}{H H':Hp}{D:Ends}{r:RS}(h:Bj X ρ H D r)(e:Ext ρ ρ' H H'):Bj X ρ' H' D r:=RS.mono h (λ_ _ z=>z.ext e) (λ_ _ z=>z.ext e) (λ_ _ z=>z.ext e) (λ_ _ z=>z.ext e) λ_ _ z=>z.ext e
abbrev tS (X:Cx)(c:Sm):TS:=λD σ H=>∃ρ S τ,Rel X.K ρ H S/\SR X.K ρ H τ σ/\Bj X ρ H D (c τ S)
abbrev AS (X:Cx)(st:aF)(c:Sm):Prop:=PS X st<|tS X c
abbrev Tq (X:Cx)(sts:List aF)(c:Sm):Prop:=CI X sts<|tS X c
abbrev tG (X:Cx)(g:Tg):TG:=λv σ H Q=>∃ρ S τ a,Rel X.K ρ H S/\SR X.K ρ H τ σ/\AV X.K ρ H a v/\(g a τ S).post (Kh X ρ H Q) (XE X ρ H)
abbrev AG (X:Cx)(e:aE)(g:Tg):Prop:=PG X e<|tG X g
meta abbrev QZ:=ae->ae->jK->R (ae)
abbrev tGs (X:Cx)(g:QZ):Vx:=λf σ H Q=>∃ρ S τ d,Rel X.K ρ H S/\SR X.K ρ H τ σ/\AVs X.K ρ H d f/\(g d τ S).post (Kh X ρ H Q) (XE X ρ H)
abbrev AGs (X:Cx)(es:List aE)(g:QZ):Prop:=Zy X es<|tGs X g
section
variable {X:Cx}{pos:Pos}{a b e:aE}{st:aF}{rest:List aF}{c d:Sm}
def PS.imp{t t':TS}(h:PS X st t)(i:∀D σ H,t' D σ H->t D σ H):PS X st t':=λpins s σ H D I q=>h pins s σ H D I<|i D σ H q
def CI.imp{t t':TS}(h:CI X rest t)(i:∀D σ H,t' D σ H->t D σ H):CI X rest t':=λpins s σ H D I q=>h pins s σ H D I<|i D σ H q
def PG.imp{t t':TG}(h:PG X e t)(i:∀v σ H Q,t' v σ H Q->t v σ H Q):PG X e t':=λpins s σ H v u Q I r q=>h pins s σ H v u Q I r<|i _ _ _ _ q
abbrev j_ (i:Nat):Tg:=λa τ S=>.ok (τ.set i a) S
def j0{i:Nat}{x:Str}(hN:X.N.Nodup)(hi:X.N[i]?=some x:=by rfl)(hx:Loc X.env.scope x:=by first|exact Or.inl rfl|exact Or.inr rfl)(hf:X.fn x=true\/X.env.scope.names.lookup x=some .local:=by first|exact .inl rfl|exact .inr rfl|assumption):AG X (.Name x pos) (j_ i):=
 PG.imp (IQ hN hi hx hf) λv σ H Q ⟨ρ,S,τ,a,R,r,va,h⟩=>h ρ H _ .refl R<|r.set va
abbrev yw:QZ:=λd τ S=>match d with
 | []=>.ok τ S
 | _=>.no
abbrev qa (g:Tg)(gs:QZ):QZ:=λd τ S=>match d with
 | a::d=>(g a τ S).bind λf S1=>gs d f S1
 | []=>.no
def nI:AGs X [] yw:=λpins s σ H d us Q I r ⟨ρ,S,τ,g,R,f,va,h⟩=>Uk pins s σ H d us Q I r (by
 cases va with
 | nil=>exact⟨rfl,h ρ H σ .refl R f⟩
 | cons _ _=>exact h.elim)
def ko{g:Tg}{gs:QZ}(h1:AG X e g)(h2:AGs X es gs)(hs:(assignEach (e::es) X.env).map (·.2)=assign e X.env::(assignEach es X.env).map (·.2):=by rfl):AGs X (e::es) (qa g gs):=
 λpins s σ H k us Q I r ⟨ρ,S,τ,t,R,p,va,h⟩=>QG h1 h2 hs pins s σ H k us Q I r (by
  cases va with
  | nil=>exact h.elim
  | cons ha q=>exact⟨_,_,rfl,ρ,S,τ,_,R,p,ha,jM (jT h) .refl λd S1 h1 ρ1 H1 j e1 R1 f=>⟨ρ1,S1,d,_,R1,f,q.ext e1,jM h1 e1 λ_ _ z=>z.ext e1⟩⟩)
abbrev yC (n:Nat)(gs:QZ):Tg:=λa τ S=>match a with
 | .tup xs | .ktu xs=>gd (xs.length=n) (gs xs τ S)
 | _=>.no
def p7{k n:Nat}{gs:QZ}(hc:X.calm=true)(h:AGs X es gs)(hn:(assignEach es X.env).length=n:=by rfl)(hst:(assignEach es X.env).findIdx? (·.1)=none:=by rfl):AG X (.Tuple es k pos) (yC n gs):=
 PG.imp (YD hc h hn hst) λv σ H Q h9=>by
  obtain⟨ρ,S,τ,a,R,r,va,h⟩:=h9
  cases va with
  | tup h1 r1=>
   obtain⟨d,h⟩:=kc h;exact⟨_,_,rfl,nF.of h1,by rw[<- r1.length];exact d,ρ,S,τ,_,R,r,r1,h⟩
  | ktu h1 r1=>
   obtain⟨d,h⟩:=kc h;exact⟨_,_,rfl,.inr h1,by rw[<- r1.length];exact d,ρ,S,τ,_,R,r,r1,h⟩
  | _=>exact h.elim
abbrev Eh (o i v:A)(S:jK):R Unit:=match o,i with
 | .ref n,.int k=>opt (jI S n) λxs=>opt (EK xs.length k) λj=>.ok Unit.unit (S.set n<|.lst<|xs.set j v)
 | _,_=>.no
abbrev rSt (X:Cx):Hi:=λo i v H Q=>∃ρ S ao f d,Rel X.K ρ H S/\AV X.K ρ H ao o/\AV X.K ρ H f i/\AV X.K ρ H d v/\(Eh ao f d S).post (λ_ g=>∀ρ' H',Ext ρ ρ' H H'->Rel X.K ρ' H' g->Q H') (XE X ρ H)
def SY:E3 X (rSt X):=λpins s σ H o i v B iv u Q I g z q h9=>by
 obtain⟨ρ,S,ao,F,G,R,h1,h2,h3,h⟩:=h9
 cases h1 with
 | @ref p n d=>
  cases h2 with
  | int k=>
   kj_on;obtain⟨j,C,h⟩:=jN h;obtain⟨f,e,r⟩:=R.lst d<|jW hn;obtain⟨ex,t⟩:=R.put d (jW hn)<|r.set h3 j;exact set_list pins s σ H _ _ v B iv u Q I g z q ⟨p,f,k,j,rfl,rfl,e,by rw[<- r.length];exact C,h _ _ ex t⟩
  | _=>exact h.elim
 | _=>exact h.elim
abbrev Vu (co ci:Ex):Tg:=λa τ S=>(co τ S).bind λo S1=>(ci τ S1).bind λi S2=>(Eh o i a S2).bind λ_ S3=>.ok τ S3
def zT{co ci:Ex}(ho:AE X o co)(hi:AE X i ci)
  (ha:∀v,assign (.Subscript o i pos) X.env v=(do
   let ov <- holding [v] (eval o X.env)
   let iv <- holding [v,ov] (eval i X.env)
   standAt pos
   holding [v,ov,iv] (setItem ov iv v)
   release [v,ov,iv] []):=by intro _;rfl):AG X (.Subscript o i pos) (Vu co ci):=PG.imp (Dw ho hi SY ha) λv σ H Q h9=>by
 obtain⟨ρ,S,τ,a,R,r,va,h⟩:=h9;k_ne;gn_on;ksr_p
abbrev r_:Sm:=λτ S=>.nx τ S
abbrev j6 (c d:Sm):Sm:=λτ S=>match c τ S with
 | .nx f g=>d f g
 | r=>r
def lR:Tq X [] r_:=CI.imp T8 λD σ H ⟨ρ,S,τ,R,r,h⟩=>h ρ H σ .refl R r
def Rv{D:Ends}{H:Hp}(h:tS X (j6 c d) D σ H):Zp (tS X c) (tS X d) D σ H:=by
 kl_no;refine⟨ρ,S,τ,R,r,?_⟩;unfold j6 at h
 cases hc:c τ S with
 | nx f S1=>
  rw[hc]at h;exact λρ1 H1 g e1 R1 r1=>⟨ρ1,S1,f,R1,r1,Bj.ext h e1⟩
 | rt a S1=>rw[hc]at h;exact h
 | bk f S1=>rw[hc]at h;exact h
 | ct f S1=>rw[hc]at h;exact h
 | ex x S1=>rw[hc]at h;exact h
 | no=>rw[hc]at h;exact h
def jL(h1:AS X st c)(h2:Tq X rest d):Tq X (st::rest) (j6 c d):=CI.imp (Oo h1 h2) λD σ H h=>Rv h
def jQ(h1:AS X st c):Tq X [st] c:=Rb h1
abbrev XQ:Sm:=λτ S=>.bk τ S
abbrev ZE:Sm:=λτ S=>.ct τ S
abbrev m5 (e:Ex):Sm:=λτ S=>.of (e τ S) λ_ S1=>.nx τ S1
def mH{f:Ex}(he:AE X e f)(hs:swapsWith e none pos.line X.env=pure false:=by rfl):AS X (.Expr e pos) (m5 f):=PS.imp (RK he hs) λD σ H ⟨ρ,S,τ,R,r,h⟩=>
 ⟨ρ,S,τ,R,r,jM (of_post h) .refl λa S1 h1 ρ1 H1 x e1 R1 v1=>h1 ρ1 H1 σ e1 R1<|r.ext e1⟩
abbrev mh (e:Ex):Sm:=λτ S=>.of (e τ S) λa S1=>.rt a S1
def kh{f:Ex}(he:AE X e f):AS X (.Return (some e) pos) (mh f):=PS.imp (Yn he) λD σ H ⟨ρ,S,τ,R,r,h⟩=>⟨ρ,S,τ,R,r,jM (of_post h) .refl λa S1 h1=>h1⟩
abbrev ZD:Sm:=λτ S=>.rt .non S
abbrev yP (t:Te)(c d:Sm):Sm:=λτ S=>.of (t τ S) λb S1=>match b with|true=>c τ S1|false=>d τ S1
def nZ{t:Te}(ht:AT X e t)(ha:Tq X ca c)(hb:Tq X cb d):AS X (.If e ca cb pos) (yP t c d):=PS.imp (ZX ht ha hb) λD σ H h9=>by
 x_go;refine⟨ρ,S,τ,R,r,jM (of_post h) .refl λb S1 h1 ρ1 H1 e1 R1=>?_⟩
 cases b with
 | true=>rw[aN rfl];exact⟨ρ1,S1,τ,R1,r.ext e1,Bj.ext h1 e1⟩
 | false=>rw[aM bN];exact⟨ρ1,S1,τ,R1,r.ext e1,Bj.ext h1 e1⟩
abbrev ku (e:Ex)(g:Tg):Sm:=λτ S=>.of (e τ S) λa S1=>.of (g a τ S1) λd S2=>.nx d S2
def RL{f:Ex}{g:Tg}{D:Ends}{H:Hp}(h:tS X (ku f g) D σ H):Ro (tE X f) (tG X g) D σ H:=by
 kl_no;exact⟨ρ,S,τ,R,r,jM (of_post h) .refl λa S1 h1 ρ1 H1 x e1 R1 v1=>⟨ρ1,S1,τ,a,R1,r.ext e1,v1,jM (of_post h1) e1 λd S2 h2=>Kh.ext h2 e1⟩⟩
def pZ{tg:aE}{f:Ex}{g:Tg}(he:AE X e f)(hg:AG X tg g)(hs:swapsWithSole [tg] e pos.line X.env=pure false:=by rfl)(hw:swappedStores [tg] e X.env=pure none:=by rfl)
  (h1:(assignEach [tg] X.env).map (·.2)=[assign tg X.env]:=by rfl):AS X (.Assign [tg] e pos) (ku f g):=PS.imp (Wk he hg hs hw h1) λD σ H h=>RL h
def j4{i:Nat}{x:Str}{f:Ex}(hN:X.N.Nodup)(he:AE X e f)(hi:X.N[i]?=some x:=by rfl)(hx:Loc X.env.scope x:=by first|exact Or.inl rfl|exact Or.inr rfl)(hs:swapsWith e (some<|.Name x pos') pos.line X.env=pure false:=by rfl)(hf:X.fn x=true\/X.env.scope.names.lookup x=some .local:=by first|exact .inl rfl|exact .inr rfl|assumption) :
  AS X (.Assign [.Name x pos'] e pos) (ku f<|j_ i):=PS.imp (Wn hN hi hx he hs hf) λD σ H ⟨ρ,S,τ,R,r,h⟩=>
 ⟨ρ,S,τ,R,r,jM (of_post h) .refl λa S1 h1 ρ1 H1 x e1 R1 v1=>h1 ρ1 H1 _ e1 R1<|(r.ext e1).set v1⟩
abbrev aa_ (i j:Nat)(c:rR):Sm:=λτ S=>.of (c τ S) λd S1=>match d with
 | [a,b]=>.nx ((τ.set i a).set j b) S1
 | _=>.no
abbrev ip (X:Cx)(f:A->A->jK->R A):TIp:=λx y H Q=>∃ρ S a b,Rel X.K ρ H S/\AV X.K ρ H a x/\AV X.K ρ H b y/\(f a b S).post (AO X ρ H Q) (XE X ρ H)
abbrev aaX (a b:A)(S:jK):R A:=match a,b with
 | .int i,.int j=>.ok (.int<|i+j) S
 | _,_=>.no
abbrev Qu (i:Nat)(f:A->A->jK->R A)(e:Ex):Sm:=λτ S=>if (τ.getD i .unb).oR then .no else .of (e τ S) λb S1=>.of (f (τ.getD i .unb) b S1) λc S2=>.nx (τ.set i c) S2
def Wh{i:Nat}{x:Str}{c:Ex}{f:A->A->jK->R A}(hN:X.N.Nodup)(he:AE X e c)(ho:PIp X op<|ip X f)(hi:X.N[i]?=some x:=by rfl)(hx:Loc X.env.scope x:=by first|exact Or.inl rfl|exact Or.inr rfl)(hf:X.fn x=true\/X.env.scope.names.lookup x=some .local:=by first|exact .inl rfl|exact .inr rfl|assumption) :
  AS X (.AugAssign (.Name x pos') op e pos) (Qu i f c):=PS.imp (Xo hN hi hx he ho hf) λD σ H h9=>by
 x_go;have d:∀x,τ[i]?=some x->x.oR=false->(RS.of (c τ S) λb S1=>.of (f x b S1) λc S2=>.nx (τ.set i c) S2).post (Kh X ρ H D.nx) (AO X ρ H D.rt) (Kh X ρ H D.bk) (Kh X ρ H D.ct) (XE X ρ H) ->
   ∃x,σ[i]?=some (some x)/\tE X c σ H λy H1=>ip X f x y H1 λz H2=>D.nx (σ.set i<|some z) H2:=by
  intro x hi hx h
  rcases r.at i x hi with z|⟨v,e,q⟩
  ·subst z;cases hx
  ·refine⟨v,e,ρ,S,τ,R,r,jM (of_post h) .refl λb S1 h1 ρ1 H1 y e1 R1 v1=>⟨ρ1,S1,x,b,R1,q.ext e1,v1,jM (of_post h1) e1 λw S2 h2 ρ2 H2 z e2 R2 v2=>?_⟩⟩;exact h2 ρ2 H2 _ (e1.trans e2) R2<|(r.ext<|e1.trans e2).set v2
 unfold Qu Bj at h;rw[aL]at h
 cases hi:τ[i]? with
 | none=>rw[hi]at h;exact h.elim
 | some x=>
  rw[hi]at h
  cases hx:x.oR with
  | true=>rw[show(some x).getD .unb=x from rfl,hx]at h;exact h.elim
  | false=>rw[show(some x).getD .unb=x from rfl,hx]at h;exact d x hi hx h
abbrev To (a b:A)(S:jK):R A:=match a,b with
 | .ref n,.int i=>opt (jI S n) λxs=>gd (0<=i) (opt (xs[i.toNat]?) λx=>.ok x S)
 | _,_=>.no
abbrev aat (co ci ce:Ex)(f:A->A->jK->R A):Sm:=λτ S=>.of (co τ S) λo S1=>.of (ci τ S1) λi S2=>.of (To o i S2) λx S3=>.of (ce τ S3) λy d=>.of (f x y d) λz g=>.of (Eh o i z g) λ_ j=>.nx τ j
abbrev kK (t:Te)(c:Sm):Nat->Sm
 | 0=>λ_ _=>.no
 | n+1=>λτ S=>.of (t τ S) λb S1=>match b with
  | false=>.nx τ S1
  | true=>match c τ S1 with
   | .nx d f=>kK t c n d f
   | .ct d f=>kK t c n d f
   | .bk d f=>.nx d f
   | r=>r
def AD(n:Nat){t:Te}(hp:PassesOwn (model X.prog X.w) X.A X.env X.xe)(ht:AT X e t)(hb:Tq X body c):AS X (.While e body [] pos) (kK t c n):=PS.imp (Qw hp ht hb) λD σ H h9=>by
 x_go;refine⟨λm g H'=>∃ρ' f d,Ext ρ ρ' H H'/\Rel X.K ρ' H' f/\SR X.K ρ' H' d g/\Bj X ρ' H' D (kK t c m d f),⟨n,ρ,S,τ,.refl,R,r,h⟩,?_⟩;rintro m q H1 ⟨ρ1,S1,k,e1,R1,r1,h1⟩
 cases m with
 | zero=>exact h1.elim
 | succ m=>
  refine⟨ρ1,S1,k,R1,r1,jM (of_post h1) .refl λb S2 h2 ρ2 H2 e2 R2=>?_⟩
  cases b with
  | false=>rw[aM bN];exact h2 ρ2 H2 q e2 R2 (r1.ext e2)
  | true=>
   rw[aN rfl];refine⟨λg H'=>∃ρ' f d,Ext ρ ρ' H H'/\Rel X.K ρ' H' f/\SR X.K ρ' H' d g/\Bj X ρ' H' D (kK t c m d f),λg H' z=>⟨m,dD _,z⟩,ρ2,S2,k,R2,r1.ext e2,?_⟩;have h2:Bj X ρ1 H1 D (match c k S2 with
    | .nx d f=>kK t c m d f
    | .ct d f=>kK t c m d f
    | .bk d f=>.nx d f
    | r=>r):=h2
   cases hc:c k S2 with
   | nx j S3=>rw[hc]at h2;exact λρ3 H3 B e3 R3 p=>⟨ρ3,S3,j,(e1.trans e2).trans e3,R3,p,Bj.ext h2<|e2.trans e3⟩
   | ct j S3=>rw[hc]at h2;exact λρ3 H3 B e3 R3 p=>⟨ρ3,S3,j,(e1.trans e2).trans e3,R3,p,Bj.ext h2<|e2.trans e3⟩
   | bk j S3=>rw[hc]at h2;exact Kh.ext h2 e2
   | rt a S3=>rw[hc]at h2;exact AO.ext h2 e2
   | ex x S3=>rw[hc]at h2;exact XE.ext h2 e2
   | no=>rw[hc]at h2;exact h2
end
structure Src where
 k:Nat
 get:Nat->jK->Option A
 fin:jK->Bool
structure JR (K:au)(s:Src)(J:It)(ρ0:bb)(H0:Hp):Prop where
 go:∀(i:Nat) (S:jK) (H:Hp) (ρ:bb) (x:A),Ext0 ρ0 ρ H0 H->Rel K ρ H S->s.get i S=some x->J.go i H/\∀v H',J.yld i H v H'->Ext ρ ρ H H'/\Rel K ρ H' S/\AV K ρ H' x v
 stop:∀(S:jK) (H:Hp) (ρ:bb),Ext0 ρ0 ρ H0 H->Rel K ρ H S->s.fin S=true->J.stop s.k H
meta abbrev Ic:=ae->jK->R Src
abbrev tI (X:Cx)(c:Ic):TI:=λσ H Q=>∃ρ S τ,Rel X.K ρ H S/\SR X.K ρ H τ σ/\(c τ S).post (λs d=>∀ρ' H' J,Ext ρ ρ' H H'->Rel X.K ρ' H' d->JR X.K s J ρ' H'->Q J H') (XE X ρ H)
abbrev AI (X:Cx)(tg iter:aE)(c:Ic):Prop:=PI X tg iter<|tI X c
abbrev pU (xs:ae):Src:=⟨xs.length,λi _=>xs[i]?,λ_=>true⟩
abbrev lD (n k:Nat):Src:=⟨k,λi S=>(jI S n).bind (·[i]?),λS=>match jI S n with
 | some ys=>decide (ys.length<=k)
 | none=>false⟩
abbrev tR (lo hi:Int):Src:=⟨(hi-lo).toNat,λi _=>if i<(hi-lo).toNat then some (.int<|lo+i)else none,λ_=>true⟩
abbrev mP (c:Ex):Ic:=λτ S=>(c τ S).bind λa S1=>match a with
 | .tup xs=>.ok (pU xs) S1
 | .frz xs=>.ok (pU xs) S1
 | .ref n=>opt (jI S1 n) λxs=>.ok (lD n xs.length) S1
 | .str x=>gd (x.cps.all (· < 128)=true) (.ok (pU<|x.cps.toList.map λc=>.str ⟨#[c]⟩) S1)
 | _=>.no
section
variable {X:Cx}{pos:Pos}{tg e a b:aE}
def XA{K:au}{H0:Hp}{p:ak}(h:nF K H0 p vs)(r:AVs K ρ0 H0 xs vs):JR K (pU xs) (Itt K p) ρ0 H0 where
 go:=λi S H ρ x e R g=>by
  obtain⟨v,ev,d⟩:=(AVs.mq e r).get g;have hs:=e.sqT h;refine⟨⟨vs,v,hs,ev⟩,λw H' ⟨e1,y⟩=>?_⟩;subst e1;have:=y vs hs;rw[ev]at this
  cases this
  exact⟨.refl,R,d⟩
 stop:=λS H ρ e R _=>⟨vs,e.sqT h,by rw[<- r.length];exact aK _⟩
def Wt{K:au}{H0:Hp}{p:ak}(h:Fz K H0 p vs)(r:AVs K ρ0 H0 xs vs):JR K (pU xs) (Itl K p) ρ0 H0 where
 go:=λi S H ρ x e R g=>by
  obtain⟨v,ev,d⟩:=(AVs.mq e r).get g;have hs:=(e.fz h).TH;refine⟨⟨vs,v,hs,ev⟩,λw H' ⟨e1,y⟩=>?_⟩;subst e1;have:=y vs hs;rw[ev]at this
  cases this
  exact⟨.refl,R,d⟩
 stop:=λS H ρ e R _=>⟨vs,(e.fz h).TH,by rw[<- r.length];exact aK _⟩
def VQ{K:au}{ρ0:bb}{H0:Hp}{p:ak}{n k:Nat}(h:ρ0[n]?=some p):JR K (lD n k) (Itl K p) ρ0 H0 where
 go:=λi S H ρ x e R g=>by
  obtain⟨ys,hn,f⟩:=cG.mp<|show(jI S n).bind (·[i]?)=some x from g;obtain⟨d,h1,r⟩:=R.lst (e.get h)<|jW hn;obtain⟨v,ev,j⟩:=r.get f;refine⟨⟨d,v,qK.of h1,ev⟩,λw H' ⟨e1,y⟩=>?_⟩;subst e1;have:=y d<|qK.of h1;rw[ev]at this
  cases this
  exact⟨.refl,R,j⟩
 stop:=λS H ρ e R g=>by
  have g:(match jI S n with
   | some ys=>decide (ys.length<=k)
   | none=>false)=true:=g
  cases hn:jI S n with
  | none=>rw[hn]at g;cases g
  | some ys=>
   rw[hn]at g;obtain⟨d,h1,r⟩:=R.lst (e.get h)<|jW hn;exact⟨d,qK.of h1,by rw[<- r.length];exact bY g⟩
def NV{K:au}{H0:Hp}{lo hi:Int}:JR K (tR lo hi) (Itr lo (hi-lo).toNat) ρ0 H0 where
 go:=λi S H ρ x e R g=>by
  have g:(if i<(hi-lo).toNat then some (A.int<|lo+i)else none)=some x:=g;by_cases d:i<(hi-lo).toNat
  ·rw[aN d]at g
   cases g
   refine⟨d,λw H' ⟨e1,y⟩=>?_⟩;subst e1 y;exact⟨.refl,R,.int _⟩
  ·rw[aM d]at g;cases g
 stop:=λS H ρ e R _=>aK _
def WS{K:au}{H0:Hp}{x:Str}:JR K (pU<|x.cps.toList.map λc=>A.str ⟨#[c]⟩) (Its x) ρ0 H0 where
 go:=λi S H ρ y e R g=>by
  have g:(x.cps.toList.map λc=>A.str ⟨#[c]⟩)[i]?=some y:=g;rw[aX]at g;obtain⟨c,hc,rfl⟩:=aY.mp g;rw[c6]at hc;refine⟨(Array.getElem?_eq_some_iff.mp hc).1,λw H' ⟨e1,j,d,f⟩=>?_⟩;rw[hc]at d
  cases d
  subst e1 f;exact⟨.refl,R,.str _⟩
 stop:=λS H ρ e R _=>by
  show(x.cps.toList.map λc=>A.str ⟨#[c]⟩).length=x.cps.size;rw[aG,d9]
def mj{c:Ex}(he:AE X e c):AI X tg e (mP c):=λpins s σ H Q I h9=>by
 x_go;have hb:=jT h
 cases hc:c τ S with
 | no=>rw[hc]at hb;exact hb.elim
 | ex x S1=>
  rw[hc]at hb;exact PR he pins s σ H Q I ⟨ρ,S,τ,R,r,by rw[hc];exact hb⟩
 | ok a S1=>
  rw[hc]at hb
  cases a with
  | tup xs=>
   refine PR he pins s σ H Q I ⟨ρ,S,τ,R,r,?_⟩;rw[hc];intro ρ1 H1 x e1 R1 v1
   cases v1 with
   | tup h1 r1=>exact⟨_,rfl,⟨_,(nF.of h1)⟩,hb ρ1 H1 _ e1 R1<|XA (nF.of h1) r1⟩
  | frz xs=>
   refine Jd he pins s σ H Q I ⟨ρ,S,τ,R,r,?_⟩;rw[hc];intro ρ1 H1 x e1 R1 v1
   cases v1 with
   | frz h1 r1=>exact⟨_,rfl,⟨_,h1.TH⟩,hb ρ1 H1 _ e1 R1<|Wt h1 r1⟩
  | ref n=>
   obtain⟨xs,hn,hb⟩:=jN hb;refine Jd he pins s σ H Q I ⟨ρ,S,τ,R,r,?_⟩;rw[hc];intro ρ1 H1 x e1 R1 v1
   cases v1 with
   | ref d=>
    obtain⟨f,h1,r1⟩:=R1.lst d<|jW hn;exact⟨_,rfl,⟨_,qK.of h1⟩,hb ρ1 H1 _ e1 R1<|VQ d⟩
  | str x=>
   obtain⟨ha,hb⟩:=kc hb;refine Yr he pins s σ H Q I ⟨ρ,S,τ,R,r,?_⟩;rw[hc];intro ρ1 H1 v e1 R1 v1
   cases v1 with
   | str=>exact⟨x,rfl,ha,hb ρ1 H1 _ e1 R1 WS⟩
  | _=>exact hb.elim
abbrev bnd (i:Int):Prop:=-(2 ^ 62)<=i/\i<2 ^ 62
instance (i:Int):Decidable (bnd i):=by unfold bnd;infer_instance
abbrev qM (c:Ex):Ic:=λτ S=>(c τ S).bind λa S1=>match a with
 | .int j=>gd (bnd j) (.ok (tR 0 j) S1)
 | _=>.no
abbrev vL (c d:Ex):Ic:=λτ S=>(c τ S).bind λa S1=>(d τ S1).bind λb S2=>match a,b with
 | .int i,.int j=>gd (bnd i/\bnd j) (.ok (tR i j) S2)
 | _,_=>.no
def qw{p:Pos}{c:Ex}(hm:X.mg "range" = none)(ha:AE X a c)(hg:Gl X "range" := by rfl)(hs:starEach [a] X.env=[(false,eval a X.env)]:=by rfl):AI X tg (.Call (.Name "range" p) [a] [] pos) (qM c):=λpins s σ H Q I h9=>by
 x_go;refine K6 hg hm (wN ha DC hs) hs pins s σ H Q I ⟨ρ,S,τ,R,r,jM (jT h) .refl λx S1 h1 ρ1 H1 v e1 R1 v1=>?_⟩
 cases v1 with
 | int j=>
  obtain⟨hb,h1⟩:=kc h1;exact⟨_,rfl,hb.1,hb.2,by have:=h1 ρ1 H1 _ e1 R1 NV;rwa [Int.sub_zero]at this⟩
 | _=>exact h1.elim
def xU{p:Pos}{c d:Ex}(hm:X.mg "range" = none)(ha:AE X a c)(hb:AE X b d)(hg:Gl X "range" := by rfl)(hs:starEach [a,b] X.env=[(false,eval a X.env),(false,eval b X.env)]:=by rfl)(hs2:starEach [b] X.env=[(false,eval b X.env)]:=by rfl):AI X tg (.Call (.Name "range" p) [a,b] [] pos) (vL c d):=λpins s σ H Q I h9=>by
 x_go;refine Li hg hm (wN ha (wN hb DC hs2)<|by rw[hs,hs2]) hs hs2 pins s σ H Q I ⟨ρ,S,τ,R,r,jM (jT h) .refl λx S1 h1 ρ1 H1 v e1 R1 v1=>⟨ρ1,S1,τ,R1,r.ext e1,jM (jT h1) e1 λy S2 h2 ρ2 H2 w e2 R2 v2=>?_⟩⟩
 cases v1 with
 | int i=>
  cases v2 with
  | int j=>
   obtain⟨hb,h2⟩:=kc h2;exact⟨_,_,rfl,⟨hb.1.1,hb.1.2,hb.2.1,hb.2.2⟩,h2 ρ2 H2 _ (e1.trans e2) R2 NV⟩
  | _=>exact h2.elim
 | _=>exact h2.elim
abbrev zu (xs:ae):Src:=⟨xs.length,λi _=>(xs[i]?).map λx=>.tup [.int i,x],λ_=>true⟩
abbrev AZ (c:Ex):Ic:=λτ S=>(c τ S).bind λa S1=>match a with
 | .tup xs=>.ok (zu xs) S1
 | _=>.no
def W4{K:au}{H0:Hp}{p:ak}(h:nF K H0 p vs)(r:AVs K ρ0 H0 xs vs):JR K (zu xs) (Ite K p) ρ0 H0 where
 go:=λi S H ρ x e R g=>by
  obtain⟨y,hy,rfl⟩:=aY.mp<|show(xs[i]?).map (λx=>A.tup [.int i,x])=some x from g;obtain⟨v,ev,t⟩:=(AVs.mq e r).get hy;have hs:=e.sqT h;refine⟨⟨vs,v,hs,ev⟩,λw H' q=>?_⟩;obtain⟨z,j,rfl,k⟩:=q;have d:=k vs v hs ev;subst d;obtain⟨ex,f⟩:=R.im (u:=.tup [.int i,v]) j;exact⟨ex,f,.tup kD<|.cons (.int _)<|.cons (t.ext ex) .nil⟩
 stop:=λS H ρ e R _=>⟨vs,e.sqT h,by rw[<- r.length];rfl⟩
def Mp{p:Pos}{c:Ex}(hm:X.mg "enumerate" = none)(ha:AE X a c)(hg:Gl X "enumerate" := by rfl)(hs:starEach [a] X.env=[(false,eval a X.env)]:=by rfl):AI X (.Tuple elts x1 tpos) (.Call (.Name "enumerate" p) [a] [] pos) (AZ c):=λpins s σ H Q I h9=>by
 x_go;refine Qv hg hm (wN ha DC hs) hs pins s σ H Q I ⟨ρ,S,τ,R,r,jM (jT h) .refl λx S1 h1 ρ1 H1 v e1 R1 v1=>?_⟩
 cases v1 with
 | tup h2 r2=>exact⟨_,_,rfl,(nF.of h2),h1 ρ1 H1 _ e1 R1<|W4 (nF.of h2) r2⟩
 | _=>exact h1.elim
abbrev rK (s:Src)(g:Tg)(c:Sm):Nat->Nat->Sm
 | 0,_=>λτ S=>if s.fin S then .nx τ S else .no
 | k+1,i=>λτ S=>match s.get i S with
  | none=>.no
  | some x=>.of (g x τ S) λj S1=>match c j S1 with
   | .nx d f=>rK s g c k (i+1) d f
   | .ct d f=>rK s g c k (i+1) d f
   | .bk d f=>.nx d f
   | r=>r
abbrev lV (src:Ic)(g:Tg)(c:Sm):Sm:=λτ S=>.of (src τ S) λs S1=>rK s g c s.k 0 τ S1
def mE{iter:aE}{src:Ic}{g:Tg}{c:Sm}(hp:PassesOwn (model X.prog X.w) X.A X.env X.xe)(hc:X.calm=true)(hi:AI X tg iter src)(hg:AG X tg g)(hb:Tq X body c)
  (hs:∀x,foldedSetIterable iter X.env x=pure x:=by intro _;rfl):AS X (.For tg iter body [] pos) (lV src g c):=PS.imp (XD hp hc hi hg hb hs) λD σ H h9=>by
 x_go;refine⟨ρ,S,τ,R,r,jM (of_post h) .refl λs S1 h1 ρ1 H1 J e1 R1 Z=>?_⟩;refine⟨λi m t H'=>m+i=s.k/\∃ρ' q d,Ext ρ1 ρ' H1 H'/\Rel X.K ρ' H' q/\SR X.K ρ' H' d t/\Bj X ρ' H' D (rK s g c m i d q),⟨s.k,rfl,ρ1,S1,τ,.refl,R1,r.ext e1,Bj.ext h1 e1⟩,?_⟩;rintro i m Y H2 ⟨hm,ρ2,S2,C,e2,R2,r2,h2⟩
 cases m with
 | zero=>
  left;have h2:Bj X ρ2 H2 D (if s.fin S2 then .nx C S2 else .no):=h2
  cases hf:s.fin S2 with
  | false=>rw[hf]at h2;exact h2.elim
  | true=>
   rw[hf]at h2;refine⟨by rw[show i=s.k by lia];exact Z.stop S2 H2 ρ2 e2.toExt0 R2 hf,h2 ρ2 H2 Y .refl R2 r2⟩
 | succ m=>
  right;have h2:Bj X ρ2 H2 D (match s.get i S2 with
   | none=>.no
   | some x=>.of (g x C S2) λO S1=>match c O S1 with
    | .nx d q=>rK s g c m (i+1) d q
    | .ct d q=>rK s g c m (i+1) d q
    | .bk d q=>.nx d q
    | r=>r):=h2
  cases V:s.get i S2 with
  | none=>rw[V]at h2;exact h2.elim
  | some x=>
   rw[V]at h2;obtain⟨P,hy⟩:=Z.go i S2 H2 ρ2 x e2.toExt0 R2 V;refine⟨P,λt H'=>m+(i+1)=s.k/\∃ρ' q d,Ext ρ1 ρ' H1 H'/\Rel X.K ρ' H' q/\SR X.K ρ' H' d t/\Bj X ρ' H' D (rK s g c m (i+1) d q),λt H' z=>⟨m,dD _,z⟩,λv H3 y=>?_⟩;obtain⟨e3,R3,v3⟩:=hy v H3 y;refine⟨ρ2,S2,C,x,R3,r2.ext e3,v3,jM (of_post h2) e3 λM S4 p T H4 σ4 e4 R4 r4=>⟨T,S4,M,R4,r4,?_⟩⟩;have f:=e3.trans e4
   cases j:c M S4 with
   | nx B G=>rw[j]at p;exact λF H5 W L U N=>⟨(),F,G,B,(e2.trans f).trans L,U,N,Bj.ext p<|f.trans L⟩
   | ct B G=>rw[j]at p;exact λF H5 W L U N=>⟨(),F,G,B,(e2.trans f).trans L,U,N,Bj.ext p<|f.trans L⟩
   | bk B G=>rw[j]at p;exact Kh.ext p f
   | rt x5 G=>rw[j]at p;exact AO.ext p f
   | ex x5 G=>rw[j]at p;exact XE.ext p f
   | no=>rw[j]at p;exact p
end
abbrev R.oN {α β:Type}(r:R α)(f:α->jK->R β):R β:=match r with
 | .ok a S=>f a S
 | _=>.no
def n9{α β:Type}{r:R α}{f:α->jK->R β}{b:β}(h:r.oN f=.ok b S2):∃a S,r=.ok a S/\f a S=.ok b S2:=by
 cases r with
 | ok a S=>exact⟨a,S,rfl,h⟩
 | ex _ _=>cases h
 | no=>cases h
def zU{α β:Type}{r:R α}{f:α->jK->R β}{P:β->jK->Prop}{E:Str->jK->Prop}(h:(r.oN f).post P E):∃a S,r=.ok a S/\(f a S).post P E:=by
 cases r with
 | ok a S=>exact⟨a,S,rfl,h⟩
 | ex _ _=>exact h.elim
 | no=>exact h.elim
def DG{α β:Type}{o:Option β}{f:β->R α}{a:α}(h:opt o f=.ok a S):∃b,o=some b/\f b=.ok a S:=by
 cases o with
 | none=>cases h
 | some b=>exact⟨b,rfl,h⟩
abbrev qQ (s:Src)(g:Tg)(t:Te)(e:Ex):Nat->Nat->ae->jK->R (ae)
 | 0,_=>λ_ S=>if s.fin S then .ok [] S else .no
 | k+1,i=>λτ S=>opt (s.get i S) λx=>(g x τ S).oN λd S1=>(t d S1).oN λb S2=>match b with
  | true=>(e d S2).oN λy S3=>(qQ s g t e k (i+1) d S3).oN λys f=>.ok (y::ys) f
  | false=>qQ s g t e k (i+1) d S2
abbrev lX (cap:List<|bj)(τ:ae):ae:=cap.map λo=>match o with
 | some j=>τ.getD j .unb
 | none=>.unb
abbrev kH (cap:List<|bj)(src:Ic)(g:Tg)(t:Te)(e:Ex):Ex:=λτ S=>(src τ S).bind λs S1=>(qQ s g t e s.k 0 (lX cap τ) S1).oN λys S2=>newL ys S2
abbrev t9:Te:=λ_ S=>.ok true S
def EO{s:Src}{g:Tg}{t:Te}{e:Ex}{k:Nat}{T:Prop}(h:qQ s g t e (k+1) i τ S=.ok zs S')
  (q:∀x τ1 S1 b S2,s.get i S=some x->g x τ S=.ok τ1 S1->t τ1 S1=.ok b S2->(b=true->∃y S3 ws,e τ1 S2=.ok y S3/\qQ s g t e k (i+1) τ1 S3=.ok ws S'/\zs=y::ws)->(b=false->qQ s g t e k (i+1) τ1 S2=.ok zs S')->T):T:=by
 obtain⟨x,f,h⟩:=DG h;obtain⟨τ1,S1,h1,h⟩:=n9 h;obtain⟨b,S2,h2,h⟩:=n9 h;refine q x τ1 S1 b S2 f h1 h2 (λhb=>?_) λhb=>?_
 ·subst hb;obtain⟨y,S3,h3,h⟩:=n9 h;obtain⟨ws,j,d,h⟩:=n9 h
  cases h
  exact⟨y,S3,ws,h3,d,rfl⟩
 ·subst hb;exact h
structure Out (ρ1:bb)(H1:Hp)(D:ak)(accV:List V)(ρ:bb)(H:Hp):Prop where
 e0:Ext0 ρ1 ρ H1 H
 fr:∀a u,a≠D->H1 a=some u->a∉ρ1->H a=some u
 nw:∀a∈ρ,a∈ρ1\/H1 a=none
 nD:D∉ρ
 hD:H D=some (.lst accV)
def Out.stay{H1 H3 H7:Hp}{D:ak}(o:Out ρ1 H1 D accV ρ3 H3)(hD1:H1 D=none)(e7:Ext ρ3 ρ7 H3 H7):Out ρ1 H1 D accV ρ7 H7:=by
 refine⟨⟨o.e0.pre.trans e7.pre,λa u i h=>e7.im a u i<|o.e0.im a u i h⟩,λa u na f g=>e7.fr a u (o.fr a u na f g) λz=>(o.nw a z).elim g λz=>by(rw[z]at f;cases f),λa ha=>?_,λz=>(e7.nw D z).elim o.nD λz=>by(rw[o.hD]at z;cases z),e7.fr D _ o.hD o.nD⟩;by_cases d:a∈ρ1
 ·exact .inl d
 ·right
  cases q:H1 a with
  | none=>rfl
  | some u=>
   have j:a≠D:=j3 q hD1
   rcases e7.nw a ha with z|z
   ·exact((o.nw a z).elim d λz=>by(rw[z]at q;cases q)).elim
   ·rw[o.fr a u j q d]at z;cases z
def Out.put{H1 H:Hp}{D:ak}(o:Out ρ1 H1 D accV ρ H)(ex:Ext0 ρ ρ H<|upd H D<|.lst vs):Out ρ1 H1 D vs ρ (upd H D<|.lst vs):=
 ⟨⟨o.e0.pre,λa u i h=>ex.im a u i<|o.e0.im a u i h⟩,λa u na f d=>by rw[jP na];exact o.fr a u na f d,o.nw,o.nD,kD⟩
def Out.end{H1 H:Hp}{D:ak}(o:Out ρ1 H1 D accV ρ H)(hD:H1 D=none):Ext ρ1 (ρ++[D]) H1 H:=by
 refine⟨⟨o.e0.pre.trans<|dQ _ _,o.e0.im⟩,λa u d na=>o.fr a u (j3 d hD) d na,λa ha=>?_⟩
 rcases bq.mp ha with z|z
 ·exact o.nw a z
 ·have:a=D:=by simpa using z
  rw[this];exact .inr hD
abbrev Cq (K:au)(ρ1:bb)(H1:Hp)(D:ak)(ys:ae)(k:Nat)(E:bb->Hp->Prop)(P:Nat->Nat->ae->jK->ae->Prop)(i m:Nat)(σ:L2.St)(H:Hp):Prop:=
 m+i=k/\∃ρ S τ acc zs accV,Out ρ1 H1 D accV ρ H/\E ρ H/\Rel K ρ H S/\SR K ρ H τ σ/\AVs K ρ H acc accV/\P m i τ S zs/\acc++zs=ys
section
variable {K:au}{ρ1 ρ:bb}{H1 H:Hp}{D:ak}{ys acc zs:ae}{accV:List V}{k i m:Nat}{E:bb->Hp->Prop}{P:Nat->Nat->ae->jK->ae->Prop}{σ:L2.St}{S:jK}{τ:ae}
def Cq.el{T:Prop}(h:Cq K ρ1 H1 D ys k E P i m σ H)(q:∀ρ S τ acc zs accV,m+i=k->Out ρ1 H1 D accV ρ H->E ρ H->Rel K ρ H S->SR K ρ H τ σ->AVs K ρ H acc accV->P m i τ S zs->acc++zs=ys->T):T:=by
 obtain⟨f,ρ,S,τ,acc,zs,accV,h1,h2,h3,p,g,d,j⟩:=h;exact q ρ S τ acc zs accV f h1 h2 h3 p g d j
def Cq.of(hm:m+i=k)(o:Out ρ1 H1 D accV ρ H)(e:E ρ H)(R:Rel K ρ H S)(r:SR K ρ H τ σ)(v:AVs K ρ H acc accV)(p:P m i τ S zs)(q:acc++zs=ys):Cq K ρ1 H1 D ys k E P i m σ H:=⟨hm,ρ,S,τ,acc,zs,accV,o,e,R,r,v,p,q⟩
end
abbrev Vi (K:au)(c:Ex):TE:=λσ H Q=>∃ρ S τ a d,Rel K ρ H S/\SR K ρ H τ σ/\c τ S=.ok a d/\∀ρ' H' v,Ext ρ ρ' H H'->Rel K ρ' H' d->AV K ρ' H' a v->Q v H'
abbrev X_ (K:au)(c:Te):TT:=λσ H Q=>∃ρ S τ a d,Rel K ρ H S/\SR K ρ H τ σ/\c τ S=.ok a d/\∀ρ' H',Ext ρ ρ' H H'->Rel K ρ' H' d->Q a H'
abbrev YN (K:au)(g:Tg):TG:=λv σ H Q=>∃ρ S τ a d j,Rel K ρ H S/\SR K ρ H τ σ/\AV K ρ H a v/\g a τ S=.ok d j/\∀ρ' H' f,Ext ρ ρ' H H'->Rel K ρ' H' j->SR K ρ' H' d f->Q f H'
section
variable {X:Cx}{pos:Pos}{tg iter elt e:aE}{ifs:List aE}{scope:Scope}{N:ar}{cap:List (bj)}{src:Ic}{g:Tg}{t:Te}{c:Ex}
def AE.e0{K:au}(hK:X.K=K)(h:AE X e c):PE X e (Vi K c):=PE.imp h λσ H Q ⟨ρ,S,τ,a,g,R,r,hc,q⟩=>⟨ρ,S,τ,by rw[hK];exact R,by rw[hK];exact r,by rw[hc];exact λρ' H' v e d f=>q ρ' H' v e (by rw[<- hK];exact d)<|by rw[<- hK];exact f⟩
def AT.t0{K:au}(hK:X.K=K)(h:AT X e t):PT X e (X_ K t):=PT.imp h λσ H Q ⟨ρ,S,τ,a,f,R,r,hc,q⟩=>⟨ρ,S,τ,by rw[hK];exact R,by rw[hK];exact r,by rw[hc];exact λρ' H' e d=>q ρ' H' e<|by rw[<- hK];exact d⟩
def AG.g0{K:au}(hK:X.K=K)(h:AG X e g):PG X e (YN K g):=by
 subst hK;refine PG.imp h λv σ H Q h9=>?_;obtain⟨ρ,S,τ,a,d,f,R,r,va,hc,q⟩:=h9;exact⟨ρ,S,τ,a,R,r,va,by rw[hc];exact q⟩
abbrev ATs (X:Cx)(ifs:List aE)(t:Te):Prop:=QY X ifs<|X_ X.K t
def wY:ATs X [] t9:=λpins s σ H Q I ⟨ρ,S,τ,a,d,R,r,hc,q⟩=>Ss pins s σ H Q I<|by cases hc;exact q ρ H .refl R
def qp(h:AT X e t):ATs X [e] t:=Tp<|h.t0 rfl
def Uw{K:au}{H:Hp}(r:SR K ρ H τ σ)(cap:List<|bj):SR K ρ H (lX cap τ) (cap.map<|Rr σ):=by
 refine⟨by simp[lX],λi a h=>?_⟩;unfold lX at h;rw[aX]at h;obtain⟨o,f,e⟩:=aY.mp h
 cases o with
 | none=>exact .inl e.symm
 | some j=>
  have e:τ.getD j .unb=a:=e
  cases d:τ[j]? with
  | none=>rw[aL,d]at e;exact .inl e.symm
  | some b=>
   rw[aL,d]at e;have e:b=a:=e;subst e
   rcases r.at j b d with z|⟨v,h1,h2⟩
   ·exact .inl z
   ·exact .inr ⟨v,by rw[aX,f];show some ((σ[j]?).getD none)=_;rw[h1];rfl,h2⟩
def Rel.FE{K:au}{H:Hp}{p:ak}(R:Rel K ρ H S)(hp:H p=none):p∉ρ:=λg=>by
 obtain⟨n,hn,e⟩:=cD.mp g;have j:n<S.length:=by rw[<- R.len];exact hn
 have:=R.at n p S[n] (by rw[aI hn,e]) (aI j)
 cases d:S[n]with
 | lst xs=>rw[d]at this;obtain⟨f,h,_⟩:=this;rw[hp]at h;cases h
 | dct _|qc _|vh _=>rw[d]at this;obtain⟨f,h,_⟩:=this;rw[hp]at h;cases h
 | dcf _=>rw[d]at this;obtain⟨_,f,h,_⟩:=this;rw[hp]at h;cases h
 | ins _ _=>rw[d]at this;obtain⟨_,_,h⟩:=this;rw[hp]at h;cases h
def Et(σ:L2.St)(H:Hp)(Q:VK)(h:tE X (kH cap src g t c) σ H Q):tLC cap (tI X src) (YN X.K g) (X_ X.K t) (Vi X.K c) σ H Q:=by
 kl_no;refine⟨ρ,S,τ,R,r,jM (jT h) .refl λs S1 h1 ρ1 H1 J e1 R1 jr D hD=>?_⟩;obtain⟨ys,S2,V,h1⟩:=zU h1;obtain⟨C,h1⟩:=kc h1;have h1:AO X ρ H Q (.ref S2.length) (S2++[.lst ys]):=h1;obtain⟨eD,RD⟩:=R1.im (u:=.lst []) hD;refine⟨Cq X.K ρ1 H1 D ys s.k (λ_ _=>True) λm i τ S zs=>qQ s g t c m i τ S=.ok zs S2,⟨s.k,.of rfl ⟨eD.toExt0,λa u na hu _=>by rw[jP na];exact hu,λa ha=>.inl ha,R1.FE hD,kD⟩ trivial RD (Uw ((r.ext e1).ext eD) cap) .nil V rfl⟩,?_⟩;intro i m σ3 H3 hw;refine hw.el λρ3 S3 N acc zs accV hm z _ R3 r3 p d f=>?_;clear hw
 cases m with
 | zero=>
  left;have d:(if s.fin S3 then Am.R.ok [] S3 else .no)=.ok zs S2:=d
  cases hf:s.fin S3 with
  | false=>rw[hf]at d;cases d
  | true=>
   rw[hf]at d
   cases d
   rw[b8]at f;subst f;refine⟨by rw[show i=s.k by lia];exact jr.stop _ H3 ρ3 z.e0 R3 hf,?_⟩;obtain⟨RT,gt⟩:=R3.take z.hD z.nD p;exact h1 (ρ3++[D]) H3 _ (e1.trans<|z.end hD) RT<|.ref gt
 | succ m=>
  right;refine EO d λx q S4 b S5 hx P O hT hF=>?_;have jg:=jr.go i S3 H3 ρ3 x z.e0 R3 hx;refine⟨jg.1,λv H4 y=>?_⟩;obtain⟨e4,R4,v4⟩:=jg.2 v H4 y;refine⟨ρ3,S3,N,x,q,S4,R4,r3.ext e4,v4,P,λZ H5 σ5 e5 R5 G=>⟨Z,S4,q,b,S5,R5,G,O,λY H6 M R6=>?_⟩⟩;have j:=(e4.trans e5).trans M
  cases b with
  | false=>
   dsimp only;rw[aM bN];exact⟨m,dD _,.of () (z.stay hD j) trivial R6 (G.ext M) (p.ext j) (hF rfl) f⟩
  | true=>
   dsimp only;rw[aN rfl];obtain⟨y,S6,ws,U,W,F⟩:=hT rfl;refine⟨Y,S5,q,y,S6,R6,G.ext M,U,λρ7 H7 w T R7 v7=>?_⟩;have L:=z.stay hD<|j.trans T;obtain⟨B,R8⟩:=R7.out (ws:=accV++[w]) L.hD L.nD;have l1:=p.length;refine⟨accV,L.hD,?_,m,dD _,.of () (L.put B) trivial R8 ((G.ext<|M.trans T).mq B) (AVs.mq B<|(p.ext<|j.trans T).append<|.one v7) W ?_⟩
   ·have:(acc++zs).length<=sizeLine:=by rw[f];exact C
    rw[F,aW,bG]at this
    lia
   ·rw[bX,<- f,F];rfl
def oK(hc:X.calm=true)(Sc:CpScope X scope N cap)(hi:AI X tg iter src)(hg:∀C s₀ H₀ ex,AG (kX X scope N C s₀ H₀ ex) tg g)(ht:∀C s₀ H₀ ex,ATs (kX X scope N C s₀ H₀ ex) ifs t)(he:∀C s₀ H₀ ex,AE (kX X scope N C s₀ H₀ ex) elt c)
  (hs:∀x,foldedSetIterable iter X.env x=pure x:=by intro _;rfl):AE X (.ListComp elt [⟨tg,iter,ifs,0⟩] scope pos) (kH cap src g t c):=
 PE.imp (YU hc Sc hi (g:=YN X.K g) (tc:=X_ X.K t) (te:=Vi X.K c) (λC s₀ H₀ ex=>(hg C s₀ H₀ ex).g0 rfl) (λC s₀ H₀ ex=>ht C s₀ H₀ ex) (λC s₀ H₀ ex=>(he C s₀ H₀ ex).e0 rfl) hs) Et
def Th{i:Nat}{x:Str}{spos:Pos}(hN:X.N.Nodup)(hc:X.calm=true)(Sc:CpScope X scope N cap)(hi:AI X tg iter src)(hg:∀C s₀ H₀ ex,AG (kX X scope N C s₀ H₀ ex) tg g)(ht:∀C s₀ H₀ ex,ATs (kX X scope N C s₀ H₀ ex) ifs t)(he:∀C s₀ H₀ ex,AE (kX X scope N C s₀ H₀ ex) elt c)
  (hi':X.N[i]?=some x:=by rfl) (hx:Loc X.env.scope x:=by first|exact Or.inl rfl|exact Or.inr rfl)
  (hsw:swapsWith (.ListComp elt [⟨tg,iter,ifs,0⟩] scope pos) (some<|.Name x pos') spos.line X.env=pure true:=by rfl) (hf:X.fn x=true\/X.env.scope.names.lookup x=some .local:=by first|exact .inl rfl|exact .inr rfl|assumption)
  (hs:∀x,foldedSetIterable iter X.env x=pure x:=by intro _;rfl):AS X (.Assign [.Name x pos'] (.ListComp elt [⟨tg,iter,ifs,0⟩] scope pos) spos) (ku (kH cap src g t c)<|j_ i):=
 PS.imp (Qm hN hi' hx hc Sc hi (g:=YN X.K g) (tc:=X_ X.K t) (te:=Vi X.K c) (λC s₀ H₀ ex=>(hg C s₀ H₀ ex).g0 rfl) (λC s₀ H₀ ex=>ht C s₀ H₀ ex) (λC s₀ H₀ ex=>(he C s₀ H₀ ex).e0 rfl) hsw hf hs) λD σ H ⟨ρ,S,τ,R,r,h⟩=>
  Et σ H _ ⟨ρ,S,τ,R,r,jM (of_post h) .refl λa S1 h1 ρ1 H1 x e1 R1 v1=>h1 ρ1 H1 _ e1 R1<|(r.ext e1).set v1⟩
end
abbrev A.lst? (S:jK):A->Option (ae)
 | .ref n=>jI S n
 | _=>none
abbrev Fx (f:A->ae->jK->R A)(co:Ex)(d:rR):Ex:=λτ S=>(co τ S).bind λo S1=>opt (o.lst? S1) λ_=>(d τ S1).bind λg S2=>f o g S2
abbrev XZ (f:A->ae->jK->R A)(co:Ex):Ex:=λτ S=>(co τ S).bind λo S1=>opt (o.lst? S1) λ_=>f o [] S1
abbrev rM (X:Cx)(f:A->ae->jK->R A):V->List V->Hp->VK->Prop:=λx g H Q=>∃ρ S o d,Rel X.K ρ H S/\AV X.K ρ H o x/\AVs X.K ρ H d g/\(f o d S).post (AO X ρ H Q) (XE X ρ H)
section
variable {X:Cx}{apos cpos:Pos}{o e:aE}{es:List aE}{name:Str}{id:String}{f:A->ae->jK->R A}{co:Ex}{d:rR}
def lst?_ty{K:au}{H:Hp}{x:A}{v:V}(R:Rel K ρ H S)(h:AV K ρ H x v)(e:x.lst? S=some xs):YK K "list" v H:=by
 cases h with
 | ref h=>
  obtain⟨d,h1,_⟩:=R.lst h<|jW e;exact .inl ⟨rfl,d,qK.of h1⟩
 | _=>cases e
def uP(slot:Slot "list" name id)(hty:typeOf (.builtin id)=pure (.type "method_descriptor"))(hm:LW X id<|rM X f)(ho:AE X o co)(ha:AL X (e::es) d)
  (hbase:attributeBase o name X.env (eval o X.env)=eval o X.env:=by rfl)
  (hfew:((backTo cpos<|starEach (e::es) X.env).all (λx=>!x.1) && (backToKw cpos<|keywordEach [] X.env).all (λx=>x.1.isSome)
   && decide ((e::es).length+([]:List Keyword).length+(if ([]:List Keyword).isEmpty then 0 else 1)<30))=true:=by rfl)
  (hline:(apos.endLine == cpos.line)=true:=by rfl) (hs:starEach (e::es) X.env=(false,eval e X.env)::starEach es X.env:=by rfl) (hplain:(backTo cpos<|starEach es X.env).any (·.1)=false:=by rfl) :
  AE X (.Call (.Attribute o name apos) (e::es) [] cpos) (Fx f co d):=PE.imp (Mn PySem.F.plainAttrs_list slot hty hm ho ha hbase hfew hline hs hplain) λσ H Q h9=>by
 x_go;mg_lt;obtain⟨xs,j,h1⟩:=jN h1;refine⟨lst?_ty R1 v1 j,ρ1,S1,τ,R1,r.ext e1,jM (jT h1) e1 λg S2 h2 ρ2 H2 k e2 R2 v2=>?_⟩;exact⟨ρ2,S2,x,g,R2,v1.ext e2,v2,jM h2 (e1.trans e2) λ_ _ z=>z.ext<|e1.trans e2⟩
def WW(slot:Slot "list" name id)(hty:typeOf (.builtin id)=pure (.type "method_descriptor"))(hm:LW X id<|rM X f)(ho:AE X o co)
  (hbase:attributeBase o name X.env (eval o X.env)=eval o X.env:=by rfl) (hline:(apos.endLine == cpos.line)=true:=by rfl):AE X (.Call (.Attribute o name apos) [] [] cpos) (XZ f co):=PE.imp (Wu PySem.F.plainAttrs_list slot hty hm ho hbase hline) λσ H Q h9=>by
 x_go;mg_lt;obtain⟨xs,d,h1⟩:=jN h1;exact⟨lst?_ty R1 v1 d,ρ1,S1,x,[],R1,v1,.nil,jM h1 e1 λ_ _ z=>z.ext e1⟩
abbrev mV (o:A)(as:ae)(S:jK):R A:=match o,as with
 | .ref n,[x]=>opt (jI S n) λxs=>gd (xs.length<sizeLine) (.ok .non<|S.set n<|.lst<|xs++[x])
 | _,_=>.no
def pG:LW X "list.append" (rM X mV):=λpins s σ H x z v us Q I rx j h9=>by
 obtain⟨ρ,S,o,t,R,f,va,h⟩:=h9
 cases f with
 | @ref p n d=>
  match t,va,h with
  | [],_,h=>exact h.elim
  | _::_::_,_,h=>exact h.elim
  | [y],va,h=>
   obtain⟨w,rfl,hw⟩:=P4 va;kj_on;obtain⟨g,h⟩:=kc h;obtain⟨q,h1,r⟩:=R.lst d<|jW hn;obtain⟨ex,k⟩:=R.put d (jW hn)<|r.append<|.one hw;exact BO pins s σ H _ _ v us Q I rx j ⟨p,q,w,rfl,rfl,h1,by rw[<- r.length];exact g,h _ _ _ ex k .non⟩
 | _=>exact h.elim
abbrev Yg (o:A)(as:ae)(S:jK):R A:=match o,as with
 | .ref n,[]=>opt (jI S n) λxs=>opt (xs[xs.length-1]?) λx=>.ok x (S.set n<|.lst xs.dropLast)
 | _,_=>.no
def AVs.dropLast{K:au}{H:Hp}{xs:ae}{vs:List V}(r:AVs K ρ H xs vs):AVs K ρ H xs.dropLast vs.dropLast:=by
 rw[List.dropLast_eq_take,List.dropLast_eq_take,r.length];exact r.take _
def Y5:LW X "list.pop" (rM X Yg):=λpins s σ H x z v us Q I rx g h9=>by
 obtain⟨ρ,S,o,t,R,f,va,h⟩:=h9
 cases f with
 | @ref p n d=>
  match t,va,h with
  | _::_,_,h=>exact h.elim
  | [],va,h=>
   cases va
   kj_on;obtain⟨y,hy,h⟩:=jN h;obtain⟨k,h1,r⟩:=R.lst d<|jW hn;obtain⟨w,hw,q⟩:=r.get hy;obtain⟨ex,j⟩:=R.put d (jW hn) r.dropLast;exact WK pins s σ H _ _ v us Q I rx g ⟨p,k,w,rfl,rfl,h1,by rw[<- r.length];exact hw,h _ _ _ ex j<|q.ext ex⟩
 | _=>exact h.elim
abbrev zX (o:A)(as:ae)(S:jK):R A:=match o,as with
 | .ref n,[.int i]=>opt (jI S n) λxs=>gd (-(2 ^ 63)<=i/\i<2 ^ 63) (opt (seqIndex? i xs.length) λk=>opt (xs[k]?) λx=>.ok x<|S.set n<|.lst<|xs.eraseIdx k)
 | _,_=>.no
def Jx:LW X "list.pop" (rM X zX):=λpins s σ H x F v us Q I rx j h9=>by
 obtain⟨ρ,S,o,B,R,g,va,h⟩:=h9
 cases g with
 | @ref p n d=>
  match B,va,h with
  | [],_,h=>exact h.elim
  | y::_::_,_,h=>exact(by cases y<;>exact h.elim)
  | [y],va,h=>
   obtain⟨w,rfl,hw⟩:=P4 va
   cases hw with
   | int i=>
    kj_on;obtain⟨f,h⟩:=kc h;obtain⟨k,C,h⟩:=jN h;obtain⟨y,hy,h⟩:=jN h;obtain⟨t,h1,r⟩:=R.lst d<|jW hn;obtain⟨w,hw,z⟩:=r.get hy;obtain⟨ex,q⟩:=R.put d (jW hn)<|r.eraseIdx k;exact QF pins s σ H _ _ v us Q I rx j ⟨p,t,i,k,w,rfl,rfl,h1,f.1,f.2,by rw[<- r.length];exact C,hw,h _ _ _ ex q<|z.ext ex⟩
   | _=>exact h.elim
 | _=>exact h.elim
end
abbrev lN (N:ar)(m:Sm)(as:ae)(S:jK):R A:=match m (as++List.replicate (N.length-as.length) .unb) S with
 | .rt a d=>.ok a d
 | .nx _ d=>.ok .non d
 | .ex c d=>.ex c d
 | _=>.no
abbrev qZ (K:au)(n:Nat)(F:ae->jK->R A):Sp:=λd H Q _=>d.length=n/\∃ρ S f a g,Rel K ρ H S/\AVs K ρ H f d/\F f S=.ok a g/\∀ρ' H' v,Ext ρ ρ' H H'->Rel K ρ' H' g->AV K ρ' H' a v->Q v H'
def Tv{K:au}{H:Hp}{as:ae}(r:AVs K ρ H as vs)(N:ar):SR K ρ H (as++List.replicate (N.length-as.length) .unb) (L2.start N vs):=by
 have f:=r.length;refine⟨by unfold L2.start;simp[f],λi a h=>?_⟩;by_cases g:i<as.length
 ·rw[bw g]at h;obtain⟨v,hv,d⟩:=r.get h;exact .inr ⟨v,by unfold L2.start;rw[bw<|by simp;lia,aX,hv];rfl,d⟩
 ·rw[iW (),List.getElem?_replicate]at h;split at h
  ·exact .inl (bf h).symm
  ·cases h
section
variable {P:aj}{w:ah}{K:au}{mg:Str->bd}{base:aq}
def ud{x:Str}{st:aF}{f:ak}{N ps:ar}{k:Nat}{m:Sm}(F:Fun K x qual st f fd)(Sc:FnScope N ps<|jV st)
  (body:∀(cdv:af) (A:aA) (outer:List Env) (s:aC) (H:Hp) (E:XK),Room k (A.deeper<|envOfC qual (jV st) s.heap.objs.size f cdv)->Tq (GK qb P w K mg base N qual (jV st) f cdv A outer s H E).nox (rF st) m) :
  FnOk P w K mg base qb (k+1) f fd ps (qZ K ps.length<|lN N m):=by
 refine F.ok Sc (λt H Q E h=>h.1) λcdv B outer s H t Q E z ⟨G,ρ,S,j,a,J,R,va,d,q⟩=>⟨_,body cdv B outer s H E z,ρ,S,_,R,Tv va N,?_⟩;unfold lN at d
 cases g:m (j++List.replicate (N.length-j.length) .unb) S with
 | rt b S2=>rw[g]at d;cases d;exact q
 | nx τ S2=>rw[g]at d;cases d;exact λρ' H' p e C _=>q ρ' H' _ e C .non
 | bk τ S2=>rw[g]at d;cases d
 | ct τ S2=>rw[g]at d;cases d
 | ex c S2=>rw[g]at d;cases d
 | no=>rw[g]at d;cases d
end
meta abbrev nW (P:aj)(w:ah)(K:au)(mg:Str->bd)(base:aq)(k:Nat)(x:Str)(ps:ar)(F:ae->jK->R A):Prop:=Kn P w K mg base k x ps<|qZ K ps.length F
abbrev eFn (F:ae->jK->R A)(d:rR):Ex:=λτ S=>(d τ S).bind λf S1=>match F f S1 with
 | .ok a S2=>.ok a S2
 | _=>.no
section
variable {X:Cx}{pos p:Pos}{e:aE}{es:List aE}{x:Str}{ps:ar}{k:Nat}{F:ae->jK->R A}{d:rR}
def qJ(G:nW X.prog X.w X.K X.mg X.base k x ps F)(hr:Room k X.A)(ha:AL X (e::es) d)(hl:∀τ S as S',d τ S=.ok as S'->as.length=ps.length)(hg:Gl X x:=by rfl)(hdb:(x == ("__debug__" : Str))=false:=by decide)
  (hs:starEach (e::es) X.env=(false,eval e X.env)::starEach es X.env:=by rfl) (hplain:(backTo pos<|starEach es X.env).any (·.1)=false:=by rfl):AE X (.Call (.Name x p) (e::es) [] pos) (eFn F d):=
 PE.imp (Y4 G hr ha hg hdb hs hplain) λσ H Q h9=>by
  x_go;refine⟨ρ,S,τ,R,r,?_⟩;have hb:=jT h
  cases f:d τ S with
  | no=>rw[f]at hb;exact hb
  | ex c S1=>rw[f]at hb;exact hb
  | ok as S1=>
   rw[f]at hb;intro ρ1 H1 j e1 R1 v1;rw[b8];refine⟨by rw[<- v1.length];exact hl τ S as S1 f,ρ1,S1,as,?_⟩;have hb:Am.R.post (match F as S1 with
    | .ok a S2=>.ok a S2
    | _=>.no) (AO X ρ H Q) (XE X ρ H):=hb
   cases g:F as S1 with
   | ok a S2=>rw[g]at hb;exact⟨a,S2,R1,v1,rfl,λρ2 H2 v e2=>hb ρ2 H2 v<|e1.trans e2⟩
   | ex c S2=>rw[g]at hb;exact hb.elim
   | no=>rw[g]at hb;exact hb.elim
def mG:∀τ S as S',jR τ S=.ok as S'->as.length=0:=λτ S as S' h=>by cases h;rfl
def j7{c:Ex}{d:rR}{n:Nat}(h:∀τ S as S',d τ S=.ok as S'->as.length=n):∀τ S as S',jH c d τ S=.ok as S'->as.length=n+1:=λτ S as S' e=>by
 unfold jH at e
 cases hc:c τ S with
 | ok a S1=>
  rw[hc]at e
  cases f:d τ S1 with
  | ok bs S2=>
   have e:R.bind (d τ S1) (λas S2=>.ok (a::as) S2)=.ok as S':=e;rw[f]at e;cases e;rw[bG,h τ S1 bs _ f]
  | ex _ _=>
   have e:R.bind (d τ S1) (λas S2=>.ok (a::as) S2)=.ok as S':=e;rw[f]at e;cases e
  | no=>
   have e:R.bind (d τ S1) (λas S2=>.ok (a::as) S2)=.ok as S':=e;rw[f]at e;cases e
 | ex _ _=>rw[hc]at e;cases e
 | no=>rw[hc]at e;cases e
end
section
variable {X:Cx}{pos:Pos}{a b c:aE}
abbrev kCh (f':A->A->jK->R A)(cc:Ex)(τ:ae)(b k:A)(S:jK):R A:=match k with
 | .bl true=>(cc τ S).bind λc d=>f' b c d
 | .bl false=>.ok (.bl false) S
 | _=>.no
abbrev YF (f f':A->A->jK->R A)(ca cb cc:Ex):Ex:=λτ S=>(ca τ S).bind λa S1=>(cb τ S1).bind λb S2=>(f a b S2).bind λk S3=>kCh f' cc τ b k S3
def V_{f f':A->A->jK->R A}{ca cb cc:Ex}{H:Hp}{Q:VK}(h:tE X (YF f f' ca cb cc) σ H Q):Pn (r2 X f) (r2 X f') (tE X ca) (tE X cb) (tE X cc) σ H Q:=by
 kl_no;refine⟨ρ,S,τ,R,r,jM (jT h) .refl λa S1 h1 ρ1 H1 x e1 R1 v1=>⟨ρ1,S1,τ,R1,r.ext e1,jM (jT h1) e1 λb S2 h2 ρ2 H2 y e2 R2 v2=>?_⟩⟩;have g:=e1.trans e2;refine⟨ρ2,S2,a,b,R2,v1.ext e2,v2,jM (jT h2) g λk S3 h3 ρ3 H3 z e3 R3 F=>?_⟩;have d:=g.trans e3
 cases k with
 | bl k=>
  cases EW F
  refine⟨k,rfl,?_⟩
  cases k with
  | true=>
   rw[aN rfl];exact⟨ρ3,S3,τ,R3,r.ext d,jM (jT h3) d λc t B p J w j C G=>⟨p,t,b,c,C,v2.ext<|e3.trans j,G,jM B (d.trans j) λ_ _ q=>q.ext<|d.trans j⟩⟩
  | false=>
   rw[aM bN];exact h3 ρ3 H3 _ d R3<|.bl false
 | _=>exact h3.elim
def ZT{f f':A->A->jK->R A}{ca cb cc:Ex}(ho:n5 X (compareOp op)<|r2 X f)(ho':n5 X (compareOp op')<|r2 X f')(ha:AE X a ca)(hb:AE X b cb)(hc:AE X c cc)(hm:lastMarks [op,op'] [b,c]=false:=by with_unfolding_all rfl) :
  AE X (.Compare a [op,op'] [b,c] pos) (YF f f' ca cb cc):=PE.imp (Qh ho ho' ha hb hc hm) λ_ _ _ h=>V_ h
abbrev Us (S:jK)(x:A):ae->bi
 | []=>some false
 | z::zs=>(vJ S 12 z x).bind λp=>(Us S x zs).map λq=>p || q
abbrev DZ (neg:Bool)(x y:A)(S:jK):R A:=opt (y.seq S) λys=>opt (Us S x ys) λb=>.ok (.bl<|if neg then !b else b) S
def yT{H:Hp}{x:A}{v:af}(I:Inv X pins σ H s)(R:Rel X.K ρ H S)(hu:X.A.units+64<cLine)(hx:AV X.K ρ H x vx)(rx:RelV vx v) :
  ∀{ys:ae} {us:List V} {its:ba} {b:Bool},AVs X.K ρ H ys us->Vals us its->Us S x ys=some b->∃e:af->Bool,(∀w∈its,SeqAt.EqAt X.A.in1 s w v<|e w)/\its.any e=b:=by
 intro ys
 induction ys with
 | nil=>
  intro us its b h1 h2 h
  cases h1
  cases h2
  exact⟨λ_=>false,(λw hw=>by cases hw),bf h⟩
 | cons z zs k=>
  intro us its b h1 h2 h
  cases h1 with
  | cons G j=>
   rename_i u us
   cases h2 with
   | cons r C=>
    rename_i f its
    classical
    obtain⟨p,F,h⟩:=cG.mp h;obtain⟨q,hq,h⟩:=aY.mp h;obtain⟨e,g,ha⟩:=k j C hq;have h0:=(IP I R 12 X.A.in1 z x u vx f v p (by rw[in1_units];omega) G hx r rx F).2.1;subst h
    cases p with
    | true=>
     refine⟨λw=>if w=f then true else e w,λw hw=>?_,?_⟩
     ·by_cases d:w=f
      ·dsimp[d,dJ];exact h0
      ·dsimp[d,cF]
       rcases bF.mp hw with z|z
       ·exact absurd z d
       ·exact g w z
     ·simp
    | false=>
     by_cases t:f∈its
     ·refine⟨e,λw hw=>?_,?_⟩
      ·rcases bF.mp hw with z|z
       ·rw[z];exact g f t
       ·exact g w z
      ·rw[fX,ha,fY]
       cases q with
       | true=>simp
       | false=>
        have:=List.any_eq_false.mp ha f t;simpa using this
     ·refine⟨λw=>if w=f then false else e w,λw hw=>?_,?_⟩
      ·by_cases d:w=f
       ·dsimp[d,dJ];exact h0
       ·dsimp[d,cF]
        rcases bF.mp hw with z|z
        ·exact absurd z d
        ·exact g w z
      ·rw[fX,<- ha];dsimp[dJ,fY];have:∀l:ba,(∀w∈l,w≠f)->l.any (λw=>if w=f then false else e w)=l.any e:=λl B=>by
        induction l with
        | nil=>rfl
        | cons c l k=>rw[fX,fX,k λw hw=>B w<|aQ _ hw,aM<|B c<|aO ..]
       exact this its λw hw z=>t<|z ▸ hw
def Tc(hu:X.A.units+64<cLine):n5 X (compareOp .In) (r2 X<|DZ false):=λpins s σ H x y v u Q I rx ry h9=>by
 z_go;obtain⟨ys,hy,h⟩:=jN h;obtain⟨k,j,h⟩:=jN h;obtain⟨p,us,rfl,hs,r⟩:=Ga R vb hy
 cases ry
 rcases hs with hs|hs
 ·obtain⟨d,f,pl,q⟩:=I.list hs;obtain⟨e,g,ha⟩:=yT I R hu va rx r f j;refine SeqAt.in_listAt e pl.isList (λw hw=>g w<|by simpa using hw) ⟨.bl _,H,I,rfl,?_⟩;rw[show d.toArray.any e=d.any e by simp,ha];exact h _ _ _ .refl R (.bl _)
 ·obtain⟨d,f,pl,q⟩:=I.tuple hs;obtain⟨e,g,ha⟩:=yT I R hu va rx r f j;refine SeqAt.in_tupleAt e pl (λw hw=>g w<|by simpa using hw) ⟨.bl _,H,I,rfl,?_⟩;rw[show d.toArray.any e=d.any e by simp,ha];exact h _ _ _ .refl R<|.bl _
def J4(hu:X.A.units+64<cLine):n5 X (compareOp .NotIn) (r2 X<|DZ true):=λpins s σ H x y v u Q I rx ry h9=>by
 z_go;obtain⟨ys,hy,h⟩:=jN h;obtain⟨k,j,h⟩:=jN h;obtain⟨p,us,rfl,hs,r⟩:=Ga R vb hy
 cases ry
 rcases hs with hs|hs
 ·obtain⟨d,f,pl,q⟩:=I.list hs;obtain⟨e,g,ha⟩:=yT I R hu va rx r f j;refine SeqAt.notIn_listAt e pl.isList (λw hw=>g w<|by simpa using hw) ⟨.bl _,H,I,rfl,?_⟩;rw[show d.toArray.any e=d.any e by simp,ha];exact h _ _ _ .refl R (.bl _)
 ·obtain⟨d,f,pl,q⟩:=I.tuple hs;obtain⟨e,g,ha⟩:=yT I R hu va rx r f j;refine SeqAt.notIn_tupleAt e pl (λw hw=>g w<|by simpa using hw) ⟨.bl _,H,I,rfl,?_⟩;rw[show d.toArray.any e=d.any e by simp,ha];exact h _ _ _ .refl R<|.bl _
abbrev CZ (o:A)(as:ae)(S:jK):R A:=match o,as with
 | .ref n,[.ref m]=>opt (jI S n) λxs=>opt (jI S m) λys=>gd (xs.length+ys.length<=sizeLine) (.ok .non<|S.set n<|.lst<|xs++ys)
 | _,_=>.no
def OH:LW X "list.extend" (rM X CZ):=λpins s σ H x F v us Q I rx k h9=>by
 obtain⟨ρ,S,o,B,R,g,va,h⟩:=h9
 cases g with
 | @ref p n d=>
  match B,va,h with
  | [],_,h=>exact h.elim
  | y::_::_,_,h=>exact(by cases y<;>exact h.elim)
  | [y],va,h=>
   obtain⟨w,rfl,hw⟩:=P4 va
   cases hw with
   | @ref q m hq=>
    kj_on;obtain⟨ys,C,h⟩:=jN h;obtain⟨j,h⟩:=kc h;obtain⟨z,h1,r⟩:=R.lst d<|jW hn;obtain⟨zs,h2,f⟩:=R.lst hq<|jW C;obtain⟨ex,t⟩:=R.put d (jW hn)<|r.append f;exact Lh pins s σ H _ _ v us Q I rx k ⟨p,q,z,zs,rfl,rfl,h1,h2,by rw[<- r.length,<- f.length];exact j,h _ _ _ ex t .non⟩
   | _=>exact h.elim
 | _=>exact h.elim
abbrev W_ (a b:A)(S:jK):R A:=match a,b with
 | .int i,.int j=>gd (xj i j) (.ok (.int<|i * j) S)
 | _,_=>.no
def Ud:PIp X .Mult (ip X W_):=λpins s σ H x y v u Q I r1 r2 h9=>by
 z_go
 cases va with
 | int i=>
  cases vb with
  | int j=>
   obtain⟨d,h⟩:=kc h;obtain⟨t,rfl⟩:=(show ∃t,v=Value.int i t from r1);obtain⟨f,rfl⟩:=(show ∃t,u=Value.int j t from r2);exact imul_int ⟨.int _,H,I.tok _,⟨_,rfl⟩,h _ _ _ .refl R<|.int _⟩ (mulOk_of d).ok
  | _=>exact h.elim
 | _=>exact h.elim
end
abbrev jZ (S:jK)(n:Nat):Option (List<|ag×A):=match S[n]? with
 | some (.dct xs)=>some xs
 | _=>none
def lC{n:Nat}(h:jZ S n=some xs):S[n]?=some (.dct xs):=by
 unfold jZ at h;split at h
 ·rename_i e;cases h;exact e
 ·cases h
def qI{S:jK}{n:Nat}(h:S[n]?=some (.dct xs)):jZ S n=some xs:=by
 unfold jZ;rw[h]
abbrev kN (kvs:List<|ag×A)(k:ag):Option A:=(kvs.find? λkv=>decide<|kv.1=k).map (·.2)
abbrev putD (kvs:List<|ag×A)(k:ag)(v:A):List (ag×A):=
 if (kN kvs k).isSome=true then kvs.map (λkv=>if kv.1=k then(kv.1,v)else kv)else kvs++[(k,v)]
theorem Cr:∀{a b:ag},a.map (Sum.inl:Int->Key)=b.map Sum.inl->a=b
 | [],[],_=>rfl
 | [],_::_,e=>by simp at e
 | _::_,[],e=>by simp at e
 | x::xs,y::ys,e=>by
  rw[bI,bI]at e
  injection e with e1 e2
  injection e1 with e1
  rw[e1,Cr e2]
def vm(ns:ag):(ns.map (Sum.inl:Int->Key)).map kV=ns.map V.int:=by rw[bz];rfl
section
variable {K:au}{ρ:bb}{H:Hp}
def BR{p:ag×A}{r:List<|ag×A}{k:ag}(e:p.1=k):kN (p::r) k=some p.2:=by simp[kN,b9,e]
def BZ{p:ag×A}{r:List<|ag×A}{k:ag}(e:¬p.1=k):kN (p::r) k=kN r k:=by simp[kN,b9,e]
theorem DV.look:∀{kvs:List<|ag×A}{ks:List<|List Key×V}(k:ag),DV K ρ H kvs ks->(kN kvs k).isSome=(qv ks<|k.map Sum.inl).isSome/\∀x,kN kvs k=some x->∃v,qv ks (k.map Sum.inl)=some v/\AV K ρ H x v
 | [],[],k,_=>⟨rfl,λx h=>nomatch h⟩
 | p::r,q::r',k,⟨⟨e,a⟩,t⟩=>by
  by_cases c:p.1=k
  ·have d:q.1=k.map Sum.inl:=by rw[e,c]
   rw[BR c,uW d];exact⟨rfl,λx h=>by cases h;exact⟨_,rfl,a⟩⟩
  ·have d:¬q.1=k.map Sum.inl:=λz=>c<|Cr<|e.symm.trans z;rw[BZ c,uC d];exact DV.look k t
theorem DV.repl{x:A}{v:V}(h:AV K ρ H x v)(k:ag):∀{kvs:List<|ag×A}{ks:List<|List Key×V},DV K ρ H kvs ks->DV K ρ H (kvs.map λkv=>if kv.1=k then(kv.1,x)else kv) (ks.map λkv=>if kv.1=k.map Sum.inl then(kv.1,v)else kv)
 | [],[],_=>trivial
 | p::r,q::r',⟨⟨e,a⟩,t⟩=>by
  refine⟨?_,DV.repl h k t⟩;dsimp only;by_cases c:p.1=k
  ·rw[aN c,aN<|by rw[e,c]];exact⟨e,h⟩
  ·rw[aM c,aM λz=>c<|Cr<|e.symm.trans z];exact⟨e,a⟩
theorem DV.snoc{x:A}{v:V}(h:AV K ρ H x v)(k:ag):∀{kvs:List<|ag×A}{ks:List<|List Key×V},DV K ρ H kvs ks->DV K ρ H (kvs++[(k,x)]) (ks++[(k.map Sum.inl,v)])
 | [],[],_=>⟨⟨rfl,h⟩,trivial⟩
 | p::r,q::r',⟨a,t⟩=>⟨a,DV.snoc h k t⟩
def DV.put{x:A}{v:V}(h:AV K ρ H x v)(k:ag){ks:List<|List Key×V}(d:DV K ρ H kvs ks):DV K ρ H (putD kvs k x) (putK ks (k.map Sum.inl) v):=by
 unfold putD putK;rw[wX,<- (d.look k).1];by_cases c:(kN kvs k).isSome=true
 ·rw[aN c,aN c];exact DV.repl h k d
 ·rw[aM c,aM c];exact DV.snoc h k d
def DV.length:∀{kvs:List<|ag×A}{ks:List<|List Key×V},DV K ρ H kvs ks->kvs.length=ks.length
 | [],[],_=>rfl
 | _::_,_::_,⟨_,t⟩=>c7 (·+1) t.length
def Rel.dct{n:Nat}{a:ak}(R:Rel K ρ H S)(ha:ρ[n]?=some a)(hS:S[n]?=some (.dct xs)):∃vs,H a=some (.dT vs)/\DV K ρ H xs vs:=R.at n a _ ha hS
def Rel.aaa{S:jK}{p:ak}(R:Rel K ρ H S)(hp:H p=none)(r:DV K ρ H xs vs):Ext ρ (ρ++[p]) H (upd H p<|.dT vs)/\Rel K (ρ++[p]) (upd H p<|.dT vs) (S++[.dct xs])/\(ρ++[p])[S.length]?=some p:=by
 have ex:Ext ρ (ρ++[p]) H (upd H p<|.dT vs):=⟨⟨dQ _ _,λa u _ h=>by rw[jP<|j3 h hp];exact h⟩,λa u h _=>by rw[jP<|j3 h hp];exact h,λa h=>by
  rcases bq.mp h with z|z
  ·exact .inl z
  ·have e:a=p:=by simpa using z
   rw[e];exact .inr hp⟩
 have j:p∉ρ:=R.FE hp;have d:(ρ++[p])[S.length]?=some p:=by rw[<- R.len];simp
 refine⟨ex,⟨by simp[R.len],?_,?_⟩,d⟩
 ·rw[cE];cb_eq;have:b=p:=by simpa using hb
  exact j<|by rw[<- this,<- e];exact ha
 ·intro n a o h1 h2;by_cases hn:n<S.length
  ·rw[bw<|by rw[R.len];exact hn]at h1;rw[bw hn]at h2;have na:a≠p:=λz=>j (by rw[<- z];exact aS h1);have:=R.at n a o h1 h2
   cases o with
   | lst ys=>obtain⟨f,e,q⟩:=this;exact⟨f,by rw[jP na];exact e,q.ext ex⟩
   | dct _|qc _|vh _=>obtain⟨f,e,q⟩:=this;exact⟨f,by rw[jP na];exact e,q.ext ex⟩
   | dcf _=>obtain⟨g,f,e,q⟩:=this;exact⟨g,f,by rw[jP na];exact e,q.ext ex⟩
   | ins _ _=>obtain⟨g,k,e⟩:=this;exact⟨g,k,by rw[jP na];exact e⟩
  ·have e:n=S.length:=by
    have:=(aJ.mp h2).1;simp at this;omega
   subst e;rw[d]at h1
   cases h1
   simp at h2;subst h2;exact⟨vs,kD,r.ext ex⟩
def Rel.putD{S:jK}{n:Nat}{a:ak}(R:Rel K ρ H S)(ha:ρ[n]?=some a)(hS:S[n]?=some (.dct xs))(r:DV K ρ H ys ws):Ext ρ ρ H (upd H a<|.dT ws)/\Rel K ρ (upd H a<|.dT ws) (S.set n<|.dct ys):=by
 obtain⟨p,e,_⟩:=R.at n a _ ha hS;have ex:Ext ρ ρ H (upd H a<|.dT ws):=⟨⟨dP _,λb u i h=>by
  have:b≠a:=by
   intro z;subst z;rw[e]at h;cases h;exact i
  rw[jP this];exact h⟩,λb u h n=>by
  rw[jP λz=>n<|by rw[z];exact aS ha];exact h,λ_ h=>.inl h⟩
 refine⟨ex,by rw[bV];exact R.len,R.nd,λm b o h1 h2=>?_⟩;by_cases j:m=n
 ·subst j;rw[ha]at h1;cases h1;rw[bJ (aJ.mp hS).1]at h2
  cases h2
  exact⟨ws,kD,r.ext ex⟩
 ·rw[bL<|cR j]at h2;have nb:b≠a:=λz=>by
   subst z;obtain⟨t,e1⟩:=aJ.mp ha;obtain⟨B,e2⟩:=aJ.mp h1;exact j<|(cX R.nd).mp<|e2.trans e1.symm
  have:=R.at m b o h1 h2
  cases o with
  | lst ys=>obtain⟨d,f,q⟩:=this;exact⟨d,by rw[jP nb];exact f,q.ext ex⟩
  | dct _|qc _|vh _=>obtain⟨d,f,q⟩:=this;exact⟨d,by rw[jP nb];exact f,q.ext ex⟩
  | dcf _=>obtain⟨g,d,f,q⟩:=this;exact⟨g,d,by rw[jP nb];exact f,q.ext ex⟩
  | ins _ _=>obtain⟨g,k,f⟩:=this;exact⟨g,k,by rw[jP nb];exact f⟩
end
section
variable {X:Cx}{pos:Pos}{a b:aE}
def Ci{H:Hp}{p q:ak}{n:Nat}{ns:ag}(R:Rel X.K ρ H S)(hp:ρ[n]?=some p)(hn:jZ S n=some kvs)(hq:H q=some (.tup vs))(r:AVs X.K ρ H xs vs)(hi:A.ints xs=some ns) :
  ∃ks,H p=some (.dT ks)/\DV X.K ρ H kvs ks/\H q=some (.tup<|(ns.map (Sum.inl:Int->Key)).map kV)/\t_ H p (.ref q) (qv ks<|ns.map Sum.inl):=by
 obtain⟨ks,e,d⟩:=R.dct hp<|lC hn;have z:=qi r hi;subst z;rw[<- vm]at hq;exact⟨ks,e,d,hq,t_.t e hq⟩
abbrev sX (x y:A)(S:jK):R A:=match x,y with
 | .ref n,.tup xs=>opt (jZ S n) λkvs=>opt (A.ints xs) λd=>opt (kN kvs d) λv=>.ok v S
 | _,_=>.no
def ZZ(hu:X.A.units+64<cLine):Um X (r2 X sX):=λf j pins s σ H x y v u Q I rx ry ⟨ρ,S,a,b,R,va,vb,h⟩ hs=>by
 cases va with
 | @ref p n C=>
  cases vb with
  | @tup q xs J hq r=>
   kln_w;obtain⟨B,F,h⟩:=jN h;obtain⟨z,G,h⟩:=jN h;obtain⟨ks,e,d,k,g⟩:=Ci R C hn hq r F;obtain⟨w,hw,t⟩:=(d.look B).2 z G;rw[hw]at g;exact Cm (by omega) f j pins s σ H _ _ v u Q I rx ry ⟨p,w,rfl,g,h _ _ _ .refl R t⟩ hs
  | _=>exact h.elim
 | _=>exact h.elim
def Au(hu:X.A.units+64<cLine){ca cb:Ex}(ha:AE X a ca)(hb:AE X b cb)(hs:xw b:=by exact λ_ _=>rfl):AE X (.Subscript a b pos) (jO sX ca cb):=PE.imp (IL (ZZ hu) ha hb hs) λσ H Q h=>sN h
abbrev Lr (neg:Bool)(x y:A)(S:jK):R A:=match x,y with
 | .tup xs,.ref n=>opt (jZ S n) λkvs=>opt (A.ints xs) λd=>.ok (.bl<|if neg then !(kN kvs d).isSome else(kN kvs d).isSome) S
 | _,_=>.no
def FA(hu:X.A.units+64<cLine):n5 X (compareOp .NotIn) (r2 X<|Lr true):=λpins s σ H x y v u Q I rx ry h9=>by
 z_go
 cases va with
 | @tup q xs z hq r=>
  cases vb with
  | @ref p n f=>
   kln_w;obtain⟨t,k,h⟩:=jN h;obtain⟨ks,e,d,j,g⟩:=Ci R f hn hq r k;exact KP (by omega) pins s σ H _ _ v u Q I rx ry ⟨p,_,rfl,g,by rw[<- (d.look t).1];exact h _ _ _ .refl R<|.bl _⟩
  | _=>exact h.elim
 | _=>exact h.elim
abbrev qd (o i v:A)(S:jK):R Unit:=match o,i with
 | .ref n,.tup xs=>opt (jZ S n) λkvs=>opt (A.ints xs) λd=>gd (kvs.length<sizeLine) (.ok Unit.unit<|S.set n<|.dct<|putD kvs d v)
 | _,_=>.no
abbrev aaZ (X:Cx):Hi:=λo i v H Q=>∃ρ S ao f d,Rel X.K ρ H S/\AV X.K ρ H ao o/\AV X.K ρ H f i/\AV X.K ρ H d v/\(qd ao f d S).post (λ_ g=>∀ρ' H',Ext ρ ρ' H H'->Rel X.K ρ' H' g->Q H') (XE X ρ H)
def RQ(hu:X.A.units+64<cLine):E3 X (aaZ X):=λpins s σ H o i v K iv u Q I z G C h9=>by
 obtain⟨ρ,S,ao,M,N,R,h1,h2,h3,h⟩:=h9
 cases h1 with
 | @ref p n j=>
  cases h2 with
  | @tup q xs L hq r=>
   kln_w;obtain⟨k,J,h⟩:=jN h;obtain⟨B,h⟩:=kc h;obtain⟨ks,e,d,f,g⟩:=Ci R j hn hq r J;obtain⟨ex,F⟩:=R.putD j (lC hn)<|d.put h3 k;exact set_dict () pins s σ H _ _ v K iv u Q I z G C ⟨p,_,rfl,yI.t e f<|by rw[<- d.length];exact B,h _ _ ex F⟩
  | _=>exact h.elim
 | _=>exact h.elim
abbrev Ly (co ci:Ex):Tg:=λa τ S=>(co τ S).bind λo S1=>(ci τ S1).bind λi S2=>(qd o i a S2).bind λ_ S3=>.ok τ S3
def y9(hu:X.A.units+64<cLine){co ci:Ex}(ho:AE X o co)(hi:AE X i ci)
  (ha:∀v,assign (.Subscript o i pos) X.env v=(do
   let ov <- holding [v] (eval o X.env)
   let iv <- holding [v,ov] (eval i X.env)
   standAt pos
   holding [v,ov,iv] (setItem ov iv v)
   release [v,ov,iv] []):=by intro _;rfl):AG X (.Subscript o i pos) (Ly co ci):=PG.imp (Dw ho hi (RQ hu) ha) λv σ H Q h9=>by
 obtain⟨ρ,S,τ,a,R,r,va,h⟩:=h9;k_ne;gn_on;ksr_p
abbrev Bo:Ex:=λ_ S=>.ok (.ref S.length)<|S++[.dct []]
def yX:AE X (.Dict [] [] pos) Bo:=PE.imp Nq λσ H Q ⟨ρ,S,τ,R,r,h⟩ p f=>by
 obtain⟨ex,d,g⟩:=R.aaa (xs:=[]) (vs:=[]) f trivial;exact h _ _ _ ex d<|.ref g
abbrev Hr (ck cv:Ex):Ex:=λτ S=>(ck τ S).bind λk S1=>(cv τ S1).bind λv S2=>match k with
 | .tup xs=>opt (A.ints xs) λd=>.ok (.ref S2.length) (S2++[.dct [(d,v)]])
 | _=>.no
def Rel.Z6{K:au}{H:Hp}{S:jK}{D:ak}(R:Rel K ρ H S)(hD:H D=some (.dT us))(hn:D∉ρ)(r:DV K ρ H xs vs):Ext0 ρ (ρ++[D]) H (upd H D<|.dT vs)/\Rel K (ρ++[D]) (upd H D<|.dT vs) (S++[.dct xs])/\(ρ++[D])[S.length]?=some D:=by
 have ex:Ext0 ρ (ρ++[D]) H (upd H D<|.dT vs):=⟨dQ _ _,λb u i h=>by
  have:b≠D:=by
   intro z;subst z;rw[hD]at h;cases h;exact i
  rw[jP this];exact h⟩
 have d:(ρ++[D])[S.length]?=some D:=by rw[<- R.len];simp
 refine⟨ex,⟨by simp[R.len],?_,λn a o h1 h2=>?_⟩,d⟩
 ·rw[cE];cb_eq;have:b=D:=by simpa using hb
  exact hn<|by rw[<- this,<- e];exact ha
 ·by_cases hs:n<S.length
  ·rw[bw<|by rw[R.len];exact hs]at h1;rw[bw hs]at h2;have na:a≠D:=λz=>hn (by rw[<- z];exact aS h1);have:=R.at n a o h1 h2
   cases o with
   | lst ys=>obtain⟨f,e,q⟩:=this;exact⟨f,by rw[jP na];exact e,AVs.mq ex q⟩
   | dct _|qc _|vh _=>obtain⟨f,e,q⟩:=this;exact⟨f,by rw[jP na];exact e,q.mq ex⟩
   | dcf _=>obtain⟨g,f,e,q⟩:=this;exact⟨g,f,by rw[jP na];exact e,q.mq ex⟩
   | ins _ _=>obtain⟨g,j,e⟩:=this;exact⟨g,j,by rw[jP na];exact e⟩
  ·have e:n=S.length:=by
    have:=(aJ.mp h2).1;simp at this
    lia
   subst e;rw[d]at h1
   cases h1
   simp at h2;subst h2;exact⟨vs,kD,r.mq ex⟩
def SI(hu:X.A.units+64<cLine){k v:aE}{ck cv:Ex}(hk:AE X k ck)(hv:AE X v cv):AE X (.Dict [some k] [v] pos) (Hr ck cv):=PE.imp (NG () hk hv) λσ H Q ⟨ρ,S,τ,R,r,h⟩ p g=>by
 obtain⟨e0,C⟩:=R.im (u:=.dT []) g;have B:p∉ρ:=R.FE g;refine⟨ρ,S,τ,C,r.ext e0,jM (jT h) e0 λa S1 h1 ρ1 H1 x e1 R1 v1=>⟨ρ1,S1,τ,R1,(r.ext e0).ext e1,jM (jT h1) (e0.trans e1) λb S2 h2 ρ2 H2 y e2 R2 v2=>?_⟩⟩;have d:=e1.trans e2;have f:H2 p=some (.dT []):=d.fr p _ kD B;have j:p∉ρ2:=λL=>(d.nw p L).elim B λz=>by rw[kD]at z;cases z
 cases v1.ext e2 with
 | @tup q xs vs hq G=>
  obtain⟨t,K,h2⟩:=jN h2;have z:=qi G K;subst z;refine⟨f,q,t.map Sum.inl,rfl,by rw[vm];exact hq,?_⟩;obtain⟨e3,R3,J⟩:=R2.Z6 (xs:=[(t,b)]) (vs:=[(t.map Sum.inl,y)]) f j ⟨⟨rfl,v2⟩,trivial⟩;refine h2 _ _ _ ⟨⟨(e0.trans d).pre.trans e3.pre,λc u i hc=>e3.im c u i<|(e0.trans d).im c u i hc⟩,λc u hc F=>?_,λc hc=>?_⟩ R3 (.ref J)
  ·rw[jP<|j3 hc g];exact(e0.trans d).fr c u hc F
  ·rcases bq.mp hc with z|z
   ·exact(e0.trans d).nw c z
   ·have:c=p:=by simpa using z
    rw[this];exact .inr g
 | _=>exact h2.elim
abbrev dct? (a:A)(S:jK):Option Unit:=match a with
 | .ref n=>(jZ S n).map λ_=>Unit.unit
 | _=>none
abbrev VC (f:A->ae->jK->R A)(co:Ex)(d:rR):Ex:=λτ S=>(co τ S).bind λx S1=>opt (dct? x S1) λ_=>(d τ S1).bind λg S2=>f x g S2
def dct?_ty{K:au}{H:Hp}{x:A}{v:V}(R:Rel K ρ H S)(a:AV K ρ H x v)(e:dct? x S=some u):YK K "dict" v H:=by
 cases a with
 | @ref p n h=>
  obtain⟨xs,f,_⟩:=aY.mp e;obtain⟨d,h1,_⟩:=R.dct h<|lC f;exact .inr<|.inr<|.inl ⟨rfl,.inr ⟨d,h1⟩⟩
 | _=>cases e
def V0{e:aE}{id:String}{apos cpos:Pos}{f:A->ae->jK->R A}{co:Ex}{d:rR}(slot:Slot "dict" name id)(hty:typeOf (.builtin id)=pure (.type "method_descriptor"))(hm:LW X id<|rM X f)(ho:AE X o co)(ha:AL X (e::es) d)
  (hbase:attributeBase o name X.env (eval o X.env)=eval o X.env:=by rfl)
  (hfew:((backTo cpos<|starEach (e::es) X.env).all (λx=>!x.1) && (backToKw cpos<|keywordEach [] X.env).all (λx=>x.1.isSome)
   && decide ((e::es).length+([]:List Keyword).length+(if ([]:List Keyword).isEmpty then 0 else 1)<30))=true:=by rfl)
  (hline:(apos.endLine == cpos.line)=true:=by rfl) (hs:starEach (e::es) X.env=(false,eval e X.env)::starEach es X.env:=by rfl) (hplain:(backTo cpos<|starEach es X.env).any (·.1)=false:=by rfl) :
  AE X (.Call (.Attribute o name apos) (e::es) [] cpos) (VC f co d):=PE.imp (Mn PySem.F.plainAttrs_dict slot hty hm ho ha hbase hfew hline hs hplain) λσ H Q h9=>by
 x_go;mg_lt;obtain⟨xs,j,h1⟩:=jN h1;refine⟨dct?_ty R1 v1 j,ρ1,S1,τ,R1,r.ext e1,jM (jT h1) e1 λg S2 h2 ρ2 H2 k e2 R2 v2=>?_⟩;exact⟨ρ2,S2,x,g,R2,v1.ext e2,v2,jM h2 (e1.trans e2) λ_ _ z=>z.ext<|e1.trans e2⟩
abbrev Yz (o:A)(as:ae)(S:jK):R A:=match o,as with
 | .ref n,[.tup xs,y]=>opt (jZ S n) λkvs=>opt (A.ints xs) λk=>.ok ((kN kvs k).getD y) S
 | _,_=>.no
def Y0(hu:X.A.units+64<cLine):LW X "dict.get" (rM X Yz):=λpins s σ H x N v us Q I rx C h9=>by
 obtain⟨ρ,S,o,K,R,t,va,h⟩:=h9
 cases t with
 | @ref p n F=>
  match K,va,h with
  | [],_,h=>exact h.elim
  | [z],_,h=>exact(by cases z<;>exact h.elim)
  | z::_::_::_,_,h=>exact(by cases z<;>exact h.elim)
  | [z,y],va,h=>
   obtain⟨P,k,rfl,J,hy⟩:=Ra va
   cases J with
   | @tup q xs O hq g=>
    kln_w;obtain⟨d,G,h⟩:=jN h;have z:=qi g G;subst z;obtain⟨ks,h1,B⟩:=R.dct F<|lC hn;refine Uo (by omega) pins s σ H _ _ v us Q I rx C ⟨p,q,d.map Sum.inl,ks,k,rfl,rfl,h1,by rw[vm];exact hq,h _ _ _ .refl R ?_⟩;obtain⟨f,L⟩:=B.look d
    cases e1:kN kvs d with
    | none=>
     rw[e1]at f
     cases e2:qv ks (d.map Sum.inl)with
     | none=>exact hy
     | some _=>rw[e2]at f;cases f
    | some j=>
     obtain⟨v1,e2,M⟩:=L j e1;rw[e2];exact M
   | _=>exact h.elim
 | _=>exact h.elim
end
section
variable {a b:aE}
theorem Vd{K:au}{H:Hp}:∀{kvs:List<|ag×A}{ks:List<|List Key×V}{i:Nat}{p:ag×A},DV K ρ H kvs ks->kvs[i]?=some p->∃q,ks[i]?=some q/\q.1=p.1.map Sum.inl/\AV K ρ H p.2 q.2
 | [],[],_,_,_,h=>by simp at h
 | a::kvs,b::ks,0,p,⟨z,_⟩,h=>by
  have:a=p:=by simpa using h
  subst this;exact⟨b,rfl,z⟩
 | a::kvs,b::ks,i+1,p,⟨_,t⟩,h=>Vd (kvs:=kvs) (ks:=ks) (i:=i) t<|by simpa using h
def Rel.gone{K:au}{H:Hp}{S:jK}{n:Nat}{a:ak}(R:Rel K ρ H S)(ha:ρ[n]?=some a)(hS:S[n]?=some (.dct xs)):Ext ρ ρ H (upd H a<|.frz o u)/\Rel K ρ (upd H a<|.frz o u) (S.set n<|.ins "" []):=by
 obtain⟨t,e,_⟩:=R.at n a _ ha hS;have ex:Ext ρ ρ H (upd H a<|.frz o u):=⟨⟨dP _,λb k i h=>by
  have:b≠a:=by
   intro z;subst z;rw[e]at h;cases h;exact i
  rw[jP this];exact h⟩,λb k h nb=>by
  rw[jP λz=>nb<|by rw[z];exact aS ha];exact h,λ_ h=>.inl h⟩
 refine⟨ex,by rw[bV];exact R.len,R.nd,λm b ob h1 h2=>?_⟩;by_cases j:m=n
 ·subst j;rw[ha]at h1;cases h1;rw[bJ (aJ.mp hS).1]at h2
  cases h2
  exact⟨o,u,kD⟩
 ·rw[bL<|cR j]at h2;have nb:b≠a:=λz=>by
   subst z;obtain⟨B,e1⟩:=aJ.mp ha;obtain⟨C,e2⟩:=aJ.mp h1;exact j<|(cX R.nd).mp<|e2.trans e1.symm
  have:=R.at m b ob h1 h2
  cases ob with
  | lst ys=>obtain⟨d,f,q⟩:=this;exact⟨d,by rw[jP nb];exact f,q.ext ex⟩
  | dct _|qc _|vh _=>obtain⟨d,f,q⟩:=this;exact⟨d,by rw[jP nb];exact f,q.ext ex⟩
  | dcf _=>obtain⟨g,d,f,q⟩:=this;exact⟨g,d,by rw[jP nb];exact f,q.ext ex⟩
  | ins _ _=>obtain⟨g,p,f⟩:=this;exact⟨g,p,by rw[jP nb];exact f⟩
end
abbrev abW (F:ae->jK->R A)(d:rR):Ex:=λτ S=>(d τ S).bind λf S1=>F f S1
abbrev bmV:ba:=[.type "ValueError",.type "Exception",.type "BaseException",.type "object"]
abbrev Tn:List (Str ⊕ Ex)->ae->jK->R Unit
 | [],_,S=>.ok Unit.unit S
 | .inl _::ps,τ,S=>Tn ps τ S
 | .inr e::ps,τ,S=>(e τ S).bind λv S1=>match v with
  | .int i=>gd (i.natAbs.log2<64) (Tn ps τ S1)
  | _=>.no
abbrev VY (c:Str)(ps:List<|Str ⊕ Ex):Sm:=λτ S=>.of (Tn ps τ S) λ_ S1=>.ex c S1
abbrev UG (i:Nat):RS->RS
 | .nx τ S=>.nx (τ.set i .unb) S
 | .bk τ S=>.bk (τ.set i .unb) S
 | .ct τ S=>.ct (τ.set i .unb) S
 | .rt a S=>.rt a S
 | _=>.no
abbrev ZK (i n:Nat)(cs:ar)(c d:Sm):Sm:=λτ S=>match c τ S with
 | .ex x S1=>if x∈cs then UG i (d ((List.replicate n .unb).set i<|.exn x) S1)else .no
 | r=>r
abbrev abS (f:Str->bi)(c:Ex):Ex:=λτ S=>(c τ S).bind λv S1=>match v with
 | .exn x=>opt (f x) λb=>.ok (.bl b) S1
 | _=>.no
structure ExcK (K:au)(U:ak)(c:Str)(C:ak):Prop where
 n:ClN K c C
 q:PySem.W.excIn K C bmV "ValueError.__new__" = true
 r:L2.mroIn K C=some (.ref U::bmV)
 x:XCls K C
 cl:(PySem.W.clsIn K C).isSome=true
 v:PySem.W.kitOne K (.ref C) (.type "ValueError")=some true
abbrev tbX (tb:List<|Str×Bool):Str->bi:=λx=>tb.lookup x
abbrev Zx (F:ae->jK->R A)(d:rR):Ex:=λτ S=>match d τ S with
 | .ok f S1=>F f S1
 | _=>.no
section
variable {d:rR}
abbrev aaD (t:Te)(c d:Sm):Sm:=λτ S=>match t τ S with
 | .ok true S1=>c τ S1
 | .ok false S1=>d τ S1
 | _=>.no
end
abbrev Vs (i:Nat)(cs:ar)(c d:Sm):Sm:=λτ S=>match c τ S with
 | .ex x S1=>if x∈cs then UG i (d (τ.set i<|.exn x) S1)else .no
 | r=>r
abbrev sNo:Sm:=λ_ _=>.no
def HL{X:Cx}{st:aF}:AS X st sNo:=PS.imp NQ λD σ H ⟨ρ,S,τ,R,r,h⟩=>h.elim
def Lk{K:au}{H:Hp}{a:ak}{ns:ag}{F:ae->jK->R A}(hO:TF H)(hS:qK K H a<|ns.map V.int)(h:∃S',F [.frz<|ns.map .int] []=.ok (.bl true) S'):qZ K 1 F [.ref a] H (λv _=>v=.bl true) λ_ _ _=>False:=by
 obtain⟨S',h⟩:=h;have fz:Fz K H a (ns.map V.int):=by
  rcases hS with(h|⟨o,h⟩)|h
  ·rcases hO a with z|⟨ob,xs,z⟩
   ·rw[h]at z;cases z
   ·rw[h]at z;cases z
  ·exact .inl ⟨o,h⟩
  ·exact .inr h
 exact⟨rfl,[],[],_,_,S',⟨rfl,dz,λn a o h=>by simp at h⟩,.cons (.frz fz<|oq ns) .nil,h,λρ' H' v _ _ hv=>EW hv⟩
section
variable {P:aj}{w:ah}{K:au}{mg:Str->bd}{base:aq}{f:ak}{fd:FuncData}{ps:ar}{k n:Nat}
def Xk(h:n=ps.length):FnOk P w K mg base qb k f fd ps (qZ K n λ_ _=>.no):=
 ⟨λ_ _ _ _ z=>z.1.trans h,λ_ _ _ _ _ _ _ _ _ _ _ _ _ z=>by obtain⟨_,_,_,_,_,_,_,_,e,_⟩:=z;cases e⟩
end
def F4{P:ba->Prop}(h:∀a0,P [a0]):∀us:ba,us.length=1->P us
 | [_],_=>h _
def D5{P:ba->Prop}(h:∀a0 a1,P [a0,a1]):∀us:ba,us.length=2->P us
 | [_,_],_=>h _ _
def V5{n:Nat}{us:ba}(h:us.length=n+1):∃a t,us=a::t/\t.length=n:=by
 cases us with
 | nil=>simp at h
 | cons a t=>exact⟨a,t,rfl,by simpa using h⟩
def us3{P:ba->Prop}(h:∀a0 a1 a2,P [a0,a1,a2]):∀us:ba,us.length=3->P us:=λus e=>by
 obtain⟨a0,t0,rfl,e0⟩:=V5 e;obtain⟨a1,d,rfl,e1⟩:=V5 e0;obtain⟨a2,f,rfl,e2⟩:=V5 e1
 cases dZ.mp e2
 exact h _ _ _
end Am
namespace Am
open PySem L2
section
variable {α β:Type}{a b:A}{S S1:jK}{τ:ae}{x:α}
@[simp]def R.mU {f:α->jK->R β}:(R.ok x S).bind f=f x S:=rfl
@[simp]def R.Ik {f:α->jK->R β}{c:Str}:(R.ex c S:R α).bind f=.ex c S:=rfl
@[simp]def R.lA {f:α->jK->R β}:(R.ok x S).oN f=f x S:=rfl
@[simp]def RS.of_ok {f:α->jK->RS}:RS.of (R.ok x S) f=f x S:=rfl
@[simp]def RS.US {f:α->jK->RS}{c:Str}:RS.of (R.ex c S:R α) f=.ex c S:=rfl
@[simp]def jY {f:β->R α}{y:β}:opt (some y) f=f y:=rfl
@[simp]def HN {r:R α}:gd True r=r:=aN trivial
theorem oO{c:Prop}[Decidable c]{r:R α}(h:c):gd c r=r:=aN h
@[simp]def qj {i:Nat}:jG i τ S=bif (τ.getD i .unb).oR then .no else .ok (τ.getD i .unb) S:=by unfold jG;cases(τ.getD i .unb).oR<;>rfl
@[simp]def Ja {xs:ae}:A.oR (.tup xs)=false:=rfl
@[simp]def Ih {xs:ae}:A.oR (.frz xs)=false:=rfl
@[simp]def Je {i:Int}:A.oR (.int i)=false:=rfl
@[simp]def Oa {i:Bool}:A.oR (.bl i)=false:=rfl
@[simp]def Jb {i:Str}:A.oR (.str i)=false:=rfl
@[simp]def JT {i:Nat}:A.oR (.ref i)=false:=rfl
@[simp]def IC:A.oR .non=false:=rfl
@[simp]def HB {i j:Int}:A.oR (.rng i j)=false:=rfl
@[simp]def Jj {c:Str}:A.oR (.exn c)=false:=rfl
@[simp]def UP:eC a τ S=.ok a S:=rfl
abbrev aaA (f:A->A->jK->R A)(cb:Ex)(τ:ae)(a:A)(S:jK):R A:=(cb τ S).bind<|f a
@[simp]def J3 {f:A->A->jK->R A}{cb:Ex}:aaA f cb τ a S=(cb τ S).bind (f a):=rfl
@[simp]def Jf {f:A->A->jK->R A}{ca cb:Ex}:jO f ca cb τ S=(ca τ S).bind (aaA f cb τ):=rfl
@[simp]def Np {f:A->jK->R A}{ca:Ex}:eUn f ca τ S=(ca τ S).bind f:=rfl
@[simp]def Jw {c:Ex}:sI c τ S=(c τ S).bind λa S1=>opt (a.Vc S1) λb=>.ok b S1:=rfl
abbrev aB (a:A)(S:jK):R Bool:=match a with
 | .bl b=>.ok b S
 | _=>.no
@[simp]def UU {b:Bool}:aB (.bl b) S=.ok b S:=rfl
@[simp]def Nt {c:Ex}:qm c τ S=(c τ S).bind aB:=rfl
@[simp]def J6 {c:Te}:Rt c τ S=(c τ S).bind λb S1=>.ok (!b) S1:=rfl
abbrev VS (d:Te)(τ:ae)(b:Bool)(S:jK):R Bool:=match b with|true=>d τ S|false=>.ok false S
abbrev kOr (d:Te)(τ:ae)(b:Bool)(S:jK):R Bool:=match b with|true=>.ok true S|false=>d τ S
@[simp]def MB {d:Te}:VS d τ true S=d τ S:=rfl
@[simp]def OZ {d:Te}:VS d τ false S=.ok false S:=rfl
@[simp]def Vt {d:Te}:kOr d τ true S=.ok true S:=rfl
@[simp]def Vo {d:Te}:kOr d τ false S=d τ S:=rfl
@[simp]def JN {c d:Te}:z8 c d τ S=(c τ S).bind (VS d τ):=rfl
@[simp]def Qd {c d:Te}:YQ c d τ S=(c τ S).bind (kOr d τ):=rfl
@[simp]def Kc:t9 τ S=.ok true S:=rfl
abbrev Mq (d:Ex)(τ:ae)(a:A)(S:jK):R A:=match a with | .bl true=>d τ S | .bl false=>.ok (.bl false) S|_=>.no
abbrev Wa (d:Ex)(τ:ae)(a:A)(S:jK):R A:=match a with | .bl true=>.ok (.bl true) S | .bl false=>d τ S|_=>.no
@[simp]def IE {d:Ex}:Mq d τ (.bl true) S=d τ S:=rfl
@[simp]def IY {d:Ex}:Mq d τ (.bl false) S=.ok (.bl false) S:=rfl
@[simp]def NX {d:Ex}:Wa d τ (.bl true) S=.ok (.bl true) S:=rfl
@[simp]def Oc {d:Ex}:Wa d τ (.bl false) S=d τ S:=rfl
@[simp]def Hv {c d:Ex}:MC c d τ S=(c τ S).bind (Mq d τ):=by
 unfold MC
 cases c τ S with
 | ok a S1=>cases a<;>first|rfl|(rename_i b;cases b<;>rfl)
 | _=>rfl
@[simp]def MV {c d:Ex}:eOr c d τ S=(c τ S).bind (Wa d τ):=by
 unfold eOr
 cases c τ S with
 | ok a S1=>cases a<;>first|rfl|(rename_i b;cases b<;>rfl)
 | _=>rfl
abbrev Vg (a:A)(S:jK):R A:=match a with | .bl b=>.ok (.bl !b) S|_=>.no
@[simp]def D7 {b:Bool}:Vg (.bl b) S=.ok (.bl !b) S:=rfl
@[simp]def IA {c:Ex}:WT c τ S=(c τ S).bind Vg:=rfl
abbrev Yu (c d:Ex)(τ:ae)(b:Bool)(S:jK):R A:=match b with|true=>c τ S|false=>d τ S
@[simp]def Ob {c d:Ex}:Yu c d τ true S=c τ S:=rfl
@[simp]def Mr {c d:Ex}:Yu c d τ false S=d τ S:=rfl
@[simp]def QB {t:Te}{c d:Ex}:eIf t c d τ S=(t τ S).bind (Yu c d τ):=rfl
@[simp]def JD:jR τ S=.ok [] S:=rfl
abbrev Hh (a:A)(as:ae)(S:jK):R (ae):=.ok (a::as) S
abbrev UT (d:rR)(τ:ae)(a:A)(S:jK):R (ae):=(d τ S).bind<|Hh a
@[simp]def B7 {as:ae}:Hh a as S=.ok (a::as) S:=rfl
@[simp]def Ft {d:rR}:UT d τ a S=(d τ S).bind (Hh a):=rfl
@[simp]def EY {c:Ex}{d:rR}:jH c d τ S=(c τ S).bind (UT d τ):=rfl
@[simp]def JI {d:rR}:pL d τ S=(d τ S).bind λas S1=>gd (as.length<=sizeLine) (.ok (.tup as) S1):=rfl
@[simp]def HM {d:rR}:qh d τ S=(d τ S).bind newL:=rfl
theorem l_{as:ae}(h:as.length<=16777216):newL as S=.ok (.ref S.length) (S++[.lst as]):=oO<|by rw[dU];exact h
@[simp]def FU {f:ae->jK->R A}{d:rR}:kC f d τ S=(d τ S).bind f:=rfl
abbrev okR (r:R A):R A:=match r with
 | .ok a S=>.ok a S
 | _=>.no
@[simp]def Ou:okR (.ok a S)=.ok a S:=rfl
abbrev kFn (f:ae->jK->R A)(as:ae)(S:jK):R A:=okR<|f as S
@[simp]def L8 {f:ae->jK->R A}{as:ae}:kFn f as S=okR (f as S):=rfl
@[simp]def OA {f:ae->jK->R A}{d:rR}:eFn f d τ S=(d τ S).bind (kFn f):=rfl
@[simp]def Uy {g:A->jK->R A}:f1 g [a] S=g a S:=rfl
@[simp]def UJ {g:A->A->jK->R A}:f2 g [a,b] S=g a b S:=rfl
abbrev WY (h:Pt)(τ:ae)(a:A)(l:Option Int)(S:jK):R A:=(h τ S).bind<|aSl a l
abbrev kSl (l h:Pt)(τ:ae)(a:A)(S:jK):R A:=(l τ S).bind<|WY h τ a
@[simp]def Kx {h:Pt}{l:Option Int}:WY h τ a l S=(h τ S).bind (aSl a l):=rfl
@[simp]def PF {l h:Pt}:kSl l h τ a S=(l τ S).bind (WY h τ a):=rfl
@[simp]def L4 {c:Ex}{l h:Pt}:eSl c l h τ S=(c τ S).bind (kSl l h τ):=rfl
@[simp]def D9:ZV τ S=.ok none S:=rfl
abbrev aPt (a:A)(S:jK):R (Option Int):=match a with
 | .int i=>.ok (some i) S
 | _=>.no
@[simp]def Hy {i:Int}:aPt (.int i) S=.ok (some i) S:=rfl
@[simp]def ED {c:Ex}:Zf c τ S=(c τ S).bind aPt:=rfl
abbrev W9 (f:A->ae->jK->R A)(d:rR)(τ:ae)(o:A)(S:jK)(_:ae):R A:=(d τ S).bind<|f o
abbrev kMe (f:A->ae->jK->R A)(d:rR)(τ:ae)(o:A)(S:jK):R A:=opt (o.lst? S)<|W9 f d τ o S
@[simp]def HS {f:A->ae->jK->R A}{d:rR}{xs:ae}:W9 f d τ a S xs=(d τ S).bind (f a):=rfl
@[simp]def NU {f:A->ae->jK->R A}{d:rR}:kMe f d τ a S=opt (a.lst? S) (W9 f d τ a S):=rfl
@[simp]def MT {f:A->ae->jK->R A}{c:Ex}{d:rR}:Fx f c d τ S=(c τ S).bind (kMe f d τ):=rfl
@[simp]def HE {f:A->ae->jK->R A}{c:Ex}:XZ f c τ S=(c τ S).bind λo S1=>opt (o.lst? S1) λ_=>f o [] S1:=rfl
@[simp]def lst?_ref {n:Nat}:A.lst? S (.ref n)=jI S n:=rfl
abbrev RS.seq (r:RS)(d:Sm):RS:=match r with
 | .nx τ S=>d τ S
 | r=>r
@[simp]def RS.Qc {d:Sm}:RS.seq (.nx τ S) d=d τ S:=rfl
@[simp]def RS.Pd {d:Sm}:RS.seq (.rt a S) d=.rt a S:=rfl
@[simp]def RS.N_ {d:Sm}{c:Str}:RS.seq (.ex c S) d=.ex c S:=rfl
@[simp]def RS.Qy {d:Sm}:RS.seq (.bk τ S) d=.bk τ S:=rfl
@[simp]def RS.Pp {d:Sm}:RS.seq (.ct τ S) d=.ct τ S:=rfl
@[simp]def Io {c d:Sm}:j6 c d τ S=RS.seq (c τ S) d:=by unfold j6 RS.seq;cases c τ S<;>rfl
@[simp]def H_:r_ τ S=.nx τ S:=rfl
@[simp]def BE:XQ τ S=.bk τ S:=rfl
@[simp]def Fo:ZE τ S=.ct τ S:=rfl
@[simp]def F1 {e:Ex}:m5 e τ S=RS.of (e τ S) λ_ S1=>.nx τ S1:=rfl
@[simp]def HJ {e:Ex}:mh e τ S=RS.of (e τ S) .rt:=rfl
@[simp]def D6:ZD τ S=.rt .non S:=rfl
abbrev kIf (c d:Sm)(τ:ae)(b:Bool)(S:jK):RS:=match b with|true=>c τ S|false=>d τ S
@[simp]def Vq {c d:Sm}:kIf c d τ true S=c τ S:=rfl
@[simp]def Ut {c d:Sm}:kIf c d τ false S=d τ S:=rfl
@[simp]def P9 {t:Te}{c d:Sm}:yP t c d τ S=RS.of (t τ S) (kIf c d τ):=rfl
abbrev Zq (g:Tg)(τ:ae)(a:A)(S:jK):RS:=RS.of (g a τ S) .nx
@[simp]def JH {g:Tg}:Zq g τ a S=RS.of (g a τ S) .nx:=rfl
@[simp]def HC {e:Ex}{g:Tg}:ku e g τ S=RS.of (e τ S) (Zq g τ):=rfl
@[simp]def abT {i:Nat}:j_ i a τ S=.ok (τ.set i a) S:=rfl
abbrev Xz (a o:A)(τ:ae)(i:A)(S:jK):R (ae):=(Eh o i a S).bind λ_ S3=>.ok τ S3
abbrev kSb (ci:Ex)(τ:ae)(a o:A)(S:jK):R (ae):=(ci τ S).bind<|Xz a o τ
@[simp]def J_ {o i:A}:Xz a o τ i S=(Eh o i a S).bind λ_ S3=>.ok τ S3:=rfl
@[simp]def QJ {ci:Ex}{o:A}:kSb ci τ a o S=(ci τ S).bind (Xz a o τ):=rfl
@[simp]def M8 {co ci:Ex}:Vu co ci a τ S=(co τ S).bind (kSb ci τ a):=rfl
@[simp]def P1 {n:Nat}{gs:QZ}{xs:ae}:yC n gs (.tup xs) τ S=gd (xs.length=n) (gs xs τ S):=rfl
@[simp]def Ph:yw [] τ S=.ok τ S:=rfl
@[simp]def PO {g:Tg}{gs:QZ}{as:ae}:qa g gs (a::as) τ S=(g a τ S).bind (gs as):=rfl
abbrev sPr (i j:Nat)(τ:ae)(as:ae)(S:jK):RS:=match as with
 | [a,b]=>.nx ((τ.set i a).set j b) S
 | _=>.no
@[simp]def ML {i j:Nat}:sPr i j τ [a,b] S=.nx ((τ.set i a).set j b) S:=rfl
@[simp]def Kw {i j:Nat}{c:rR}:aa_ i j c τ S=RS.of (c τ S) (sPr i j τ):=rfl
abbrev OV (i:Nat)(τ:ae)(c:A)(S:jK):RS:=.nx (τ.set i c) S
abbrev ZA (i:Nat)(f:A->A->jK->R A)(τ:ae)(b:A)(S:jK):RS:=.of (f (τ.getD i .unb) b S)<|OV i τ
@[simp]def ER {i:Nat}:OV i τ a S=.nx (τ.set i a) S:=rfl
@[simp]def Kf {i:Nat}{f:A->A->jK->R A}:ZA i f τ a S=.of (f (τ.getD i .unb) a S) (OV i τ):=rfl
@[simp]def HP {i:Nat}{f:A->A->jK->R A}{e:Ex}:Qu i f e τ S=bif (τ.getD i .unb).oR then .no else .of (e τ S) (ZA i f τ):=by
 unfold Qu;cases(τ.getD i .unb).oR<;>rfl
abbrev kS5 (o i:A)(τ:ae)(z:A)(S:jK):RS:=.of (Eh o i z S) λ_ d=>.nx τ d
abbrev kS4 (f:A->A->jK->R A)(o i x:A)(τ:ae)(y:A)(S:jK):RS:=.of (f x y S)<|kS5 o i τ
abbrev kS3 (ce:Ex)(f:A->A->jK->R A)(o i:A)(τ:ae)(x:A)(S:jK):RS:=.of (ce τ S)<|kS4 f o i x τ
abbrev kS2 (ce:Ex)(f:A->A->jK->R A)(o:A)(τ:ae)(i:A)(S:jK):RS:=.of (To o i S)<|kS3 ce f o i τ
abbrev kS1 (ci ce:Ex)(f:A->A->jK->R A)(τ:ae)(o:A)(S:jK):RS:=.of (ci τ S)<|kS2 ce f o τ
@[simp]def Pg {o i:A}:kS5 o i τ a S=.of (Eh o i a S) λ_ S6=>.nx τ S6:=rfl
@[simp]def O2 {f:A->A->jK->R A}{o i x:A}:kS4 f o i x τ a S=.of (f x a S) (kS5 o i τ):=rfl
@[simp]def Qi {ce:Ex}{f:A->A->jK->R A}{o i:A}:kS3 ce f o i τ a S=.of (ce τ S) (kS4 f o i a τ):=rfl
@[simp]def QD {ce:Ex}{f:A->A->jK->R A}{o:A}:kS2 ce f o τ a S=.of (To o a S) (kS3 ce f o a τ):=rfl
@[simp]def MX {ci ce:Ex}{f:A->A->jK->R A}:kS1 ci ce f τ a S=.of (ci τ S) (kS2 ce f a τ):=rfl
@[simp]def FN {co ci ce:Ex}{f:A->A->jK->R A}:aat co ci ce f τ S=RS.of (co τ S) (kS1 ci ce f τ):=rfl
abbrev RS.end (r:RS):R A:=match r with
 | .rt a d=>.ok a d
 | .nx _ d=>.ok .non d
 | .ex c d=>.ex c d
 | _=>.no
@[simp]def RS.PM:RS.end (.rt a S)=.ok a S:=rfl
@[simp]def RS.P6:RS.end (.nx τ S)=.ok .non S:=rfl
@[simp]def RS.Pb {c:Str}:RS.end (.ex c S)=.ex c S:=rfl
theorem xh {N:ar}{m:Sm}{as:ae}:lN N m as S=RS.end (m (as++List.replicate (N.length-as.length) .unb) S):=by
 unfold lN RS.end;cases m (as++List.replicate (N.length-as.length) .unb) S<;>rfl
@[simp]def O8 {i j:Int}:mC (.int i) (.int j) S=.ok (.int<|i+j) S:=rfl
@[simp]def MM {i j:Int}:aSub (.int i) (.int j) S=.ok (.int<|i-j) S:=rfl
@[simp]def P_ {i j:Int}:aaX (.int i) (.int j) S=.ok (.int<|i+j) S:=rfl
theorem Mz{i j:Int}(h:-18446744073709551616<i)(h':i<18446744073709551616):zV (.int i) (.int j) S=.ok (.int<|i * j) S:=oO<|by unfold xj;simp;left;exact⟨by omega,by omega⟩
def mul_r{i j:Int}(h:-18446744073709551616<j)(h':j<18446744073709551616):zV (.int i) (.int j) S=.ok (.int<|i * j) S:=oO<|by unfold xj;simp;right;exact⟨(),()⟩
def OI{i j:Int}(h:0<j)(h':j<1073741824):z_ (.int i) (.int j) S=.ok (.int<|i / j) S:=oO ⟨h,()⟩
def W8{i j:Int}(h:0<j)(h':j<18446744073709551616):z_ (.int i) (.int j) S=.ok (.int<|i / j) S:=oO ⟨h,h'⟩
def ET{i j:Int}(h:0<j):CO (.int i) (.int j) S=.ok (.int<|i % j) S:=oO h
@[simp]def Vy {i j:Int}:VO (.int i) (.int j) S=.ok (.bl<|decide<|i<j) S:=rfl
@[simp]def UI {i j:Int}:aLe (.int i) (.int j) S=.ok (.bl<|decide<|i<=j) S:=rfl
@[simp]def U6 {i j:Int}:LU (.int i) (.int j) S=.ok (.bl<|decide<|j<i) S:=rfl
@[simp]def Vb {i j:Int}:aGe (.int i) (.int j) S=.ok (.bl<|decide<|j<=i) S:=rfl
@[simp]def UA {i j:Bool}:GO false (.bl i) (.bl j) S=.ok (.bl<|i == j) S:=rfl
@[simp]def O5 {i j:Bool}:GO true (.bl i) (.bl j) S=.ok (.bl<|i != j) S:=rfl
@[simp]def QI {i:Int}:M6 (.int i) S=.ok (.int<|-i) S:=rfl
@[simp]def Qq {xs:ae}:su (.tup xs) S=.ok (.int xs.length) S:=rfl
@[simp]def Px {xs:ae}:su (.frz xs) S=.ok (.int xs.length) S:=rfl
@[simp]def Nc {n:Nat}:su (.ref n) S=opt (jI S n) λxs=>.ok (.int xs.length) S:=rfl
@[simp]def OO {i:Int}:X7 (.int i) S=.ok (.int<|if i<0 then -i else i) S:=rfl
@[simp]def IW {i j:Int}:Zt (.int i) (.int j) S=.ok (.int<|if j>i then j else i) S:=rfl
@[simp]def Ju {i j:Int}:Z2 (.int i) (.int j) S=.ok (.int<|if j<i then j else i) S:=rfl
@[simp]def Ij {i:Int}:Vf (.int i) S=.ok (.int i) S:=rfl
@[simp]def Jv {i:Bool}:Vf (.bl i) S=.ok (.int<|if i then 1 else 0) S:=rfl
@[simp]def BX {i j:Int}:yZ (.int i) (.int j) S=.ok (.rng i j) S:=rfl
@[simp]def Vz {xs:ae}{i:Int}:nY (.tup xs) (.int i) S=opt (t8 xs i) λx=>.ok x S:=rfl
@[simp]def U7 {xs:ae}{i:Int}:nY (.frz xs) (.int i) S=opt (t8 xs i) λx=>.ok x S:=rfl
@[simp]def UL {n:Nat}{i:Int}:nY (.ref n) (.int i) S=opt (jI S n) λxs=>opt (t8 xs i) λx=>.ok x S:=rfl
@[simp]def Mu {n:Nat}{k:Int}:Eh (.ref n) (.int k) a S=opt (jI S n) λxs=>opt (EK xs.length k) λj=>.ok Unit.unit (S.set n<|.lst<|xs.set j a):=rfl
@[simp]def ON {n:Nat}{i:Int}:To (.ref n) (.int i) S=opt (jI S n) λxs=>gd (0<=i) (opt (xs[i.toNat]?) λx=>.ok x S):=rfl
theorem B0{i j:Int}(h:Bv i j):wR (.rng i j) S=.ok (.ref S.length) (S++[.lst<|(lU i j).map .int]):=oO h
@[simp]def Jt {xs:ae}:wR (.tup xs) S=.ok (.ref S.length) (S++[.lst xs]):=rfl
@[simp]def Hw {xs:ae}:wR (.frz xs) S=.ok (.ref S.length) (S++[.lst xs]):=rfl
@[simp]def J8 {n:Nat}:wR (.ref n) S=opt (jI S n) λxs=>.ok (.ref S.length) (S++[.lst xs]):=rfl
@[simp]def Ew {xs:ae}:wg (.tup xs) S=.ok (.tup xs) S:=rfl
@[simp]def Ef {n:Nat}:wg (.ref n) S=opt (jI S n) λxs=>.ok (.tup xs) S:=rfl
@[simp]def OF {xs:ae}:aac (.tup xs) S=.ok (.tup xs.reverse) S:=rfl
@[simp]def NW {n:Nat}:aac (.ref n) S=opt (jI S n) λxs=>.ok (.ref S.length) (S++[.lst xs.reverse]):=rfl
@[simp]def Vw {n:Nat}{l u:Option Int}:aSl (.ref n) l u S=opt (jI S n) λxs=>.ok (.ref S.length) (S++[.lst<|Ul xs l u]):=rfl
@[simp]def zx {n:Nat}:mV (.ref n) [a] S=opt (jI S n) λxs=>gd (xs.length<sizeLine) (.ok .non<|S.set n<|.lst<|xs++[a]):=rfl
@[simp]def N7 {b:Bool}:A.Vc (.bl b) S=some b:=rfl
@[simp]def Km {i:Int}:A.Vc (.int i) S=some (i != 0):=rfl
theorem DQ{o:O}:(S++[o])[S.length]?=some o:=by simp
@[simp]def jX {xs:ae}:jI (S++[.lst xs]) S.length=some xs:=mQ DQ
theorem kM{o:O}{n:Nat}(h:jI S n=some xs):jI (S++[o]) n=some xs:=by
 have h':=jW h;exact mQ<|by rw[bw (aJ.mp h').1];exact h'
def lB{n:Nat}(h:jI S n=some xs):n<S.length:=(aJ.mp<|jW h).1
def oz{n:Nat}(h:n<S.length):jI (S.set n<|.lst ys) n=some ys:=mQ<|bJ h
def k9{n:Nat}(h:n≠m):jI (S.set n<|.lst ys) m=jI S m:=by unfold jI;rw[bL h]
def Ao{xs:ae}{i:Int}{k:Nat}{x:A}(h:i=k)(hx:xs[k]?=some x):t8 xs i=some x:=by rw[h];exact Rw hx
def zN{n:Nat}{i:Int}{k:Nat}(h:i=k)(hk:k<n):EK n i=some k:=by
 subst h;unfold EK;rw[aN (),aN ()];simp
end
structure Kp (b:Nat->Prop)(S S':jK):Prop where
 len:S.length<=S'.length
 obj:∀(n:Nat) (o:O),¬b n->S[n]?=some o->S'[n]?=some o
meta abbrev ly:=Kp λ_=>False
def Kp.lst{b:Nat->Prop}(h:Kp b S S')(n:Nat)(xs:ae)(hb:¬b n)(e:jI S n=some xs):jI S' n=some xs:=mQ<|h.obj n _ hb<|jW e
def Kp.dct{b:Nat->Prop}(h:Kp b S S')(n:Nat)(xs:List<|ag×A)(hb:¬b n)(e:jZ S n=some xs):jZ S' n=some xs:=qI<|h.obj n _ hb<|lC e
def Kp.refl{b:Nat->Prop}:Kp b S S:=⟨aK _,λ_ _ _ h=>h⟩
def Kp.trans{b:Nat->Prop}(h:Kp b S S1)(h':Kp b S1 S2):Kp b S S2:=⟨bH h.len h'.len,λn xs hb e=>h'.obj n xs hb<|h.obj n xs hb e⟩
def DB{S:jK}{n:Nat}(e:S[n]?=some o):n<S.length:=(aJ.mp e).1
def Kp.lay{b:Nat->Prop}{o:O}(h:Kp b S S1):Kp b S (S1++[o]):=⟨bH h.len<|by simp,λn xs hb e=>by
 have:=h.obj n xs hb e;rw[bw<|DB this];exact this⟩
def Kp.qR{b:Nat->Prop}{S S1:jK}(h:Kp b S S1)(hm:b m\/S.length<=m):Kp b S (S1.set m o):=⟨by rw[bV];exact h.len,λn xs hb e=>by
 have:m≠n:=λz=>by
  subst z
  rcases hm with z|z
  ·exact hb z
  ·exact absurd (DB e) ()
 rw[bL this];exact h.obj n xs hb e⟩
def Kp.set{b:Nat->Prop}{S S1:jK}(h:Kp b S S1)(hm:b m\/S.length<=m):Kp b S (S1.set m<|.lst ys):=h.qR hm
def Kp.mono{b c:Nat->Prop}{S:jK}(h:Kp b S S1)(hb:∀n,n<S.length->b n->c n):Kp c S S1:=⟨h.len,λn xs hc e=>h.obj n xs (λz=>hc<|hb n (DB e) z) e⟩
def Kp.of0{b:Nat->Prop}(h:ly S S1):Kp b S S1:=h.mono λ_ _ z=>z.elim
def Kp.old{b c:Nat->Prop}{S:jK}(h:Kp b S S1)(h':Kp c S1 S2)(hc:∀n,n<S.length->¬b n->¬c n):Kp b S S2:=⟨bH h.len h'.len,λn xs hb e=>h'.obj n xs (hc n (DB e) hb)<|h.obj n xs hb e⟩
theorem zR{t:Te}{c:Sm}(Inv:ae->jK->Prop)(μ:ae->jK->Nat)(Post:RS->Prop)
  (h:∀τ S,Inv τ S->(∃S1,t τ S=.ok false S1/\Post (.nx τ S1))\/(∃S1,t τ S=.ok true S1/\((∃τ' S',c τ S1=.nx τ' S'/\Inv τ' S'/\μ τ' S'<μ τ S)\/(∃a S',c τ S1=.rt a S'/\Post (.rt a S'))))) :
  ∀n τ S,Inv τ S->μ τ S<n->Post (kK t c n τ S)
 | 0,_,_,_,hn=>absurd hn (fR _)
 | n+1,τ,S,f,hn=>by
  unfold kK
  rcases h τ S f with⟨S1,e,q⟩|⟨S1,e,⟨τ',S',e2,d,g⟩|⟨a,S',e2,q⟩⟩
  ·rw[e];exact q
  ·rw[e];show Post (match c τ S1 with
    | .nx τ' S'=>kK t c n τ' S'
    | .ct τ' S'=>kK t c n τ' S'
    | .bk τ' S'=>.nx τ' S'
    | r=>r)
   rw[e2];exact zR Inv μ Post h n τ' S' d ()
  ·rw[e];show Post (match c τ S1 with
    | .nx τ' S'=>kK t c n τ' S'
    | .ct τ' S'=>kK t c n τ' S'
    | .bk τ' S'=>.nx τ' S'
    | r=>r)
   rw[e2];exact q
theorem Dl{s:Src}{g:Tg}{c:Sm}(Inv:Nat->ae->jK->Prop)(Post:RS->Prop)
  (step:∀i τ S,i<s.k->Inv i τ S->∃x τ1 S1,s.get i S=some x/\g x τ S=.ok τ1 S1/\((∃τ' S',c τ1 S1=.nx τ' S'/\Inv (i+1) τ' S')\/(∃a S',c τ1 S1=.rt a S'/\Post (.rt a S'))))
  (fin:∀τ S,Inv s.k τ S->s.fin S=true/\Post (.nx τ S)):∀k i τ S,k+i=s.k->Inv i τ S->Post (rK s g c k i τ S)
 | 0,i,τ,S,hk,hi=>by
  have:i=s.k:=()
  subst this;obtain⟨hf,q⟩:=fin τ S hi;unfold rK;rw[aN hf];exact q
 | k+1,i,τ,S,hk,hi=>by
  obtain⟨x,τ1,S1,f,hg,h⟩:=step i τ S () hi;unfold rK;rw[f];show Post (RS.of (g x τ S) λτ1 S1=>match c τ1 S1 with
   | .nx τ' S'=>rK s g c k (i+1) τ' S'
   | .ct τ' S'=>rK s g c k (i+1) τ' S'
   | .bk τ' S'=>.nx τ' S'
   | r=>r)
  rw[hg];show Post (match c τ1 S1 with
   | .nx τ' S'=>rK s g c k (i+1) τ' S'
   | .ct τ' S'=>rK s g c k (i+1) τ' S'
   | .bk τ' S'=>.nx τ' S'
   | r=>r)
  rcases h with⟨τ',S',e,d⟩|⟨a,S',e,q⟩
  ·rw[e];exact Dl Inv Post step fin k (i+1) τ' S' () d
  ·rw[e];exact q
def zg{lo hi:Int}{c:Sm}{src:Ic}{τ:ae}(hs:src τ S=.ok (tR lo hi) S1)(Inv:Nat->ae->jK->Prop)(Post:RS->Prop)(h0:Inv 0 τ S1)
  (step:∀(i:Nat) τ S,(i:Int)<hi-lo->Inv i τ S->(∃τ' S',c (τ.set j<|.int<|lo+i) S=.nx τ' S'/\Inv (i+1) τ' S')\/(∃a S',c (τ.set j<|.int<|lo+i) S=.rt a S'/\Post (.rt a S')))
  (fin:∀τ S,Inv (hi-lo).toNat τ S->Post (.nx τ S)):Post (lV src (j_ j) c τ S):=by
 unfold lV;rw[hs];refine Dl (s:=tR lo hi) Inv Post (λi τ S d h=>?_) (λτ S h=>⟨rfl,fin τ S h⟩) _ 0 τ S1 rfl h0;have d:i<(hi-lo).toNat:=d;exact⟨.int<|lo+i,_,S,aN d,rfl,step i τ S (by omega) h⟩
def VD{xs:ae}{g:Tg}{c:Sm}{src:Ic}(hs:src τ S=.ok (zu xs) S1)(Inv:Nat->ae->jK->Prop)(Post:RS->Prop)(h0:Inv 0 τ S1)
  (step:∀(i:Nat) x τ S,xs[i]?=some x->Inv i τ S->∃τ1 S1,g (.tup [.int i,x]) τ S=.ok τ1 S1/\((∃τ' S',c τ1 S1=.nx τ' S'/\Inv (i+1) τ' S')\/(∃a S',c τ1 S1=.rt a S'/\Post (.rt a S'))))
  (fin:∀τ S,Inv xs.length τ S->Post (.nx τ S)):Post (lV src g c τ S):=by
 unfold lV;rw[hs];refine Dl (s:=zu xs) Inv Post (λi τ S d h=>?_) (λτ S h=>⟨rfl,fin τ S h⟩) _ 0 τ S1 rfl h0;have d:i<xs.length:=d;obtain⟨τ1,S1,e,q⟩:=step i xs[i] τ S (aI d) h;exact⟨.tup [.int i,xs[i]],τ1,S1,by show(xs[i]?).map _=_;rw[aI d];rfl,e,q⟩
def nJ{n:Nat}{xs:ae}{g:Tg}{c:Sm}{src:Ic}(hs:src τ S=.ok (lD n xs.length) S1)(Inv:Nat->ae->jK->Prop)(Post:RS->Prop)(h0:Inv 0 τ S1)(hl:∀i τ S,Inv i τ S->jI S n=some xs)
  (step:∀(i:Nat) x τ S,xs[i]?=some x->Inv i τ S->∃τ1 S1,g x τ S=.ok τ1 S1/\((∃τ' S',c τ1 S1=.nx τ' S'/\Inv (i+1) τ' S')\/(∃a S',c τ1 S1=.rt a S'/\Post (.rt a S'))))
  (fin:∀τ S,Inv xs.length τ S->Post (.nx τ S)):Post (lV src g c τ S):=by
 unfold lV;rw[hs];refine Dl (s:=lD n xs.length) Inv Post (λi τ S d h=>?_) (λτ S h=>⟨?_,fin τ S h⟩) _ 0 τ S1 rfl h0
 ·have d:i<xs.length:=d;obtain⟨τ1,S1,e,q⟩:=step i xs[i] τ S (aI d) h;exact⟨xs[i],τ1,S1,by show(jI S n).bind _=_;rw[hl i τ S h];exact aI d,e,q⟩
 ·show(match jI S n with
   | some ys=>decide (ys.length<=xs.length)
   | none=>false)=true
  rw[hl _ τ S h];exact bg<|aK _
@[simp]def uh {c:Ex}{τ:ae}{S S1:jK}{j:Int}(h:c τ S=.ok (.int j) S1)(hb:bnd j):qM c τ S=.ok (tR 0 j) S1:=by
 unfold qM;rw[h];exact oO hb
def AB{c d:Ex}{i j:Int}(h:c τ S=.ok (.int i) S1)(h':d τ S1=.ok (.int j) S2)(hb:bnd i)(hb':bnd j):vL c d τ S=.ok (tR i j) S2:=by
 unfold vL;rw[h];show(d τ S1).bind _=_;rw[h'];exact oO ⟨hb,hb'⟩
def mw{c:Ex}{n:Nat}{xs:ae}(h:c τ S=.ok (.ref n) S1)(hl:jI S1 n=some xs):mP c τ S=.ok (lD n xs.length) S1:=by
 unfold mP;rw[h];show opt (jI S1 n) _=_;rw[hl];rfl
def NY{c:Ex}(h:c τ S=.ok (.tup xs) S1):AZ c τ S=.ok (zu xs) S1:=by unfold AZ;rw[h];rfl
theorem vq{s:Src}{g:Tg}{t:Te}{e:Ex}{P:jK->Prop}{T:ae->Prop}(it:Nat->A)(p:Nat->Bool)(f:Nat->A)
  (hget:∀i S,i<s.k->P S->s.get i S=some (it i)) (hfin:∀S,P S->s.fin S=true)
  (step:∀i τ S,i<s.k->T τ->P S->∃τ1 S1 S2,g (it i) τ S=.ok τ1 S1/\t τ1 S1=.ok (p i) S2/\T τ1/\(p i=false->P S2)/\(p i=true->∃S3,e τ1 S2=.ok (f i) S3/\P S3)) :
  ∀k i τ S,k+i=s.k->T τ->P S->∃S',qQ s g t e k i τ S=.ok (((List.range' i k).filter p).map f) S'/\P S'
 | 0,i,τ,S,hk,hT,hP=>⟨S,by unfold qQ;rw[aN<|hfin S hP];rfl,hP⟩
 | k+1,i,τ,S,hk,hT,hP=>by
  obtain⟨τ1,S1,S2,hg,B,d,F,j⟩:=step i τ S (by omega) hT hP;unfold qQ;rw[hget i S (by omega) hP,jY,hg,R.lA,B,R.lA,List.range'_succ,gp]
  cases z:p i with
  | false=>
   obtain⟨S',h1,h2⟩:=vq it p f hget hfin step k (i+1) τ1 S2 (by omega) d<|F z;exact⟨S',by simpa using h1,h2⟩
  | true=>
   obtain⟨S3,C,q⟩:=j z;obtain⟨S',h1,h2⟩:=vq it p f hget hfin step k (i+1) τ1 S3 (by omega) d q;refine⟨S',?_,h2⟩
   skip
   rw[C,R.lA,h1];rfl
def yj{s:Src}{src:Ic}{t:Te}{e:Ex}{S1:jK}(hs:src τ S=.ok s S1)(it:Nat->A)(p:Nat->Bool)(f:Nat->A)(hget:∀i,i<s.k->s.get i S1=some (it i))(hfin:s.fin S1=true)
  (ht:∀i,i<s.k->t (it i::lX cap τ) S1=.ok (p i) S1) (he:∀i,i<s.k->p i=true->e (it i::lX cap τ) S1=.ok (f i) S1) (hl:s.k<=16777216) :
  kH (none::cap) src (j_ 0) t e τ S=.ok (.ref S1.length) (S1++[.lst<|((List.range s.k).filter p).map f]):=by
 unfold kH;rw[hs,R.mU];obtain⟨z,h1,h2⟩:=vq (s:=s) (g:=j_ 0) (t:=t) (e:=e) (P:=λS=>S=S1) (T:=λd=>∃y,d=y::lX cap τ) it p f (λi S j h=>by subst h;exact hget i j) (λS h=>by subst h;exact hfin)
  (λi d S j ⟨y,hy⟩ h=>by
   subst h hy;exact⟨it i::lX cap τ,S,S,rfl,ht i j,⟨_,rfl⟩,λ_=>rfl,λq=>⟨S,he i j q,rfl⟩⟩) s.k 0 (lX (none::cap) τ) S1 rfl ⟨_,rfl⟩ rfl
 subst h2;rw[h1,R.lA,fj];refine l_ ?_;rw[aG];refine bH (cM _ _) ?_;rw[List.length_range'];exact hl
def nk{α β:Type}(xs:List α)(p:α->Bool)(f:α->β):∀(d:α) ,(((List.range xs.length).filter λi=>p<|xs.getD i d).map λi=>f<|xs.getD i d)=(xs.filter p).map f:=by
 intro d
 induction xs with
 | nil=>rfl
 | cons x xs j=>
  rw[bG,List.range_succ_eq_map,gp,gp];have e:((List.filter (λi=>p<|(x::xs).getD i d)<|List.map Nat.succ<|List.range xs.length).map λi=>f<|(x::xs).getD i d)=(xs.filter p).map f:=by
   rw[dI,bz];rw[<- j];rfl
  show List.map _ (if p x=true then _ else _)=List.map f (if p x=true then _ else _);by_cases g:p x=true
  ·rw[aN g,aN g,bI,bI,e];rfl
  ·rw[aM g,aM g,e]
def L_{xs:ae}{src:Ic}{t:Te}{e:Ex}{S1:jK}(hs:src τ S=.ok (pU xs) S1)(p:A->Bool)(f:A->A)
  (ht:∀x∈xs,t (x::lX cap τ) S1=.ok (p x) S1) (he:∀x∈xs,p x=true->e (x::lX cap τ) S1=.ok (f x) S1) (hl:xs.length<=16777216) :
  kH (none::cap) src (j_ 0) t e τ S=.ok (.ref S1.length) (S1++[.lst<|(xs.filter p).map f]):=by
 have g:∀i,i<xs.length->xs.getD i .unb∈xs:=λi d=>by
  rw[aL,aI d];exact eG d
 rw[yj hs (λi=>xs.getD i .unb) (λi=>p<|xs.getD i .unb) (λi=>f<|xs.getD i .unb) (λi d=>by
  have d:i<xs.length:=d;show xs[i]?=_;rw[aL,aI d];rfl) rfl (λi d=>ht _<|g i d) (λi d=>he _<|g i d) hl]
 have:=nk xs p f .unb;show R.ok _ (S1++[O.lst<|((List.range xs.length).filter _).map _])=_;rw[this]
def zy{lo hi:Int}{src:Ic}{t:Te}{e:Ex}{S1:jK}(hs:src τ S=.ok (tR lo hi) S1)(p:Int->Bool)(f:Int->A)
  (ht:∀k,lo<=k->k<hi->t (.int k::lX cap τ) S1=.ok (p k) S1) (he:∀k,lo<=k->k<hi->p k=true->e (.int k::lX cap τ) S1=.ok (f k) S1) (hl:(hi-lo).toNat<=16777216) :
  kH (none::cap) src (j_ 0) t e τ S=.ok (.ref S1.length) (S1++[.lst<|((lU lo hi).filter p).map f]):=by
 rw[yj hs (λi=>.int<|lo+i) (λi=>p<|lo+i) (λi=>f<|lo+i) (λi d=>aN d) rfl (λi d=>ht _ () (by have:i<(hi-lo).toNat:=d;lia)) (λi d=>he _ () (by have:i<(hi-lo).toNat:=d;lia)) hl];unfold lU;rw[dI,bz];rfl
@[simp]def QA {cap:List<|bj}{τ:ae}:lX (none::cap) τ=.unb::lX cap τ:=rfl
@[simp]def Ms {cap:List<|bj}{τ:ae}{j:Nat}:lX (some j::cap) τ=τ.getD j .unb::lX cap τ:=rfl
@[simp]def Fp {τ:ae}:lX [] τ=[]:=rfl
theorem xx{x:A}:t8 (x::xs) 0=some x:=Ao (k:=0) rfl rfl
def P0{x:A}:t8 (x::y::xs) 1=some y:=Ao (k:=1) rfl rfl
def C6{ns:ag}{i:Int}{k:Nat}{x:Int}(h:i=k)(hx:ns[k]?=some x):t8 (ns.map A.int) i=some (.int x):=Ao h<|by rw[aX,hx];rfl
def qz{j:Int}(h:-4611686018427387904<=j)(h':j<4611686018427387904):bnd j:=⟨(),()⟩
def FO{i j:Int}(h1:-1000000<=i)(h2:i<=1000000)(h3:-1000000<=j)(h4:j<=1000000)(h5:j-i<=1000):Bv i j:=⟨⟨(),(),(),()⟩,()⟩
theorem ints_map:∀(ns:ag),A.ints (ns.map .int)=some ns
 | []=>rfl
 | n::ns=>by show(A.ints<|ns.map .int).map (n::·)=_;rw[ints_map ns];rfl
theorem se{n:Nat}:∀(xs ys:ag),sF (vJ S<|n+1) (xs.map .int) (ys.map .int)=some (decide<|xs=ys)
 | [],[]=>rfl
 | [],_::_=>rfl
 | _::_,[]=>rfl
 | x::xs,y::ys=>by
  skip
  skip
  show Option.map _ (sF (vJ S<|n+1) (xs.map .int)<|ys.map .int)=_;rw[se xs ys]
  skip
  by_cases h1:x=y<;>by_cases h2:xs=ys<;>simp[h1,h2]
@[simp]def UN {S:jK}{x y:Bool}:uc false (.bl x) (.bl y) S=.ok (.bl<|x == y) S:=rfl
@[simp]def Uv {S:jK}{x y:Bool}:uc true (.bl x) (.bl y) S=.ok (.bl<|!(x == y)) S:=rfl
@[simp]def UQ {S:jK}{x y:Int}:uc false (.int x) (.int y) S=.ok (.bl<|x == y) S:=rfl
@[simp]def Vn {S:jK}{x y:Int}:uc true (.int x) (.int y) S=.ok (.bl<|!(x == y)) S:=rfl
@[simp]def Jh {S:jK}:GO false .non .non S=.ok (.bl true) S:=rfl
@[simp]def IJ {S:jK}{xs:ae}:GO false (.tup xs) .non S=.ok (.bl false) S:=rfl
@[simp]def IX {S:jK}{n:Nat}:GO false (.ref n) .non S=.ok (.bl false) S:=rfl
@[simp]def FD {S:jK}:GO true .non .non S=.ok (.bl false) S:=rfl
@[simp]def Ea {S:jK}{xs:ae}:GO true (.tup xs) .non S=.ok (.bl true) S:=rfl
@[simp]def E8 {S:jK}{n:Nat}:GO true (.ref n) .non S=.ok (.bl true) S:=rfl
@[simp]def I0 {S:jK}{x:A}{c:String}:TX x (.ty c) S=opt (x.kd S) λk=>opt (Lx k c) λb=>.ok (.bl b) S:=rfl
@[simp]def UX {S:jK}{b:Bool}:A.kd (.bl b) S=some .bl:=rfl
@[simp]def Qs {S:jK}{b:Int}:A.kd (.int b) S=some .int:=rfl
@[simp]def Of {S:jK}{b:ae}:A.kd (.tup b) S=some .tup:=rfl
@[simp]def Oq {S:jK}:A.kd .non S=some .non:=rfl
@[simp]def Qe {S:jK}{b:Str}:A.kd (.str b) S=some .str:=rfl
@[simp]def MA {S:jK}{n:Nat}:A.kd (.ref n) S=(jI S n).map λ_=>.lst:=rfl
@[simp]def Qf {S:jK}:newL [] S=.ok (.ref S.length) (S++[.lst []]):=l_<|by simp
@[simp]def QK {S:jK}{x0:A}:newL [x0] S=.ok (.ref S.length) (S++[.lst [x0]]):=l_<|by simp
@[simp]def Pk {S:jK}{x0 x1:A}:newL [x0,x1] S=.ok (.ref S.length) (S++[.lst [x0,x1]]):=l_<|by simp
@[simp]def N9 {S:jK}{x0 x1 x2:A}:newL [x0,x1,x2] S=.ok (.ref S.length) (S++[.lst [x0,x1,x2]]):=l_<|by simp
@[simp]def O9 {S:jK}{x0 x1 x2 x3:A}:newL [x0,x1,x2,x3] S=.ok (.ref S.length) (S++[.lst [x0,x1,x2,x3]]):=l_<|by simp
@[simp]def Pr {S:jK}{x0 x1 x2 x3 x4:A}:newL [x0,x1,x2,x3,x4] S=.ok (.ref S.length) (S++[.lst [x0,x1,x2,x3,x4]]):=l_<|by simp
@[simp]def M9 {S:jK}{x0 x1 x2 x3 x4 x5:A}:newL [x0,x1,x2,x3,x4,x5] S=.ok (.ref S.length) (S++[.lst [x0,x1,x2,x3,x4,x5]]):=l_<|by simp
@[simp]def Ma {S:jK}{x0 x1 x2 x3 x4 x5 x6:A}:newL [x0,x1,x2,x3,x4,x5,x6] S=.ok (.ref S.length) (S++[.lst [x0,x1,x2,x3,x4,x5,x6]]):=l_<|by simp
@[simp]def Ni {S:jK}{x0 x1 x2 x3 x4 x5 x6 x7:A}:newL [x0,x1,x2,x3,x4,x5,x6,x7] S=.ok (.ref S.length) (S++[.lst [x0,x1,x2,x3,x4,x5,x6,x7]]):=l_<|by simp
@[simp]def MR {S:jK}{x0 x1 x2 x3 x4 x5 x6 x7 x8:A}:newL [x0,x1,x2,x3,x4,x5,x6,x7,x8] S=.ok (.ref S.length) (S++[.lst [x0,x1,x2,x3,x4,x5,x6,x7,x8]]):=l_<|by simp
@[simp]def JW {S:jK}{x0 x1 x2 x3 x4 x5 x6 x7 x8 x9:A}:newL [x0,x1,x2,x3,x4,x5,x6,x7,x8,x9] S=.ok (.ref S.length) (S++[.lst [x0,x1,x2,x3,x4,x5,x6,x7,x8,x9]]):=l_<|by simp
theorem pX{α:Type}{n:Nat}{r:R α}(h:n<=16777216):gd (n<=sizeLine) r=r:=oO<|by rw[dU];exact h
def pI{α:Type}{n:Nat}{r:R α}(h:n<16777216):gd (n<sizeLine) r=r:=oO<|by rw[dU];exact h
def UC {x:A}{xs:ae}:(x::xs).getD 0 .unb=x:=rfl
def Vh {x:A}{xs:ae}{n:Nat}:(x::xs).getD (n+1) .unb=xs.getD n .unb:=rfl
def Z_ {x y:A}{xs:ae}:(x::xs).set 0 y=y::xs:=rfl
def sets {x y:A}{xs:ae}{n:Nat}:(x::xs).set (n+1) y=x::xs.set n y:=rfl
def rep0 {x:A}:List.replicate 0 x=[]:=rfl
def reps {x:A}{n:Nat}:List.replicate (n+1) x=x::List.replicate n x:=rfl
def Za {x:A}{xs ys:ae}:(x::xs)++ys=x::(xs++ys):=rfl
def Zd {ys:ae}:[]++ys=ys:=rfl
def Uu{S:jK}{n:Nat}{xs ys:ae}(h:jI S n=some xs)(h':jI S m=some ys)(hl:xs.length+ys.length<=16777216):mC (.ref n) (.ref m) S=.ok (.ref S.length) (S++[.lst<|xs++ys]):=by
 show opt (jI S n) _=_;rw[h,jY,h',jY];exact oO<|by rw[dU];exact hl
abbrev uV (x:A)(S:jK):R A:=bif x.oR then .no else .ok x S
def Qa {xs:ae}{S:jK}:uV (.tup xs) S=.ok (.tup xs) S:=rfl
def NZ {xs:ae}{S:jK}:uV (.frz xs) S=.ok (.frz xs) S:=rfl
def NI {i:Int}{S:jK}:uV (.int i) S=.ok (.int i) S:=rfl
def Vr {b:Bool}{S:jK}:uV (.bl b) S=.ok (.bl b) S:=rfl
def Ox {s:Str}{S:jK}:uV (.str s) S=.ok (.str s) S:=rfl
def O3 {n:Nat}{S:jK}:uV (.ref n) S=.ok (.ref n) S:=rfl
def Me  {S:jK}:uV (.non) S=.ok (.non) S:=rfl
def Qg {i j:Int}{S:jK}:uV (.rng i j) S=.ok (.rng i j) S:=rfl
def O4 {s:Str}{S:jK}:uV (.exn s) S=.ok (.exn s) S:=rfl
def eV0 {x0:A}{xs:ae}{S:jK}:jG 0 (x0::xs) S=uV x0 S:=qj
def eV1 {x0 x1:A}{xs:ae}{S:jK}:jG 1 (x0::x1::xs) S=uV x1 S:=qj
def eV2 {x0 x1 x2:A}{xs:ae}{S:jK}:jG 2 (x0::x1::x2::xs) S=uV x2 S:=qj
def eV3 {x0 x1 x2 x3:A}{xs:ae}{S:jK}:jG 3 (x0::x1::x2::x3::xs) S=uV x3 S:=qj
def eV4 {x0 x1 x2 x3 x4:A}{xs:ae}{S:jK}:jG 4 (x0::x1::x2::x3::x4::xs) S=uV x4 S:=qj
def eV5 {x0 x1 x2 x3 x4 x5:A}{xs:ae}{S:jK}:jG 5 (x0::x1::x2::x3::x4::x5::xs) S=uV x5 S:=qj
def eV6 {x0 x1 x2 x3 x4 x5 x6:A}{xs:ae}{S:jK}:jG 6 (x0::x1::x2::x3::x4::x5::x6::xs) S=uV x6 S:=qj
def eV7 {x0 x1 x2 x3 x4 x5 x6 x7:A}{xs:ae}{S:jK}:jG 7 (x0::x1::x2::x3::x4::x5::x6::x7::xs) S=uV x7 S:=qj
def eV8 {x0 x1 x2 x3 x4 x5 x6 x7 x8:A}{xs:ae}{S:jK}:jG 8 (x0::x1::x2::x3::x4::x5::x6::x7::x8::xs) S=uV x8 S:=qj
def gN0 {a x0:A}{xs:ae}{S:jK}:j_ 0 a (x0::xs) S=.ok (a::xs) S:=rfl
def gN1 {a x0 x1:A}{xs:ae}{S:jK}:j_ 1 a (x0::x1::xs) S=.ok (x0::a::xs) S:=rfl
def gN2 {a x0 x1 x2:A}{xs:ae}{S:jK}:j_ 2 a (x0::x1::x2::xs) S=.ok (x0::x1::a::xs) S:=rfl
def gN3 {a x0 x1 x2 x3:A}{xs:ae}{S:jK}:j_ 3 a (x0::x1::x2::x3::xs) S=.ok (x0::x1::x2::a::xs) S:=rfl
def gN4 {a x0 x1 x2 x3 x4:A}{xs:ae}{S:jK}:j_ 4 a (x0::x1::x2::x3::x4::xs) S=.ok (x0::x1::x2::x3::a::xs) S:=rfl
def gN5 {a x0 x1 x2 x3 x4 x5:A}{xs:ae}{S:jK}:j_ 5 a (x0::x1::x2::x3::x4::x5::xs) S=.ok (x0::x1::x2::x3::x4::a::xs) S:=rfl
def gN6 {a x0 x1 x2 x3 x4 x5 x6:A}{xs:ae}{S:jK}:j_ 6 a (x0::x1::x2::x3::x4::x5::x6::xs) S=.ok (x0::x1::x2::x3::x4::x5::a::xs) S:=rfl
def gN7 {a x0 x1 x2 x3 x4 x5 x6 x7:A}{xs:ae}{S:jK}:j_ 7 a (x0::x1::x2::x3::x4::x5::x6::x7::xs) S=.ok (x0::x1::x2::x3::x4::x5::x6::a::xs) S:=rfl
def gN8 {a x0 x1 x2 x3 x4 x5 x6 x7 x8:A}{xs:ae}{S:jK}:j_ 8 a (x0::x1::x2::x3::x4::x5::x6::x7::x8::xs) S=.ok (x0::x1::x2::x3::x4::x5::x6::x7::a::xs) S:=rfl
def kg:type_of% (anI @R.mU<|anI @R.Ik<|anI @R.lA<|anI @RS.of_ok<|anI @RS.US<|anI @jY<|anI @HN<|anI @eV0<|anI @eV1<|anI @eV2<|anI @eV3<|anI @eV4<|anI @eV5<|anI @eV6<|anI @eV7<|anI @eV8<|anI @Qa<|anI @NZ<|anI @NI<|anI @Vr<|anI @Ox<|anI @O3<|anI @Me<|anI @Qg<|anI @O4<|anI @Ja<|anI @Ih<|anI @Je<|anI @Oa<|anI @Jb<|anI @JT<|anI @IC<|anI @HB<|anI @Jj<|anI @UP<|anI @Jf<|anI @Np<|anI @Jw<|anI @UU<|anI @Nt<|anI @J6<|anI @JN<|anI @Qd<|anI @Kc<|anI @IE<|anI @IY<|anI @NX<|anI @Oc<|anI @Hv<|anI @MV<|anI @D7<|anI @IA<|anI @QB<|anI @JD<|anI @EY<|anI @JI<|anI @HM<|anI @FU<|anI @Ou<|anI @OA<|anI @Uy<|anI @UJ<|anI @L4<|anI @D9<|anI @Hy<|anI @ED<|anI @MT<|anI @HE<|anI @lst?_ref<|anI @RS.Qc<|anI @RS.Pd<|anI @RS.N_<|anI @RS.Qy<|anI @RS.Pp<|anI @Io<|anI @H_<|anI @BE<|anI @Fo<|anI @F1<|anI @HJ<|anI @D6<|anI @P9<|anI @HC<|anI @gN0<|anI @gN1<|anI @gN2<|anI @gN3<|anI @gN4<|anI @gN5<|anI @gN6<|anI @gN7<|anI @gN8<|anI @M8<|anI @P1<|anI @Ph<|anI @PO<|anI @ML<|anI @Kw<|anI @HP<|anI @FN<|anI @RS.PM<|anI @RS.P6<|anI @RS.Pb<|anI @O8<|anI @MM<|anI @P_<|anI @Vy<|anI @UI<|anI @U6<|anI @Vb<|anI @UA<|anI @O5<|anI @QI<|anI @Qq<|anI @Px<|anI @Nc<|anI @OO<|anI @IW<|anI @Ju<|anI @Ij<|anI @Jv<|anI @BX<|anI @Vz<|anI @U7<|anI @UL<|anI @Mu<|anI @ON<|anI @Jt<|anI @Hw<|anI @J8<|anI @Ew<|anI @Ef<|anI @OF<|anI @NW<|anI @Vw<|anI @zx<|anI @N7<|anI @Km<|anI @jX<|anI @QA<|anI @Ms<|anI @Fp<|anI @UN<|anI @Uv<|anI @UQ<|anI @Vn<|anI @Jh<|anI @IJ<|anI @IX<|anI @FD<|anI @Ea<|anI @E8<|anI @I0<|anI @UX<|anI @Qs<|anI @Of<|anI @Oq<|anI @Qe<|anI @MA<|anI @Qf<|anI @QK<|anI @Pk<|anI @N9<|anI @O9<|anI @Pr<|anI @M9<|anI @Ma<|anI @Ni<|anI @MR<|anI @JW<|anI @UC<|anI @Vh<|anI @Z_<|anI @sets<|anI @rep0<|anI @reps<|anI @Za<|anI @Zd<|anI @xh<|anI @J3<|anI @MB<|anI @OZ<|anI @Vt<|anI @Vo<|anI @Ob<|anI @Mr<|anI @B7<|anI @Ft<|anI @L8<|anI @Kx<|anI @PF<|anI @HS<|anI @NU<|anI @Vq<|anI @Ut<|anI @JH<|anI @J_<|anI @QJ<|anI @ER<|anI @Kf<|anI @MX<|anI @QD<|anI @Qi<|anI @O2<|@Pg):=anI @R.mU<|anI @R.Ik<|anI @R.lA<|anI @RS.of_ok<|anI @RS.US<|anI @jY<|anI @HN<|anI @eV0<|anI @eV1<|anI @eV2<|anI @eV3<|anI @eV4<|anI @eV5<|anI @eV6<|anI @eV7<|anI @eV8<|anI @Qa<|anI @NZ<|anI @NI<|anI @Vr<|anI @Ox<|anI @O3<|anI @Me<|anI @Qg<|anI @O4<|anI @Ja<|anI @Ih<|anI @Je<|anI @Oa<|anI @Jb<|anI @JT<|anI @IC<|anI @HB<|anI @Jj<|anI @UP<|anI @Jf<|anI @Np<|anI @Jw<|anI @UU<|anI @Nt<|anI @J6<|anI @JN<|anI @Qd<|anI @Kc<|anI @IE<|anI @IY<|anI @NX<|anI @Oc<|anI @Hv<|anI @MV<|anI @D7<|anI @IA<|anI @QB<|anI @JD<|anI @EY<|anI @JI<|anI @HM<|anI @FU<|anI @Ou<|anI @OA<|anI @Uy<|anI @UJ<|anI @L4<|anI @D9<|anI @Hy<|anI @ED<|anI @MT<|anI @HE<|anI @lst?_ref<|anI @RS.Qc<|anI @RS.Pd<|anI @RS.N_<|anI @RS.Qy<|anI @RS.Pp<|anI @Io<|anI @H_<|anI @BE<|anI @Fo<|anI @F1<|anI @HJ<|anI @D6<|anI @P9<|anI @HC<|anI @gN0<|anI @gN1<|anI @gN2<|anI @gN3<|anI @gN4<|anI @gN5<|anI @gN6<|anI @gN7<|anI @gN8<|anI @M8<|anI @P1<|anI @Ph<|anI @PO<|anI @ML<|anI @Kw<|anI @HP<|anI @FN<|anI @RS.PM<|anI @RS.P6<|anI @RS.Pb<|anI @O8<|anI @MM<|anI @P_<|anI @Vy<|anI @UI<|anI @U6<|anI @Vb<|anI @UA<|anI @O5<|anI @QI<|anI @Qq<|anI @Px<|anI @Nc<|anI @OO<|anI @IW<|anI @Ju<|anI @Ij<|anI @Jv<|anI @BX<|anI @Vz<|anI @U7<|anI @UL<|anI @Mu<|anI @ON<|anI @Jt<|anI @Hw<|anI @J8<|anI @Ew<|anI @Ef<|anI @OF<|anI @NW<|anI @Vw<|anI @zx<|anI @N7<|anI @Km<|anI @jX<|anI @QA<|anI @Ms<|anI @Fp<|anI @UN<|anI @Uv<|anI @UQ<|anI @Vn<|anI @Jh<|anI @IJ<|anI @IX<|anI @FD<|anI @Ea<|anI @E8<|anI @I0<|anI @UX<|anI @Qs<|anI @Of<|anI @Oq<|anI @Qe<|anI @MA<|anI @Qf<|anI @QK<|anI @Pk<|anI @N9<|anI @O9<|anI @Pr<|anI @M9<|anI @Ma<|anI @Ni<|anI @MR<|anI @JW<|anI @UC<|anI @Vh<|anI @Z_<|anI @sets<|anI @rep0<|anI @reps<|anI @Za<|anI @Zd<|anI @xh<|anI @J3<|anI @MB<|anI @OZ<|anI @Vt<|anI @Vo<|anI @Ob<|anI @Mr<|anI @B7<|anI @Ft<|anI @L8<|anI @Kx<|anI @PF<|anI @HS<|anI @NU<|anI @Vq<|anI @Ut<|anI @JH<|anI @J_<|anI @QJ<|anI @ER<|anI @Kf<|anI @MX<|anI @QD<|anI @Qi<|anI @O2<|@Pg
def bools:(∀b:Bool,cond false b b=b)/\(∀(α:Type) (x y:α),cond false x y=y)/\(∀(α:Type) (x y:α),cond true x y=x):=⟨λ_=>rfl,λ_ _ _=>rfl,λ_ _ _=>rfl⟩
def mW:(∀(x:Str) (xs:ar),(x::xs).length=xs.length+1)/\([]:ar).length=0/\(∀(x:A) (xs:ae),(x::xs).length=xs.length+1)/\([]:ae).length=0:=⟨λ_ _=>rfl,rfl,λ_ _=>rfl,rfl⟩
section
variable {τ:ae}{S:jK}
def HY {f:ae->jK->R A}{d:rR}:abW f d τ S=(d τ S).bind f:=rfl
abbrev kRz (c:Str):Unit->jK->RS:=λ_ S1=>.ex c S1
def QS {c:Str}{u:Unit}:kRz c u S=.ex c S:=rfl
def Bk {c:Str}{ps:List<|Str ⊕ Ex}:VY c ps τ S=RS.of (Tn ps τ S) (kRz c):=rfl
def Ii:Tn [] τ S=.ok Unit.unit S:=rfl
def HW {x:Str}{ps:List<|Str ⊕ Ex}:Tn (.inl x::ps) τ S=Tn ps τ S:=rfl
abbrev kFs (ps:List<|Str ⊕ Ex)(τ:ae):A->jK->R Unit:=λv S1=>match v with
 | .int i=>gd (i.natAbs.log2<64) (Tn ps τ S1)
 | _=>.no
def HQ {e:Ex}{ps:List<|Str ⊕ Ex}:Tn (.inr e::ps) τ S=(e τ S).bind (kFs ps τ):=rfl
abbrev RS.try (i n:Nat)(cs:ar)(d:Sm):RS->RS
 | .ex x S1=>if x∈cs then UG i (d ((List.replicate n .unb).set i<|.exn x) S1)else .no
 | r=>r
def Il {i n:Nat}{cs:ar}{c d:Sm}:ZK i n cs c d τ S=RS.try i n cs d (c τ S):=by
 unfold ZK RS.try;cases c τ S<;>rfl
def P7 {i n:Nat}{cs:ar}{d:Sm}:RS.try i n cs d (.nx τ S)=.nx τ S:=rfl
def Oe {i n:Nat}{cs:ar}{d:Sm}{a:A}:RS.try i n cs d (.rt a S)=.rt a S:=rfl
def OB {i n:Nat}{x:Str}{cs:ar}{d:Sm}:RS.try i n (x::cs) d (.ex x S)=UG i (d ((List.replicate n .unb).set i<|.exn x) S):=aN<|.head _
def OL {i:Nat}{a:A}:UG i (.rt a S)=.rt a S:=rfl
def Nh {i:Nat}:UG i (.nx τ S)=.nx (τ.set i .unb) S:=rfl
abbrev Z5 (f:Str->bi):A->jK->R A:=λv S1=>match v with
 | .exn x=>opt (f x) λb=>.ok (.bl b) S1
 | _=>.no
def Kq {f:Str->bi}{c:Ex}:abS f c τ S=(c τ S).bind (Z5 f):=rfl
def Nb {x:Str}{b:Bool}{tb:List<|Str×Bool}:Z5 (tbX ((x,b)::tb)) (.exn x) S=.ok (.bl b) S:=by
 show opt (List.lookup x ((x,b)::tb)) _=_;rw[eB,bT];rfl
abbrev R.OY {α β:Type}(r:R α)(f:α->jK->R β):R β:=match r with
 | .ok a S=>f a S
 | _=>.no
def Ec {α β:Type}{a:α}{f:α->jK->R β}:R.OY (.ok a S) f=f a S:=rfl
def Iu {f:ae->jK->R A}{d:rR}:Zx f d τ S=R.OY (d τ S) f:=by unfold Zx R.OY;cases d τ S<;>rfl
abbrev RS.ofK {α:Type}(r:R α)(f:α->jK->RS):RS:=match r with
 | .ok a S=>f a S
 | _=>.no
def Ol {α:Type}{a:α}{f:α->jK->RS}:RS.ofK (.ok a S) f=f a S:=rfl
def Jq {t:Te}{c d:Sm}:aaD t c d τ S=RS.ofK (t τ S) (kIf c d τ):=by
 unfold aaD RS.ofK
 cases t τ S with
 | ok b S1=>cases b<;>rfl
 | ex _ _=>rfl
 | no=>rfl
abbrev RS.NJ (i:Nat)(cs:ar)(d:Sm)(τ:ae):RS->RS
 | .ex x S1=>if x∈cs then UG i (d (τ.set i<|.exn x) S1)else .no
 | r=>r
def D_ {i:Nat}{cs:ar}{c d:Sm}:Vs i cs c d τ S=RS.NJ i cs d τ (c τ S):=by
 unfold Vs RS.NJ;cases c τ S<;>rfl
def JA {i:Nat}{cs:ar}{d:Sm}{τ':ae}:RS.NJ i cs d τ (.nx τ' S)=.nx τ' S:=rfl
def Ib {i:Nat}{cs:ar}{d:Sm}{a:A}:RS.NJ i cs d τ (.rt a S)=.rt a S:=rfl
def Ku {i:Nat}{x:Str}{cs:ar}{d:Sm}:RS.NJ i (x::cs) d τ (.ex x S)=UG i (d (τ.set i<|.exn x) S):=aN<|.head _
def Ei:A.Gx []=some []:=rfl
def BQ {b:Bool}{xs:ae}:A.Gx (.bl b::xs)=(A.Gx xs).map (b::·):=rfl
end
def mz:type_of% (anI @HY<|anI @Bk<|anI @QS<|anI @Ii<|anI @HW<|anI @HQ<|anI @Il<|anI @P7<|anI @Oe<|anI @OB<|anI @OL<|anI @Nh<|anI @Kq<|anI @Nb<|anI @Ei<|anI @BQ<|anI @Ec<|anI @Iu<|anI @Ol<|anI @Jq<|anI @D_<|anI @JA<|anI @Ib<|anI @Ku<|trivial):=anI @HY<|anI @Bk<|anI @QS<|anI @Ii<|anI @HW<|anI @HQ<|anI @Il<|anI @P7<|anI @Oe<|anI @OB<|anI @OL<|anI @Nh<|anI @Kq<|anI @Nb<|anI @Ei<|anI @BQ<|anI @Ec<|anI @Iu<|anI @Ol<|anI @Jq<|anI @D_<|anI @JA<|anI @Ib<|anI @Ku<|trivial
end Am
namespace Am
open PySem PySem.Spec PyProof.Rows L2
abbrev Df (K:au)(x:Str)(st:aF):Prop:=∃(f:ak) (fd:FuncData),PySem.W.nsIn K mainGlobals x=some (some<|.ref f)/\Fun K x x st f fd
inductive En (P:aj) (w:ah) (K:au) (mg:Str->bd) (base:aq):Prop
 | mk (h:aq) (X:K.In h) (G:h.Ns mainGlobals mg)
section
variable {P:aj}{w:ah}{K:au}{mg:Str->bd}{base:aq}{x:Str}{st:aF}{ps:ar}{k:Nat}{F:ae->jK->R A}
def En.at(E:En P w K mg base){f:ak}(h:PySem.W.nsIn K mainGlobals x=some (some<|.ref f)):mg x=some (.ref f):=by
 obtain⟨_,X,G⟩:=E;exact jj X G h
def Df.of{f:ak}{kV pm ct:af}(a:PySem.W.nsIn K mainGlobals x=some (some<|.ref f))(l:K.lookup f=some ⟨oc,od,.func<|PySem.W.fnOf x x (vj st) (rF st) (jV st) .none kV doc pm an cdv ct,osl⟩)(c:PySem.W.codeIn K cdv x=true)(k:PySem.W.keepIn K (.ref f)=true):Df K x st:=⟨f,_,a,Xv l c k⟩
meta abbrev Bi (x:Str)(st:aF)(ps:ar):Prop:=∀us:ba,us.length=ps.length->∀(kV f j:af) (g:Option ak) (d ct:af),bindArgs (PySem.W.fnOf x x (vj st) (rF st) (jV st) .none kV f j g d ct) ⟨us,[]⟩=pure (ps.zip us)
def Df.get(d:Df K x st)(E:En P w K mg base)(b:Bi x st ps):∃f fd,Fun K x x st f fd/\mg x=some (.ref f)/\PySem.W.keepIn K (.ref f)=true/\Binds K fd ps []:=by
 obtain⟨f,fd,a,F⟩:=d;exact⟨f,fd,F,E.at a,F.kp,F.binds λkV j q k g ct us p=>b us p kV j q k g ct⟩
def Df.kA(d:Df K x st)(E:En P w K mg base)(h:∀{f fd},Fun K x x st f fd->FnOk P w K mg base qb k f fd ps (qZ K ps.length F))(b:Bi x st ps):nW P w K mg base k x ps F:=by
 obtain⟨f,fd,a,c,e,g⟩:=d.get E b;exact⟨f,fd,h a,c,e,g⟩
def Df.rA(d:Df K x st)(E:En P w K mg base)(h:∀{f fd},Fun K x x st f fd->mg x=some (.ref f)->PySem.W.keepIn K (.ref f)=true->Binds K fd ps []->FnOk P w K mg base qb k f fd ps (qZ K ps.length F))(b:Bi x st ps):nW P w K mg base k x ps F:=by
 obtain⟨f,fd,a,c,e,g⟩:=d.get E b;exact⟨f,fd,h a c e g,c,e,g⟩
end
section
variable {X:Cx}{pos p:Pos}{e1 e2 e3:aE}{x p1 p2 p3:Str}{k K0:Nat}{F:ae->jK->R A}{c1 c2 c3:Ex}
def yy(G:nW X.prog X.w X.K X.mg X.base k x [p1] F)(hr:Room K0 X.A)(h1:AE X e1 c1)(hk:k<=K0:=by decide)(hg:Gl X x:=by rfl)(hdb:(x == ("__debug__" : Str))=false:=by decide)(s1:starEach [e1] X.env=(false,eval e1 X.env)::starEach [] X.env:=by rfl)(hp:(backTo pos<|starEach [] X.env).any (·.1)=false:=by rfl):AE X (.Call (.Name x p) [e1] [] pos) (eFn F<|jH c1 jR):=qJ G (hr.mono hk) (jJ h1 jS s1) (j7 mG) hg hdb s1 hp
def Cz(G:nW X.prog X.w X.K X.mg X.base k x [p1,p2] F)(hr:Room K0 X.A)(h1:AE X e1 c1)(h2:AE X e2 c2)(hk:k<=K0:=by decide)(hg:Gl X x:=by rfl)(hdb:(x == ("__debug__" : Str))=false:=by decide)(s1:starEach [e1,e2] X.env=(false,eval e1 X.env)::starEach [e2] X.env:=by rfl)(s2:starEach [e2] X.env=(false,eval e2 X.env)::starEach [] X.env:=by rfl)(hp:(backTo pos<|starEach [e2] X.env).any (·.1)=false:=by rfl):AE X (.Call (.Name x p) [e1,e2] [] pos) (eFn F<|jH c1<|jH c2 jR):=qJ G (hr.mono hk) (jJ h1 (jJ h2 jS s2) s1) (j7<|j7 mG) hg hdb s1 hp
def ZC(G:nW X.prog X.w X.K X.mg X.base k x [p1,p2,p3] F)(hr:Room K0 X.A)(h1:AE X e1 c1)(h2:AE X e2 c2)(h3:AE X e3 c3)(hk:k<=K0:=by decide)(hg:Gl X x:=by rfl)(hdb:(x == ("__debug__" : Str))=false:=by decide)(s1:starEach [e1,e2,e3] X.env=(false,eval e1 X.env)::starEach [e2,e3] X.env:=by rfl)(s2:starEach [e2,e3] X.env=(false,eval e2 X.env)::starEach [e3] X.env:=by rfl)(s3:starEach [e3] X.env=(false,eval e3 X.env)::starEach [] X.env:=by rfl)(hp:(backTo pos<|starEach [e2,e3] X.env).any (·.1)=false:=by rfl):AE X (.Call (.Name x p) [e1,e2,e3] [] pos) (eFn F<|jH c1<|jH c2<|jH c3 jR):=qJ G (hr.mono hk) (jJ h1 (jJ h2 (jJ h3 jS s3) s2) s1) (j7<|j7<|j7 mG) hg hdb s1 hp
def ue{N P:ar}{sc:Scope}(a:sc.kind=.function)(b:sc.isCoroutine=false)(c:sc.isGenerator=false)(h:N.Nodup/\N.take P.length=P/\(∀x∈P,sc.names.lookup x=some .local\/sc.names.lookup x=some .cell)/\∀y∈sc.names,y.2≠.free):FnScope N P sc:=⟨a,b,c,h.1,h.2.1,h.2.2.1,h.2.2.2⟩
end
abbrev l8 (S:jK)(n:Nat):Option (List<|Int×A):=match S[n]? with
 | some (.qc xs)=>some xs
 | _=>none
def qg{n:Nat}(h:l8 S n=some xs):S[n]?=some (.qc xs):=by
 unfold l8 at h;split at h
 ·rename_i e;cases h;exact e
 ·cases h
def DA{S:jK}{n:Nat}(h:S[n]?=some (.qc xs)):l8 S n=some xs:=by
 unfold l8;rw[h]
abbrev ny (kvs:List<|Int×A)(k:Int):Option A:=(kvs.find? λkv=>decide<|kv.1=k).map (·.2)
abbrev xZ (kvs:List<|Int×A)(k:Int)(v:A):List (Int×A):=
 if (ny kvs k).isSome=true then kvs.map (λkv=>if kv.1=k then(kv.1,v)else kv)else kvs++[(k,v)]
section
variable {K:au}{ρ:bb}{H:Hp}
def LP{p:Int×A}{r:List<|Int×A}{k:Int}(e:p.1=k):ny (p::r) k=some p.2:=by simp[ny,b9,e]
def KH{p:Int×A}{r:List<|Int×A}{k:Int}(e:¬p.1=k):ny (p::r) k=ny r k:=by simp[ny,b9,e]
def ZP{a b:Int}(e:(Sum.inl a:Key)=Sum.inl b):a=b:=by injection e
theorem DI.look:∀{kvs:List<|Int×A}{ks:List<|Key×V}(k:Int),DI K ρ H kvs ks->(ny kvs k).isSome=(qv ks (Sum.inl k:Key)).isSome/\∀x,ny kvs k=some x->∃v,qv ks (Sum.inl k:Key)=some v/\AV K ρ H x v
 | [],[],k,_=>⟨rfl,λx h=>nomatch h⟩
 | p::r,q::r',k,⟨⟨e,a⟩,t⟩=>by
  by_cases c:p.1=k
  ·have d:q.1=(Sum.inl k:Key):=by rw[e,c]
   rw[LP c,uW d];exact⟨rfl,λx h=>by cases h;exact⟨_,rfl,a⟩⟩
  ·have d:¬q.1=(Sum.inl k:Key):=λz=>c<|ZP<|e.symm.trans z;rw[KH c,uC d];exact DI.look k t
theorem DI.repl{x:A}{v:V}(h:AV K ρ H x v)(k:Int):∀{kvs:List<|Int×A}{ks:List<|Key×V},DI K ρ H kvs ks->DI K ρ H (kvs.map λkv=>if kv.1=k then(kv.1,x)else kv) (ks.map λkv=>if kv.1=(Sum.inl k:Key)then(kv.1,v)else kv)
 | [],[],_=>trivial
 | p::r,q::r',⟨⟨e,a⟩,t⟩=>by
  refine⟨?_,DI.repl h k t⟩;dsimp only;by_cases c:p.1=k
  ·rw[aN c,aN<|by rw[e,c]];exact⟨e,h⟩
  ·rw[aM c,aM λz=>c<|ZP<|e.symm.trans z];exact⟨e,a⟩
theorem DI.snoc{x:A}{v:V}(h:AV K ρ H x v)(k:Int):∀{kvs:List<|Int×A}{ks:List<|Key×V},DI K ρ H kvs ks->DI K ρ H (kvs++[(k,x)]) (ks++[(Sum.inl k,v)])
 | [],[],_=>⟨⟨rfl,h⟩,trivial⟩
 | p::r,q::r',⟨a,t⟩=>⟨a,DI.snoc h k t⟩
def DI.put{x:A}{v:V}(h:AV K ρ H x v)(k:Int){ks:List<|Key×V}(d:DI K ρ H kvs ks):DI K ρ H (xZ kvs k x) (putK ks (Sum.inl k:Key) v):=by
 unfold xZ putK;rw[wX,<- (d.look k).1];by_cases c:(ny kvs k).isSome=true
 ·rw[aN c,aN c];exact DI.repl h k d
 ·rw[aM c,aM c];exact DI.snoc h k d
def DI.length:∀{kvs:List<|Int×A}{ks:List<|Key×V},DI K ρ H kvs ks->kvs.length=ks.length
 | [],[],_=>rfl
 | _::_,_::_,⟨_,t⟩=>c7 (·+1) t.length
theorem DI.keys:∀{kvs:List<|Int×A}{ks:List<|Key×V},DI K ρ H kvs ks->ks.map (·.1)=kvs.map λkv=>(Sum.inl kv.1:Key)
 | [],[],_=>rfl
 | _::_,_::_,⟨⟨e,_⟩,t⟩=>by rw[bI,bI,e,DI.keys t]
def Rel.qc{n:Nat}{a:ak}(R:Rel K ρ H S)(ha:ρ[n]?=some a)(hS:S[n]?=some (.qc xs)):∃vs,H a=some (.dK vs)/\DI K ρ H xs vs:=R.at n a _ ha hS
def Rel.YW{S:jK}{p:ak}(R:Rel K ρ H S)(hp:H p=none)(r:DI K ρ H xs vs):Ext ρ (ρ++[p]) H (upd H p<|.dK vs)/\Rel K (ρ++[p]) (upd H p<|.dK vs) (S++[.qc xs])/\(ρ++[p])[S.length]?=some p:=by
 have ex:Ext ρ (ρ++[p]) H (upd H p<|.dK vs):=⟨⟨dQ _ _,λa u _ h=>by rw[jP<|j3 h hp];exact h⟩,λa u h _=>by rw[jP<|j3 h hp];exact h,λa h=>by
  rcases bq.mp h with z|z
  ·exact .inl z
  ·have e:a=p:=by simpa using z
   rw[e];exact .inr hp⟩
 have j:p∉ρ:=R.FE hp;have d:(ρ++[p])[S.length]?=some p:=by rw[<- R.len];simp
 refine⟨ex,⟨by simp[R.len],?_,?_⟩,d⟩
 ·rw[cE];cb_eq;have:b=p:=by simpa using hb
  exact j<|by rw[<- this,<- e];exact ha
 ·intro n a o h1 h2;by_cases hn:n<S.length
  ·rw[bw<|by rw[R.len];exact hn]at h1;rw[bw hn]at h2;have na:a≠p:=λz=>j (by rw[<- z];exact aS h1);have:=R.at n a o h1 h2
   cases o with
   | lst ys=>obtain⟨f,e,q⟩:=this;exact⟨f,by rw[jP na];exact e,q.ext ex⟩
   | dct _|qc _|vh _=>obtain⟨f,e,q⟩:=this;exact⟨f,by rw[jP na];exact e,q.ext ex⟩
   | dcf _=>obtain⟨g,f,e,q⟩:=this;exact⟨g,f,by rw[jP na];exact e,q.ext ex⟩
   | ins _ _=>obtain⟨g,k,e⟩:=this;exact⟨g,k,by rw[jP na];exact e⟩
  ·have e:n=S.length:=by
    have:=(aJ.mp h2).1;simp at this
    lia
   subst e;rw[d]at h1
   cases h1
   simp at h2;subst h2;exact⟨vs,kD,r.ext ex⟩
def Rel.xZ{S:jK}{n:Nat}{a:ak}(R:Rel K ρ H S)(ha:ρ[n]?=some a)(hS:S[n]?=some (.qc xs))(r:DI K ρ H ys ws):Ext ρ ρ H (upd H a<|.dK ws)/\Rel K ρ (upd H a<|.dK ws) (S.set n<|.qc ys):=by
 obtain⟨p,e,_⟩:=R.at n a _ ha hS;have ex:Ext ρ ρ H (upd H a<|.dK ws):=⟨⟨dP _,λb u i h=>by
  have:b≠a:=by
   intro z;subst z;rw[e]at h;cases h;exact i
  rw[jP this];exact h⟩,λb u h n=>by
  rw[jP λz=>n<|by rw[z];exact aS ha];exact h,λ_ h=>.inl h⟩
 refine⟨ex,by rw[bV];exact R.len,R.nd,λm b o h1 h2=>?_⟩;by_cases j:m=n
 ·subst j;rw[ha]at h1;cases h1;rw[bJ (aJ.mp hS).1]at h2
  cases h2
  exact⟨ws,kD,r.ext ex⟩
 ·rw[bL<|cR j]at h2;have nb:b≠a:=λz=>by
   subst z;obtain⟨t,e1⟩:=aJ.mp ha;obtain⟨B,e2⟩:=aJ.mp h1;exact j<|(cX R.nd).mp<|e2.trans e1.symm
  have:=R.at m b o h1 h2
  cases o with
  | lst ys=>obtain⟨d,f,q⟩:=this;exact⟨d,by rw[jP nb];exact f,q.ext ex⟩
  | dct _|qc _|vh _=>obtain⟨d,f,q⟩:=this;exact⟨d,by rw[jP nb];exact f,q.ext ex⟩
  | dcf _=>obtain⟨g,d,f,q⟩:=this;exact⟨g,d,by rw[jP nb];exact f,q.ext ex⟩
  | ins _ _=>obtain⟨g,k,f⟩:=this;exact⟨g,k,by rw[jP nb];exact f⟩
end
section
variable {X:Cx}{pos:Pos}{a b:aE}
abbrev zB (x y:A)(S:jK):R A:=match x,y with
 | .ref n,.int k=>opt (l8 S n) λkvs=>opt (ny kvs k) λv=>.ok v S
 | _,_=>.no
def Lp{x:A}{P:A->jK->Prop}{E:Str->jK->Prop}(h:(zB x y S).post P E):∃n k kvs v,x=.ref n/\y=.int k/\l8 S n=some kvs/\ny kvs k=some v/\P v S:=by
 unfold zB at h;split at h
 ·obtain⟨kvs,h1,h⟩:=jN h;obtain⟨v,h2,h⟩:=jN h;exact⟨_,_,kvs,v,rfl,rfl,h1,h2,h⟩
 ·exact h.elim
def Z9(hu:X.A.units+64<cLine):Um X (r2 X zB):=λf j pins s σ H x y v u Q I rx ry ⟨ρ,S,a,b,R,va,vb,h⟩ hs=>by
 obtain⟨n,k,kvs,z,ha,hb,hn,B,hP⟩:=Lp h;subst ha hb
 cases vb
 cases va with
 | @ref p _ t=>
  obtain⟨ks,e,d⟩:=R.qc t<|qg hn;obtain⟨w,hw,q⟩:=(d.look k).2 z B;have g:t_ H p (kV<|Sum.inl k) (qv ks<|Sum.inl k):=t_.k e;rw[hw]at g;exact Cm () f j pins s σ H _ _ v u Q I rx ry ⟨p,w,rfl,g,hP _ _ _ .refl R q⟩ hs
def MO(hu:X.A.units+64<cLine){ca cb:Ex}(ha:AE X a ca)(hb:AE X b cb)(hs:xw b:=by exact λ_ _=>rfl):AE X (.Subscript a b pos) (jO zB ca cb):=PE.imp (IL (Z9 hu) ha hb hs) λσ H Q h=>sN h
abbrev BS (o i v:A)(S:jK):R Unit:=match o,i with
 | .ref n,.int k=>opt (l8 S n) λkvs=>gd (kvs.length<sizeLine) (.ok Unit.unit<|S.set n<|.qc<|xZ kvs k v)
 | _,_=>.no
def F8{x v:A}{S:jK}{P:Unit->jK->Prop}{E:Str->jK->Prop}(h:(BS x y v S).post P E):∃n k kvs,x=.ref n/\y=.int k/\l8 S n=some kvs/\kvs.length<sizeLine/\P Unit.unit (S.set n<|.qc<|xZ kvs k v):=by
 unfold BS at h;split at h
 ·obtain⟨kvs,h1,h⟩:=jN h;obtain⟨h2,h⟩:=kc h;exact⟨_,_,kvs,rfl,rfl,h1,h2,h⟩
 ·exact h.elim
abbrev aba (X:Cx):Hi:=λo i v H Q=>∃ρ S ao f d,Rel X.K ρ H S/\AV X.K ρ H ao o/\AV X.K ρ H f i/\AV X.K ρ H d v/\(BS ao f d S).post (λ_ g=>∀ρ' H',Ext ρ ρ' H H'->Rel X.K ρ' H' g->Q H') (XE X ρ H)
def SS(hu:X.A.units+64<cLine):E3 X (aba X):=λpins s σ H o i v B iv u Q I g z q h9=>by
 obtain⟨ρ,S,ao,C,F,R,h1,h2,h3,h⟩:=h9;obtain⟨n,k,kvs,ha,hb,hn,j,hP⟩:=F8 h;subst ha hb
 cases h2
 cases h1 with
 | @ref p _ f=>
  obtain⟨ks,e,d⟩:=R.qc f<|qg hn;obtain⟨ex,t⟩:=R.xZ f (qg hn)<|d.put h3 k;exact set_dict (by omega) pins s σ H _ _ v B iv u Q I g z q ⟨p,_,rfl,yI.k (k:=Sum.inl k) e<|by rw[<- d.length];exact j,hP _ _ ex t⟩
abbrev Ky (co ci:Ex):Tg:=λa τ S=>(co τ S).bind λo S1=>(ci τ S1).bind λi S2=>(BS o i a S2).bind λ_ S3=>.ok τ S3
def Kr(hu:X.A.units+64<cLine){co ci:Ex}(ho:AE X o co)(hi:AE X i ci)
  (ha:∀v,assign (.Subscript o i pos) X.env v=(do
   let ov <- holding [v] (eval o X.env)
   let iv <- holding [v,ov] (eval i X.env)
   standAt pos
   holding [v,ov,iv] (setItem ov iv v)
   release [v,ov,iv] []):=by intro _;rfl):AG X (.Subscript o i pos) (Ky co ci):=PG.imp (Dw ho hi (SS hu) ha) λv σ H Q h9=>by
 obtain⟨ρ,S,τ,a,R,r,va,h⟩:=h9;k_ne;gn_on;ksr_p
abbrev F7:Ex:=λ_ S=>.ok (.ref S.length)<|S++[.qc []]
def Mj:AE X (.Dict [] [] pos) F7:=PE.imp N4 λσ H Q ⟨ρ,S,τ,R,r,h⟩ p f=>by
 obtain⟨ex,d,g⟩:=R.YW (xs:=[]) (vs:=[]) f trivial;exact h _ _ _ ex d<|.ref g
abbrev dk? (a:A)(S:jK):Option Unit:=match a with
 | .ref n=>(l8 S n).map λ_=>Unit.unit
 | _=>none
abbrev Gu (f:A->ae->jK->R A)(co:Ex)(d:rR):Ex:=λτ S=>(co τ S).bind λx S1=>opt (dk? x S1) λ_=>(d τ S1).bind λg S2=>f x g S2
def dk?_ty{K:au}{H:Hp}{x:A}{v:V}(R:Rel K ρ H S)(a:AV K ρ H x v)(e:dk? x S=some u):YK K "dict" v H:=by
 cases a with
 | @ref p n h=>
  obtain⟨xs,f,_⟩:=aY.mp e;obtain⟨d,h1,_⟩:=R.qc h<|qg f;exact .inr<|.inr<|.inl ⟨rfl,.inl ⟨d,h1⟩⟩
 | _=>cases e
def G_{e:aE}{id:String}{apos cpos:Pos}{f:A->ae->jK->R A}{co:Ex}{d:rR}(slot:Slot "dict" name id)(hty:typeOf (.builtin id)=pure (.type "method_descriptor"))(hm:LW X id<|rM X f)(ho:AE X o co)(ha:AL X (e::es) d)
  (hbase:attributeBase o name X.env (eval o X.env)=eval o X.env:=by rfl)
  (hfew:((backTo cpos<|starEach (e::es) X.env).all (λx=>!x.1) && (backToKw cpos<|keywordEach [] X.env).all (λx=>x.1.isSome)
   && decide ((e::es).length+([]:List Keyword).length+(if ([]:List Keyword).isEmpty then 0 else 1)<30))=true:=by rfl)
  (hline:(apos.endLine == cpos.line)=true:=by rfl) (hs:starEach (e::es) X.env=(false,eval e X.env)::starEach es X.env:=by rfl) (hplain:(backTo cpos<|starEach es X.env).any (·.1)=false:=by rfl) :
  AE X (.Call (.Attribute o name apos) (e::es) [] cpos) (Gu f co d):=PE.imp (Mn PySem.F.plainAttrs_dict slot hty hm ho ha hbase hfew hline hs hplain) λσ H Q h9=>by
 x_go;mg_lt;obtain⟨xs,j,h1⟩:=jN h1;refine⟨dk?_ty R1 v1 j,ρ1,S1,τ,R1,r.ext e1,jM (jT h1) e1 λg S2 h2 ρ2 H2 k e2 R2 v2=>?_⟩;exact⟨ρ2,S2,x,g,R2,v1.ext e2,v2,jM h2 (e1.trans e2) λ_ _ z=>z.ext<|e1.trans e2⟩
abbrev wM (o:A)(as:ae)(S:jK):R A:=match o,as with
 | .ref n,[.int k,y]=>opt (l8 S n) λkvs=>.ok ((ny kvs k).getD y) S
 | _,_=>.no
def Gm{x:A}{P:A->jK->Prop}{E:Str->jK->Prop}(h:(wM x as S).post P E):∃n k y kvs,x=.ref n/\as=[.int k,y]/\l8 S n=some kvs/\P ((ny kvs k).getD y) S:=by
 unfold wM at h;split at h
 ·obtain⟨kvs,h1,h⟩:=jN h;exact⟨_,_,_,kvs,rfl,rfl,h1,h⟩
 ·exact h.elim
def G3(hu:X.A.units+64<cLine):LW X "dict.get" (rM X wM):=λpins s σ H x L v us Q I rx z h9=>by
 obtain⟨ρ,S,o,P,R,j,va,h⟩:=h9;obtain⟨n,k,y,kvs,C,has,hn,hP⟩:=Gm h;subst C has;obtain⟨O,K,rfl,F,hy⟩:=Ra va
 cases F
 cases j with
 | @ref p _ B=>
  obtain⟨ks,h1,t⟩:=R.qc B (qg hn)
  cases rx
  obtain⟨N,M,rfl,r1,r2⟩:=vals2 z;refine VE (by omega) I (t_.k (k:=Sum.inl k) h1) r1 r2 λT s' q f=>⟨_,H,q,f,hP _ _ _ .refl R ?_⟩;obtain⟨d,G⟩:=t.look k
  cases e1:ny kvs k with
  | none=>
   rw[e1]at d
   cases e2:qv ks (Sum.inl k:Key)with
   | none=>exact hy
   | some _=>rw[e2]at d;cases d
  | some g=>
   obtain⟨v1,e2,J⟩:=G g e1;rw[e2];exact J
end
end Am
namespace L2
open PySem PySem.Spec PyProof.Rows
section
variable {P:aj}{w:ah}{A:aA}{E:af->aC->Prop}{s:aC}{it d:ak}{i ep:Nat}{es:Array DictEntry}{o:Obj}
def Nf{Q:bd->aC->Prop}(hi:s.heap.IsKeyIter it d i es.size ep)(ho:s.heap.get? d=some o)(hd:o.data=.dict es ep)(lt:i<es.size)
  (q:∀h',h'.IsKeyIter it d (i+1) es.size ep->Heap.SameBut it s.heap h'->Q (some es[i].key) { s with heap:=h' }):wpAny (model P w) A (pyNext<|.ref it) Q E s:=by
 have ty:=hi.typeIs;obtain⟨B,g,k,f⟩:=id hi;have own:Builtin.Dict_items.ownsTuple "dict_keyiterator" = false:=by decide
 have t:¬((Value.ref d == Value.none)=true):=bN;have z:¬((i:Int)<0):=by omega
 unfold pyNext;refine aH<|wpAny_attempt<|fG (name:=Str.ofString "__next__") ty cT<|c9 cT ty gE ?_<|gw _;refine aH (aR<|aH<|aH ?_)
 first
  | refine aH (dY ty<|aR<|aH<|jc g f ?_)
  | refine aH<|fB ty<|aR<|aH<|jc g f ?_
 dsimp[own,cF,bD];show wpAny (model P w) _ (if (Value.ref d == Value.none)=true then _ else _) _ _ s;rw[aM t];refine aH<|aR<|aH<|je ho hd ?_;rw[aM<|show ¬_ by simp];refine aH<|aR<|aH<|wpAny_dictEpoch ho hd ?_;rw[aM<|show ¬_ by simp];refine aR ?_;dsimp[z,cF,fm,gr lt];refine aH ?_
 first
  | refine aH (dY ty<|aR<|aH<|iz ty ?_)
  | refine aH<|fB ty<|aR<|aH<|iz ty ?_
 show wpAny (model P w) _ (setField (.ref it) 1 (rawInt<|(i:Int)+1) >>= _) _ _ s;refine aH (iZ g f (show _ by simp) ?_);have j:(s.heap.update it<|Obj.mapFields λfs=>fs.setIfInBounds 1<|rawInt<|(i:Int)+1).IsKeyIter it d (i+1) es.size ep:=
  ⟨_,iu _ g<|Obj.isFreed_of_fields<|gK f _,(Obj.cls_mapFields ..).trans k,by
   rw[gK f];simp[rawInt]⟩
 have p:Shared.TypeIs { s with heap:=s.heap.update it<|Obj.mapFields λfs=>fs.setIfInBounds 1<|rawInt<|(i:Int)+1} (.ref it) "dict_keyiterator" := Heap.IsKeyIter.typeIs (s:={ s with heap:=_ }) j;refine aH (c8<|aH<|iz p ?_)
 skip
 exact aR<|aR ⟨_,rfl,aR<|q _ j<|gu ..⟩
def HF{Q:bd->aC->Prop}(hh:A.handled=none)(hi:s.heap.IsKeyIter it d i es.size ep)(ho:s.heap.get? d=some o)(hd:o.data=.dict es ep)(ge:es.size<=i)
  (q:∀h',Heap.ExtBut it s.heap h'->Q none { s with heap:=h' }):wpAny (model P w) A (pyNext<|.ref it) Q E s:=by
 have ty:=hi.typeIs;obtain⟨t,f,k,g⟩:=id hi;have own:Builtin.Dict_items.ownsTuple "dict_keyiterator" = false:=by decide
 have j:¬((Value.ref d == Value.none)=true):=bN;have p:¬((i:Int)<0):=by omega
 unfold pyNext;refine aH<|wpAny_attempt<|fG (name:=Str.ofString "__next__") ty cT<|c9 cT ty gE ?_<|gw _;refine aH (aR<|aH<|aH ?_)
 first
  | refine aH (dY ty<|aR<|aH<|jc f g ?_)
  | refine aH<|fB ty<|aR<|aH<|jc f g ?_
 dsimp[own,cF,bD];show wpAny (model P w) _ (if (Value.ref d == Value.none)=true then _ else _) _ _ s;rw[aM j];refine aH<|aR<|aH<|je ho hd ?_;rw[aM<|show ¬_ by simp];refine aH<|aR<|aH<|wpAny_dictEpoch ho hd ?_;rw[aM<|show ¬_ by simp];refine aR ?_;dsimp[p,cF,fm,fN ge];refine aH ?_
 first
  | refine aH (dY ty<|aR ?_)
  | refine aH<|fB ty<|aR ?_
 show wpAny (model P w) _ (setField (.ref it) 0 .none >>= _) _ _ s;refine aH (iZ f g (show _ by simp) ?_)
 skip
 refine aH ?_;dsimp[newExc,newTuple];refine aH (di (aH (m:=firstArgMember _ _)<|wpAny_of_eq (a:=Value.none) (by first|rfl|(dsimp[firstArgMember];rfl))<|di ?_<|by size_fits)<|by size_fits);dsimp[raiseNew];have hn:A.in1.handled=none:=hh;refine aH<|wpAny_handled<|?_;rw[hn];refine aH<|aR<|wpAny_throw<|?_;refine aH<|iF (b:=true) (T := "StopIteration") ⟨_,bA _ rfl,rfl⟩ isSubtype_stop<|aR<|q _<|((gu ..).extBut.push _).push _
def Ay{Q:af->aC->Prop}(ty:s.TypeIs (.ref d) "dict")(hs:(d == sysModules)=false)(ho:s.heap.get? d=some o)(hd:o.data=.dict es ep)
  (q:Q (.ref s.heap.objs.size) { s with heap:=s.heap.push { cls:=.type "dict_keyiterator",data:=.fields #[.ref d,.int 0 0,.int es.size 0,.int ep 0]}}):wpAny (model P w) A (pyIter<|.ref d) Q E s:=by
 refine wpAny_pyIter_slot ty PySem.F.slot_dict_iter<|c9 PySem.F.slot_dict_iter ty PySem.F.entry_dict_iter ?_<|PySem.F.args_dict_iter_1 _;delta Builtin.«dict.__iter__»;refine aH ?_;delta Builtin.Dict.dictSlotNone;refine aH (wpAny_notOrdered_dict ty ?_)
 skip
 refine aR ?_;show wpAny (model P w) _ (Builtin.Dict.showsAll d >>= _) _ _ s;delta Builtin.Dict.showsAll;have nd:¬((d == sysModules)=true):=by rw[hs];exact bN
 rw[aM nd];refine aH<|aR<|aH<|je ho hd<|aH<|wpAny_dictEpoch ho hd ?_;refine aH<|di<|aR ⟨_,rfl, "dict_keyiterator",_,⟨_,bA _ rfl,rfl⟩,cT.lookup,?_⟩;simpa[rawInt]using q
end
section
variable {P:aj}{w:ah}
def KD{A:aA}(hh:A.handled=none)(it d:ak)(ne:d≠it){es:Array DictEntry}{o:Obj}(hd:o.data=.dict es ep) :
  Walks P w A it [it,d] [it] es.size (λi v=>(es[i]?).map (λe=>e.key)=some v) (λi h=>h.IsKeyIter it d i es.size ep/\h.get? d=some o) where
 sub:=λb hb=>by
  rw[aP.mp hb];exact aO ..
 frame:=λ_ _ _ st g=>⟨st.1.at λx e=>g it (aO ..) x e,g d (aQ _<|aO ..) o st.2⟩
 item:=λi s Q E lt st q=>Nf st.1 st.2 hd lt λh' j f=>q _ h' s.toks (by rw[gr lt];rfl) ⟨j,f.extBut d o ne st.2⟩ λb x nb e=>f.extBut b x (λz=>nb<|aP.mpr z) e
 done:=λs Q E st q=>HF hh st.1 st.2 hd (aK _) λh' k=>q h' s.toks λb x nb e=>k b x (λz=>nb<|aP.mpr z) e
 self:=λ_ _ _ _ st q=>wpAny_pyIter_keyiter st.1 q
def HR{d:ak}{es:Array DictEntry}{o:Obj}(hs:(d == sysModules)=false)(hc:o.cls=.type "dict")(hd:o.data=.dict es ep) :
  PySem.W.KdlSrc P w "dict" d d es.size (λi v=>(es[i]?).map (λe=>e.key)=some v) (λh=>h.get? d=some o) where
 type:=λ_ f=>⟨o,f,hc⟩
 there:=λ_ f=>⟨bh f,bh f⟩
 keep:=λ_ _ f g=>g d (.inl rfl) o f
 notList:=by decide
 notTuple:=by decide
 hint:=λ_ _ _ _ f hq=>PySem.W.kdl_hint_dict ⟨o,f,hc⟩ hq
 iter:=λ_ s j f=>⟨_,_,(λ_ _ hq=>Ay ⟨o,f,hc⟩ hs f hd hq),KD j _ d (bE<|bh f) hd,⟨⟨_,bA _ rfl,rfl,rfl⟩,aV _ f⟩⟩
end
section
variable {X:Cx}
def Om{H:Hp}{s:aC}{d:ak}{kvs:List<|List Key×V}(I:Inv X pins σ H s)(ed:H d=some (.dT kvs)) :
  ∃(ob:Obj) (es:Array DictEntry) (ep:Nat) (rs:bb),s.heap.get? d=some ob/\ob.cls=.type "dict" /\ ob.data=.dict es ep/\(d == sysModules)=false/\kvs.length<=sizeLine/\rs.length=kvs.length/\es.size=kvs.length /\
   (∀i:Nat,(es[i]?).map (λe:DictEntry=>e.key)=(rs[i]?).map Value.ref)/\∀(i:Nat) r p,rs[i]?=some r->kvs[i]?=some p->H r=some (.tup<|p.1.map kV):=by
 obtain⟨z,C,xs,f,F⟩:=Bt I.hok ed;obtain⟨ob,es,ep,q,t,B,j,J,L⟩:=id F;obtain⟨k,G⟩:=kt_at f;have g:es.size=xs.length:=by have:=c7 List.length j;simpa using this
 refine⟨ob,es,ep,xs.map λy=>y.2.1,q,t.1,B,C,z,by rw[aG,k],by rw[g,k],λi=>?_,λi r p e1 e2=>?_⟩
 ·rw[<- c6,j,aX,aX,eU,eU]
  cases xs[i]?<;>rfl
 ·obtain⟨y,h1,h2,h3,K⟩:=G i p e2;rw[aX,h1]at e1
  cases e1
  exact h3
def Dz(hc:X.calm=true):kj X (.builtin "sorted") (λxs H Q=>∃(d:ak) (kvs:List<|List Key×V) (kss:List<|ag),xs=[.ref d]/\H d=some (.dT kvs)/\kvs.map (λp=>p.1)=kss.map (λks=>ks.map Sum.inl)/\(∀ks∈kss,ks≠[]) /\
  ∀(rs:bb) l g,rs.length=kss.length->(∀(i:Nat) (r:ak) (ks:ag),rs[i]?=some r->kss[i]?=some ks->H r=some (.tup<|ks.map V.int))->H l=none->Sx.Cl g 0 kss.length->Sx.So (Sx.Gp kss) g 0 kss.length ->
   Q (.ref l) (upd H l<|.lst<|((List.range kss.length).map λi=>rs.getD (g i) 0).map V.ref)):=by
 kt_k;obtain⟨d,kvs,kss,rfl,G,ek,t,q⟩:=h;kpc_g
 cases rx
 obtain⟨ob,es,ep,rs,O,P,T,K,C,z,N,J,L⟩:=Om I G;have k:kvs.length=kss.length:=by have:=c7 List.length ek;simpa using this
 have B:∀(i:Nat) (r:ak) (ks:ag),rs[i]?=some r->kss[i]?=some ks->H r=some (.tup<|ks.map V.int):=λi r ks e1 e2=>by
  have lt:i<kvs.length:=by rw[k];exact(aJ.mp e2).1
  have h1:=L i r kvs[i] e1 (aI lt);have h2:(kvs.map λp=>p.1)[i]?=(kss.map λks=>ks.map Sum.inl)[i]?:=by rw[ek]
  rw[aX,aX,e2,aI lt]at h2;have h3:kvs[i].1=ks.map Sum.inl:=bf h2;rw[h3,bz]at h1;exact h1
 refine dM kind_sorted iS iT (iU _) ?_;unfold Builtin.«sorted»;f_are;refine aH (iR (HR K P T) (show X.A.in1.handled=none from I.ok.hd hc) O (by rw[N];exact C) λh' M acc U f=>?_);have F:acc.toList=rs.map Value.ref:=by
  refine fu λj=>?_;rw[c6,aX,<- J j]
  cases e:acc[j]? with
  | some v=>exact(f.2 j v e).symm
  | none=>
   have:acc.size<=j:=jd.mp e;rw[fN<|by rw[<- f.1];exact this];rfl
 rw[F];exact xM (s:=s) (I.kept (t':=M) U) (by rw[z,k]) (by rw[z];exact C) (λi r ks e1 e2=>⟨nF.of<|B i r ks e1 e2,t ks<|aS e2⟩) λl g h1 h2 h3=>q rs l g (by rw[z,k]) B h1 h2 h3
abbrev Itk (d:ak)(o:Obj)(u:HO)(rs:bb):It:=
 ⟨λi H=>(∃a,rs[i]?=some a)/\H d=some (.frz o u),λi H x H'=>H'=H/\∀a,rs[i]?=some a->x=.ref a,λi H=>i=rs.length/\H d=some (.frz o u)⟩
def Lq{P:aj}{w:ah}{K:au}(d it:ak){o:Obj}{es:Array DictEntry}{rs:bb}(hd:o.data=.dict es ep)(hl:es.size=rs.length)
  (hk:∀i:Nat,(es[i]?).map (λe:DictEntry=>e.key)=(rs[i]?).map Value.ref):Turn P w K tg (Itk d o u rs) [it] it (λi h=>h.IsKeyIter it d i es.size ep) where
 mem:=aO ..
 obj:=λi h st b hb=>by
  have:b=it:=by simpa using hb
  subst this;obtain⟨ob,h1,h2,h3⟩:=st;exact⟨ob,h1,λv z=>by rw[h3]at z;cases z⟩
 keep:=λi h h' st k=>st.at λx e=>k it (aO ..) x e
 item:=by
  w_up;subst hP hw hK;obtain⟨⟨a,ha⟩,hq⟩:=hg;have g:s.heap.get? d=some o:=(show kO _ _ H s.heap d (.frz o u)from I.hok d _ hq).1;have lt:i<es.size:=by rw[hl];exact(aJ.mp ha).1
  have ek:es[i].key=.ref a:=by
   have:=hk i;rw[gr lt,ha]at this;exact bf this
  obtain⟨f0,f1,f2,f3,f4,f5⟩:=hf it<|aO ..;refine Nf st g hd lt λh' f t=>?_;have j:Inv X pins σ H { s with heap:=h' }:=I.turned (t':=s.toks) (λb x hb e=>t.extBut b x hb e) f0 f1 f3 f4 f5;obtain⟨C,e,c,B⟩:=id f;rw[ek];exact⟨_,rfl,FG (s:={ s with heap:=h' }) e c B ⋯ ⟨.ref a,H,j,rfl,⟨rfl,λb hb=>by rw[ha]at hb;cases hb;rfl⟩,f,λb hb=>(hf b hb).1⟩⟩
 done:=by
  w_up;subst hP hw hK;obtain⟨F,hq⟩:=hg;have g:s.heap.get? d=some o:=(show kO _ _ H s.heap d (.frz o u)from I.hok d _ hq).1;obtain⟨f0,f1,f2,f3,f4,f5⟩:=hf it<|aO ..;exact HF (I.ok.hd hc) st g hd () λh' p=>⟨rfl,I.turned (t':=s.toks) (λb x hb e=>p b x hb e) f0 f1 f3 f4 f5⟩
 self:=λ_ _ _ _ _ st q=>wpAny_pyIter_keyiter st q
abbrev ZW (to:TE):TI:=λσ H R=>to σ H λx H1=>∃d kvs,x=.ref d/\H1 d=some (.dT kvs)/\∀(o:Obj) (f:bb),f.length=kvs.length->(∀(i:Nat) r p,f[i]?=some r->kvs[i]?=some p->H1 r=some (.tup<|p.1.map kV))->R (Itk d o (.dT kvs) f) (upd H1 d<|.frz o<|.dT kvs)
def Sa{e:aE}{to:TE}(he:PE X e to):PI X tg e (ZW to):=by
 intro pins s σ H R I h;refine mX (he pins s σ H _ I h) λv j h9=>?_;obtain⟨x,H1,I1,r1,d,kvs,ex,p,T⟩:=h9;subst ex
 cases r1
 obtain⟨z,hd,xs,C,dd⟩:=Bt I1.hok p;obtain⟨f,q,B,F,W,L,Z,_,k6⟩:=id dd;obtain⟨ob,es,ep,G,g,g2,J,U,g5,K,Y,N,V⟩:=Om I1 p;have P:f=ob:=by rw[g]at F;exact(bf F).symm
 subst P;refine Ay ⟨_,g,g2⟩ U g J ?_;have O:Inv X pins σ H1 { j with heap:=j.heap.push { cls:=.type "dict_keyiterator",data:=.fields #[.ref d,.int 0 0,.int es.size 0,.int ep 0]}}:=
  I1.kept (t':=j.toks) λb o k=>aV _ k
 have t:∀b ys,H1 b=some (.tup ys)->upd H1 d (.frz f<|.dT kvs) b=some (.tup ys):=λb ys k=>by
  rw[jP<|J7 k p λz=>nomatch z];exact k
 have M:Inv X pins σ (upd H1 d<|.frz f<|.dT kvs) _:=tU (t':=j.toks) (ob:=.frz f<|.dT kvs) O (by rw[p];exact True.intro) ⟨rfl,λ_ _=>rfl⟩ ⟨f,aV _ g⟩ ⟨aV _ g,z,hd,xs,C.keeps t,f,q,B,aV _ g,W,L,Z,k6⟩;refine⟨j.heap.objs.size,[j.heap.objs.size],_,Itk d f (.dT kvs) G,_,rfl,M,Lq d _ J (by rw[Y,K]) N,⟨_,bA _ rfl,rfl,rfl⟩,λb hb=>?_,T f G K V⟩;have k:b=j.heap.objs.size:=by simpa using hb
 subst k;refine I1.DS (aK _) ?_;rw[jP<|cR<|bE<|bh g];exact I1.hok.fresh<|aK _
end
section
variable {P:aj}{w:ah}{A:aA}{E:af->aC->Prop}{s:aC}
def Kz:typeLookup (.type "list") "keys" = pure none:=am_miss_of_fast<|by kernel_rfl
def LO{a:ak}{o:Obj}{k:Nat}{Q:bd->aC->Prop}(hx:s.heap.get? a=some o)(hc:o.cls=.type "list")(hdat:o.data=.seq xs k)(hd:o.dict=none)(hA:A.handled=none)
  (h:∀h' tk,(∀b ob,s.heap.get? b=some ob->h'.get? b=some ob)->Q none { s with heap:=h',toks:=tk }):wpAny (model P w) A (getAttr? (.ref a) "keys") Q E s:=by
 obtain⟨c,dct,z,q⟩:=o;simp only at hc hdat hd;subst hc hdat hd;obtain⟨B,g,d,tk,t⟩:=s;have p:∀f,(⟨B,g,d,f,t⟩:aC).TypeIs (.ref a) "list" := λ_=>⟨_,hx,rfl⟩;have f1:=sub_AttributeError;have f3:=gF.lookup;have f4:=gF.bind<|.ref a;have f5:=am_list_getattr_none;unfold getAttr? getAttrBy? getAttrBy
 repeat (any_goals (first|assumption|exact p _|((with_reducible show wpAny _ _ (call (Value.builtin "list.__getattribute__") _ _) _ _ _);refine iC gF (p _) am_entry_list_getattribute (F.args_list_getattribute_2 _ _) (meets_getattribute_miss_list a xs k q "keys" _ Kz ⋯ (by size_fits)) ⟨hx,hA,λh' f e j=>?_⟩)|wp_step))
 obtain⟨G,C,J⟩:=j.there
 skip
 unfold getattributeRaised
 repeat (any_goals (first|assumption|wp_step))
 exact h _ _ j.keeps
def BN:entryFor table "dict.update.loop" = some Builtin.«dict.update.loop»:=entryFor_of_tree<|by kernel_rfl
def ve:plainId "dict.update.loop" = true:=by decide +kernel
abbrev M0 (h:aq)(d I:ak)(its:ba)(ps:List<|Int×af):Prop:=∀(i:Nat) (v:af),its[i]?=some v->∃(b:ak) (p:Int×af) (t:Tok),v=.ref b/\b≠d/\b≠I/\ps[i]?=some p/\IsTup h b #[.int p.1 t,p.2]
def M0.mono{h h':aq}{d:ak}(x:M0 h d I its ps)(k:∀b o,b≠d->b≠I->h.get? b=some o->h'.get? b=some o):M0 h' d I its ps:=λi v hv=>by
 obtain⟨b,p,t,h1,h2,h3,j,o,g,f⟩:=x i v hv;exact⟨b,p,t,h1,h2,h3,j,o,k b o h2 h3 g,f⟩
abbrev V2 (ps:List<|Int×af):List (Key×af):=ps.foldl (λacc p=>stored acc (Sum.inl p.1) p.2) []
def PV(ps:List<|Int×af)(i:Nat)(p:Int×af)(h:ps[i]?=some p):V2 (ps.take<|i+1)=stored (V2<|ps.take i) (Sum.inl p.1) p.2:=by
 unfold V2;rw[bZ,h,dF];rfl
theorem JX:∀(ps:List<|Int×af) (acc:List<|Key×af),(ps.foldl (λacc p=>stored acc (Sum.inl p.1) p.2) acc).length<=acc.length+ps.length
 | [],acc=>aK _
 | p::ps,acc=>by
  have:=JX ps<|stored acc (Sum.inl p.1) p.2;have h:(stored acc (Sum.inl p.1) p.2).length<=acc.length+1:=by
   unfold stored;split
   ·rw[aG];lia
   ·rw[aW];exact aK _
  rw[dH,bG]
  lia
def Mt{R:Result->aC->Prop}{I l d:ak}{St:Nat->aq->Prop}{its:ba}{ps:List<|Int×af}(W:Walks P w A.in1 I [I,l] [I] its.length (λi v=>its[i]?=some v) St)(hdI:d≠I)(hdl:d≠l)(hl:ps.length=its.length)(hz:ps.length<=sizeLine) :
  ∀(k i:Nat) (s:aC),its.length-i=k->i<=its.length->St i s.heap->s.heap.DictOf (kJ P w) d (V2<|ps.take i)->M0 s.heap d I its ps ->
   (∀h' tk,h'.DictOf (kJ P w) d (V2 ps)->(∀b o,b≠d->b≠I->s.heap.get? b=some o->h'.get? b=some o)->R (.ok<|.ret .none) { s with heap:=h',toks:=tk }) ->
   codeAny (model P w) A (.builtin "dict.update.loop" ⟨[.ref d,.ref I,rawInt i,.none],[]⟩) R s:=by
 intro k
 induction k with
 | zero=>
  intro i s hk hi g L hP hR;have V:i=its.length:=()
  subst V;refine iN BN ?_;rw[gc ve _]
  skip
  refine aH (W.done s _ _ g λh' tk C=>?_)
  skip
  refine aH (aR<|aR<|hR h' tk ?_ λb o _ h2 e=>C b o (by simpa using h2) e);rw[<- hl,b7]at L;obtain⟨o,es,ep,B,rest⟩:=L;exact⟨o,es,ep,C d o (by simpa using hdI) B,rest⟩
 | succ k ih=>
  intro i s hk hi g L hP hR;have G:i<its.length:=()
  refine iN BN ?_;rw[gc ve _]
  skip
  refine aH<|W.item i s _ _ G g λv h' tk hv J C=>?_;have Y:M0 h' d I its ps:=hP.mono λb o h1 h2 e=>C b o (by simpa using h2) e;obtain⟨b,p,t,rfl,hbd,hbI,hp,o,B,hc,n,hd⟩:=Y i v hv;have T:h'.DictOf (kJ P w) d (V2<|ps.take i):=by
   obtain⟨o,es,ep,B,rest⟩:=L;exact⟨o,es,ep,C d o (by simpa using hdI) B,rest⟩
  have hT:Shared.TypeIs { s with heap:=h',toks:=tk } (.ref b) "tuple" := ⟨o,B,hc⟩;have j:∀(A:aA) (E:af->aC->Prop) (Q:ba->aC->Prop),Q [.int p.1 t,p.2] { s with heap:=h',toks:=tk }->wpAny (model P w) A (Builtin.Dict.pairItems<|.ref b) Q E { s with heap:=h',toks:=tk }:=λA E Q q=>by
   unfold Builtin.Dict.pairItems;refine aH<|ju hT ?_;rw[aN ⋯];refine aH<|gT B hd<|aR q
  have F:(V2<|ps.take i).length<=sizeLine:=by
   refine bH (JX (ps.take i) []) ?_;rw[bP,dB]
   lia
  refine aH (c8<|aH<|wpAny_tryCatch<|j _ _ _ ?_)
  skip
  refine c8 (wpAny_dictSet_pairs (hsz:=F) (knd:=kJ P w) (k:=Sum.inl p.1) (s:={ s with heap:=h',toks:=tk }) (show Value.isInt p.1 (.int p.1 t)=true by simp[Value.isInt]) T λh2 O hs=>?_);refine aR ⟨plainId_quiet ve _,?_⟩;have f:∀b o,b≠d->b≠I->s.heap.get? b=some o->h2.get? b=some o:=λb o h3 K e=>by rw[hs.2 b h3];exact C b o (by simpa using K) e
  refine ih (i+1) _ () G (W.frame _ _ _ J λb hb o e=>?_) (by rw[PV ps i p hp];exact O) (hP.mono f) λh3 N M U=>hR h3 N M λb o K h5 e=>U b o K h5<|f b o K h5 e;have Z:b≠d:=by
   intro z;subst z
   rcases bF.mp hb with z|z
   ·exact hdI z
   ·exact hdl<|by simpa using z
  skip
  rw[hs.2 b Z];exact e
theorem B5{H:Hp}{X:Cx}(I:Inv X pins σ H s):∀(rs:bb) (ps:List<|Int×V),rs.length=ps.length->(∀(i:Nat) (r:ak) (q:Int×V),rs[i]?=some r->ps[i]?=some q->nF X.K H r [.int q.1,q.2]) ->
  ∃qs:List<|Int×af,KV ps qs/\∀(i:Nat) (r:ak),rs[i]?=some r->∃q t,qs[i]?=some q/\IsTup s.heap r #[.int q.1 t,q.2]
 | [],[],_,_=>⟨[],.nil,λi r h=>by simp at h⟩
 | [],_::_,h,_=>nomatch h
 | _::_,[],h,_=>nomatch h
 | r::rs,p::ps,hl,hh=>by
  obtain⟨qs,h1,h2⟩:=B5 I rs ps (by simpa using hl) λi r q e1 e2=>hh (i+1) r q (by simpa using e1) (by simpa using e2);obtain⟨g,k,f,_⟩:=I.tuple<|hh 0 r p rfl rfl;obtain⟨j,d,rfl,r1,r2⟩:=vals2 k;obtain⟨t,rfl⟩:∃t,j=Value.int p.1 t:=r1;refine⟨(p.1,d)::qs,.cons ⟨rfl,r2⟩ h1,λi z e=>?_⟩
  cases i with
  | zero=>cases e;exact⟨(p.1,d),t,rfl,f⟩
  | succ i=>exact h2 i z<|by simpa using e
abbrev ptP (ps:List<|Int×V):List (Key×V):=ps.foldl (λacc p=>putK acc (Sum.inl p.1) p.2) []
def ZR:∀{ps:List<|Int×V}{qs:List<|Int×af},KV ps qs->∀{as:List<|Key×V}{bs:List<|Key×af},KV as bs->KV (ps.foldl (λacc p=>putK acc (Sum.inl p.1) p.2) as) (qs.foldl (λacc p=>stored acc (Sum.inl p.1) p.2) bs):=by
 intro ps qs h;unfold KV at h
 induction h with
 | nil=>exact λh=>h
 | @cons p q ps qs h t d=>
  intro as bs h2;rw[dH,dH];obtain⟨e,r⟩:=h;rw[e];exact d<|h2.put _ r
theorem JV:∀(ps:List<|Int×V) (acc:List<|Key×V),(ps.foldl (λacc p=>putK acc (Sum.inl p.1) p.2) acc).length<=acc.length+ps.length
 | [],acc=>aK _
 | p::ps,acc=>by
  have:=JV ps<|putK acc (Sum.inl p.1) p.2;have:=pJ acc (Sum.inl p.1) p.2;rw[dH,bG]
  lia
end
section
variable {X:Cx}
def G4(hc:X.calm=true):kj X (.type "dict") (λxs H Q=>∃(p:ak) (rs:bb) (ps:List<|Int×V),xs=[.ref p]/\qK X.K H p (rs.map V.ref)/\rs.length=ps.length /\
  (∀(i:Nat) (r:ak) (q:Int×V),rs[i]?=some r->ps[i]?=some q->nF X.K H r [.int q.1,q.2])/\∀l,H l=none->Q (.ref l) (upd H l<|.dK<|ptP ps)):=by
 kt_k;obtain⟨p,rs,ps,rfl,hq,C,hT,q⟩:=h;kpc_g
 cases rx
 obtain⟨its,rv,pl,hz⟩:=I.list hq;have ei:=xT rv;subst ei;rw[aG]at hz;obtain⟨U,kv,Y⟩:=B5 I rs ps C hT;have ql:ps.length=U.length:=kv.length;obtain⟨o,n,T,k,J,hd⟩:=pl;have Z:p<s.heap.objs.size:=bh T;refine callType_codes (Q₁:=λG j=>G=.ref s.heap.objs.size/\j={ s with heap:=s.heap.push { cls:=.type "dict",data:=.dict #[]}}) F.kt_called_dict (F.kt_typeCall_dict_1 _) F.entry_dict_init (kt_code_dict_new _ ⟨rfl,rfl⟩) ?_;rintro G j ⟨rfl,rfl⟩;have f:(s.heap.push { cls:=.type "dict",data:=.dict #[]}).DictOf (kJ X.prog X.w) s.heap.objs.size []:=Heap.DictOf.new s.heap;have g:(s.heap.push { cls:=.type "dict",data:=.dict #[]}).get? p=some o:=aV _ T;have L:Shared.TypeIs { s with heap:=s.heap.push { cls:=.type "dict",data:=.dict #[]}} (.ref p) "list" := ⟨o,g,k⟩;refine⟨f.typeIs,F.args_dict_init_2 _ _,?_⟩;unfold Builtin.«dict.__init__»;refine aH ?_;unfold Builtin.Dict.selfAndRest;refine aH (wpAny_notOrdered_dict f.typeIs ?_)
 skip
 refine aR ?_;show wpAny _ _ (Builtin.Dict.updateFrom "dict.__init__" s.heap.objs.size (.ref p) [] .none) _ _ _;unfold Builtin.Dict.updateFrom;refine aH<|ju L ?_;rw[aN ⋯];refine aH<|LO g k hd J (show X.A.in1.in1.handled=none from I.ok.hd hc) λh' tk z=>?_;rw[aN<|by rfl];refine aH<|d8 ?_;have B:h'.IsList p (rs.map Value.ref).toArray:=⟨o,z p o g,k,n,hd⟩;refine aH<|gR (s:={ s with heap:=h',toks:=tk }) B ?_;refine aR ⟨plainId_quiet ve _,?_⟩;have sz:s.heap.objs.size<h'.objs.size:=bh<|z _ _<|bA _ rfl;have W:Walks X.prog X.w X.A.in1.in1 h'.objs.size [h'.objs.size,p] [h'.objs.size] (rs.map Value.ref).length (λi v=>(rs.map Value.ref)[i]?=some v) (λi h=>h.IsListIter h'.objs.size p i/\h.IsList p (rs.map Value.ref).toArray):=by
  have W:=Walks.list (prog:=X.prog) (w:=X.w) (A:=X.A.in1.in1) (I.ok.hd hc) h'.objs.size p (bE<|bh<|z p o g) (rs.map Value.ref).toArray;rw[aZ]at W;dsimp[eV]at W;exact W
 refine Mt (d:=s.heap.objs.size) (its:=rs.map Value.ref) (ps:=U) W (bE sz) (cR<|bE Z) (by rw[aG];lia) () (rs.map Value.ref).length 0 _ () (bK _)
  ⟨⟨_,bA _ rfl,rfl,rfl⟩,B.push _⟩ ?_ (λi v hv=>?_) λh2 M hD hs=>⟨rfl,.ref s.heap.objs.size,_,I.laid (t':=M) (o:=.dK<|ptP ps) (λb ob O=>?_) (aK _) ?_,rfl,q _<|I.hok.fresh<|aK _⟩
 ·obtain⟨o,es,ep,e,rest⟩:=f;exact⟨o,es,ep,aV _<|z _ _ e,rest⟩
 ·rw[aX]at hv;obtain⟨r,hr,rfl⟩:=aY.mp hv;obtain⟨q,t,h1,o2,h2,h3⟩:=Y i r hr;have P:=bh h2;exact⟨r,q,t,rfl,bE P,bE<|jt P sz,h1,o2,aV _<|z _ _<|aV _ h2,h3⟩
 ·have N:=bh O;exact hs b ob (bE N) (bE<|jt N sz) (aV _<|z _ _<|aV _ O)
 ·refine Gb (bH (JV ps [])<|by rw[dB];lia) ?_ (ZR kv .nil) hD;exact cZ.mpr<|cR<|bE I.big
abbrev Rj (ns:ag):Sx.Ord where
 lt i j:=decide (ns.getD i 0<ns.getD j 0)
 NB i:=bB (by omega)
 tr i j k h1 h2:=bg (by have:=bY h1;have:=bY h2;omega)
 neg i j k h:=by
  have:=bY h;by_cases c:ns.getD i 0<ns.getD j 0
  ·exact .inl (bg c)
  ·exact .inr<|bg<|by omega
theorem J0:∀{vs:ba}{ns:ag},IntsAre vs ns->vs.length=ns.length/\∀i,i<vs.length->∃t,vs.getD i .none=.int (ns.getD i 0) t
 | _,_,.nil=>⟨rfl,λi h=>absurd h<|fR _⟩
 | _,_,.cons n t h=>by
  obtain⟨h1,h2⟩:=J0 h;refine⟨c7 (·+1) h1,λi d=>?_⟩
  cases i with
  | zero=>exact⟨t,rfl⟩
  | succ i=>exact h2 i<|by simpa using d
theorem z9{f:Nat->Int}{h:Nat->af}:∀(l:am),(∀i∈l,∃t,h i=.int (f i) t)->Vals (l.map λi=>V.int<|f i) (l.map h)
 | [],_=>.nil
 | i::l,e=>.cons (e i<|aO ..)<|z9 l λj d=>e j<|aQ _ d
def Gf{s:aC}{H:Hp}{Q:VK}{h':aq}{tk:Nat}{vs:ba}{ns:ag}(I1:Inv X pins σ H { s with heap:=h',toks:=tk })(hi:IntsAre vs ns)(hz:vs.length<=sizeLine)
  (q:∀l g,H l=none->Sx.Cl g 0 ns.length->Sx.So (Rj ns) g 0 ns.length->Q (.ref l) (upd H l<|.lst<|(List.range ns.length).map λi=>V.int<|ns.getD (g i) 0)) :
  wpAny (model X.prog X.w) X.A.in1 (do
   let l <- newList vs
   let _ <- holding [l] (call (Value.builtin "list.sort") [l] [])
   ret l) (λfin s'=>∃v,fin=Fin.done (Flow.ret v)/\EP X pins σ Q v s') X.xe { s with heap:=h',toks:=tk }:=by
 obtain⟨C,d⟩:=J0 hi;refine aH<|ji ?_;have f:(h'.push<|seqObj "list" vs.toArray 0).get? h'.objs.size=some (seqObj "list" vs.toArray 0):=bA _ rfl
 skip
 refine aH (c8<|c9 slot_list_sort ⟨_,f,rfl⟩ entry_list_sort (Sx.Br (o:=Rj ns) (kd:=oneType') f hz (λh2 B z=>?_) (λh2 i j p F J B z=>?_) λg hc hs=>⟨_,rfl,?_⟩)<|args_list_sort _)
 ·obtain⟨a,b,r,rfl⟩:∃a b r,vs=a::b::r:=by
   cases vs with
   | nil=>simp at h2
   | cons a vs=>cases vs with
    | nil=>simp at h2
    | cons b r=>exact⟨a,b,r,rfl⟩
  exact wpAny_of_eq (keyKind_ints hi) z
 ·obtain⟨t,e1⟩:=d i p;obtain⟨u,e2⟩:=d j F;show wpAny _ _ (keyLt' oneType' (vs.getD i .none)<|vs.getD j .none) B J _;rw[e1,e2,keyLt'_oneType];exact Sx.HU true z
 ·rw[C]at hc hs ⊢;obtain⟨e,G⟩:=sortedHeap_at (out:=((List.range ns.length).map λi=>vs.getD (g i) .none).toArray) f;have old:∀b ob,h'.get? b=some ob->(sortedHeap (h'.push<|seqObj "list" vs.toArray 0) h'.objs.size vs ((List.range ns.length).map λi=>vs.getD (g i) .none).toArray).get? b=some ob:=λb ob k=>by
   rw[sortedHeap_old (bE<|bh k)<|by rw[dw];exact fh<|bh k];exact aV _ k
  refine aR ⟨_,rfl,.ref h'.objs.size,_,I1.laid (t':=tk) (o:=.lst<|(List.range ns.length).map λi=>V.int<|ns.getD (g i) 0) old (aK _) ?_,rfl,q _ g (I1.hok.fresh<|aK _) hc hs⟩;refine⟨by rw[aG,b_];omega,(List.range ns.length).map λi=>vs.getD (g i) .none,e,z9 _ λi hi=>d _ (by have:=(hc i (bK _)<|cO.mp hi).2;omega),G⟩
def Lf{P:aj}{w:ah}{vs:List<|Key×af}:∀{acc:ba}{ns:ag},vs.map (·.1)=ns.map Sum.inl->acc.length=vs.length->(∀(j:Nat) v,acc[j]?=some v->∃k x,vs[j]?=some (k,x)/\(kJ P w).is k v=true)->IntsAre acc ns:=by
 intro acc ns d f h
 induction acc generalizing vs ns with
 | nil=>cases vs with
  | nil=>cases ns with
   | nil=>exact .nil
   | cons=>cases d
  | cons=>cases f
 | cons a acc p=>cases vs with
  | nil=>cases f
  | cons v vs=>cases ns with
   | nil=>cases d
   | cons n ns=>
    rw[bI,bI,List.cons.injEq]at d;obtain⟨k,x,e1,e2⟩:=h 0 a rfl
    cases e1
    obtain⟨e3,g⟩:=d;have e3:k=Sum.inl n:=e3;subst e3;obtain⟨t,rfl⟩:=Value.isInt_shape (k:=n) (v:=a) e2;exact .cons n t<|p g (by simpa using f) λj v e=>h (j+1) v<|by simpa using e
def CM(hc:X.calm=true):kj X (.builtin "sorted") (λxs H Q=>∃(d:ak) (kvs:List<|Key×V) (ns:ag),xs=[.ref d]/\H d=some (.dK kvs)/\kvs.map (λp=>p.1)=ns.map Sum.inl /\
  ∀l g,H l=none->Sx.Cl g 0 ns.length->Sx.So (Rj ns) g 0 ns.length->Q (.ref l) (upd H l<|.lst<|(List.range ns.length).map λi=>V.int<|ns.getD (g i) 0)):=by
 kt_k;obtain⟨d,kvs,ns,rfl,B,ek,q⟩:=h;kpc_g
 cases rx
 obtain⟨z,hd,t,k,F⟩:=Mf I.hok B;obtain⟨ep,C⟩:=F.dictAt;have G:kvs.length=t.length:=k.length;have K:t.map (·.1)=kvs.map (·.1):=by
  clear ek z F C G B;unfold KV at k
  induction k with
  | nil=>rfl
  | cons h _ J=>rw[bI,bI,J,h.1]
 refine dM kind_sorted iS iT (iU _) ?_;unfold Builtin.«sorted»;f_are;refine aH<|iR (PySem.W.kdl_dict hd) (show X.A.in1.handled=none from I.ok.hd hc) C () λh' M acc L f=>?_;have al:acc.toList.length=t.length:=by rw[d9];exact f.1
 exact Gf (s:=s) (I.kept (t':=M) L) (Lf (P:=X.prog) (w:=X.w) (K.trans ek) al λj v e=>f.2 j v<|by rw[c6]at e;exact e) () q
end
end L2
namespace Am
open PySem PySem.Spec PyProof.Rows L2
abbrev RH:ae->Option (List<|Int×A)
 | []=>some []
 | .tup [.int k,x]::r=>(RH r).map λps=>(k,x)::ps
 | _=>none
abbrev RO (ps:List<|Int×A):List (Int×A):=ps.foldl (λacc p=>xZ acc p.1 p.2) []
section
variable {K:au}{ρ:bb}{H:Hp}
def Ru{x:A}(r:AVs K ρ H [x,y] vs):∃v w,vs=[v,w]/\AV K ρ H x v/\AV K ρ H y w:=by
 cases r with
 | cons h t=>cases t with
  | cons h' d=>cases d;exact⟨_,_,rfl,h,h'⟩
def Pw{x:A}(e:RH (x::xs)=some ps):∃k y ps',x=.tup [.int k,y]/\RH xs=some ps'/\ps=(k,y)::ps':=by
 unfold RH at e;split at e
 ·rename_i e2;cases e2
 ·rename_i k y r e2
  cases e2
  obtain⟨ps',h1,h2⟩:=aY.mp e;exact⟨_,_,_,rfl,h1,h2.symm⟩
 ·cases e
def Y_:∀{xs:ae}{vs:List V}{ps:List<|Int×A},AVs K ρ H xs vs->RH xs=some ps ->
  ∃(rs:bb) (qs:List<|Int×V),vs=rs.map V.ref/\rs.length=qs.length/\(∀(i:Nat) (r:ak) (q:Int×V),rs[i]?=some r->qs[i]?=some q->nF K H r [.int q.1,q.2]) /\
   ∀as bs,DI K ρ H as bs->DI K ρ H (ps.foldl (λacc p=>xZ acc p.1 p.2) as) (qs.foldl (λacc p=>putK acc (Sum.inl p.1) p.2) bs):=by
 intro xs
 induction xs with
 | nil=>intro vs ps r e;cases r;cases e;exact⟨[],[],rfl,rfl,λi r q h=>by simp at h,λas bs h=>h⟩
 | cons x xs f=>
  intro vs ps r e;obtain⟨k,y,j,rfl,e1,rfl⟩:=Pw e
  cases r with
  | cons h t=>
   obtain⟨rs,qs,rfl,g,z,B⟩:=f t e1
   cases h with
   | @tup a _ us h r=>
    obtain⟨v,w,rfl,h1,h2⟩:=Ru r
    cases h1
    refine⟨a::rs,(k,w)::qs,rfl,by rw[bG,bG,g],λi r q e1 e2=>?_,λas bs d=>B _ _<|d.put h2 k⟩
    cases i with
    | zero=>cases e1;cases e2;exact nF.of h
    | succ i=>exact z i r q (by simpa using e1)<|by simpa using e2
end
section
variable {X:Cx}
abbrev DL (x:A)(S:jK):R A:=match x with
 | .ref n=>opt (jI S n) λxs=>opt (RH xs) λps=>.ok (.ref S.length) (S++[.qc<|RO ps])
 | _=>.no
def Ko(hc:X.calm=true):kj X (.type "dict") (rN X<|f1 DL):=kj.imp (G4 hc) λvs H Q h0=>by
 kd_p;clear h0
 cases hv with
 | ref q=>
  rename_i p n;kj_on;obtain⟨ps,hb,h⟩:=jN h;obtain⟨us,h1,r⟩:=R.lst q<|jW hn;obtain⟨k,g,rfl,f,t,z⟩:=Y_ r hb;refine⟨p,k,g,rfl,qK.of h1,f,t,λl d=>?_⟩;obtain⟨ex,j,f⟩:=R.YW (xs:=RO ps) (vs:=ptP g) d<|z [] [] trivial;exact h _ _ _ ex j<|.ref f
 | _=>exact h.elim
abbrev zO (x:A)(S:jK):R A:=match x with
 | .ref n=>opt (l8 S n) λkvs=>.ok (.ref S.length) (S++[.lst<|(sortI<|kvs.map Prod.fst).map .int])
 | _=>.no
def Uq{ns:ag}{g:Nat->Nat}(c:Sx.Cl g 0 ns.length)(so:Sx.So (Rj ns) g 0 ns.length):(List.range ns.length).map (λi=>ns.getD (g i) 0)=sortI ns:=by
 refine IK ?_ ?_ (w6 ns)
 ·refine List.Perm.trans ?_ (sortI_perm ns).symm;have p:=zq (N:=ns.length) (g:=g) (λi k=>(c i (bK _) k).2) λi j d f z=>by
   have:=so i j (bK _) d f;rw[z]at this;exact this.NB
  have:=p.map λi=>ns.getD i 0;rw[bz,range_getD]at this;exact this
 ·rw[cA];intro i j k f d;rw[aG,b_]at k f;rw[fH,fH,eT,eT];have:=eO (so i j (bK _) d f).ge
  lia
def TQ(hc:X.calm=true):kj X (.builtin "sorted") (rN X<|f1 zO):=kj.imp (CM hc) λt H Q h0=>by
 kd_p;clear h0
 cases hv with
 | ref f=>
  rename_i p n;kln_w;obtain⟨ks,j,k⟩:=R.qc f<|qg hn;refine⟨p,ks,kvs.map Prod.fst,rfl,j,by rw[k.keys,bz];rfl,λl g d hc hs=>?_⟩;have q:AVs X.K ρ H ((sortI<|kvs.map Prod.fst).map .int) ((List.range (kvs.map Prod.fst).length).map λi=>V.int<|(kvs.map Prod.fst).getD (g i) 0):=by
   rw[<- Uq hc hs,bz];exact AH λi _=>.int _
  exact nK R q .refl h l d
 | _=>exact h.elim
@[irreducible] noncomputable def big:Nat:=2 ^ 4096
theorem yL:big=2 ^ 4096:=by unfold big;rfl
def Ej{i:Int}(h:i.natAbs<big):Builtin.Int.intBits i<=2 ^ 20:=by
 rw[yL]at h;exact bH (intBits_le h) ⋯
abbrev Ht (a b:A)(S:jK):R A:=match a,b with
 | .int i,.int j=>gd (i.natAbs<big/\j.natAbs<big) (.ok (.int<|i * j) S)
 | _,_=>.no
def X0:n5 X (binaryOp .Mult) (r2 X Ht):=λpins s σ H x y v u Q I rx ry h9=>by
 z_go
 cases va with
 | int i=>cases vb with
  | int j=>
   obtain⟨⟨h1,h2⟩,h⟩:=kc h;obtain⟨t,rfl⟩:∃t,v=Value.int i t:=rx;obtain⟨d,rfl⟩:∃t,u=Value.int j t:=ry;exact mul_int ⟨.int _,H,I.tok _,⟨_,rfl⟩,h _ _ _ .refl R<|.int _⟩<|IntMulOk.of_bits (Ej h1)<|Ej h2
  | _=>exact h.elim
 | _=>exact h.elim
end
def Ka:bootBuiltins "dict" = some (.type "dict"):=by decide +kernel
abbrev kA (p:Int×Int):A:=.ktu [.int p.1,.int p.2]
abbrev O0 (K:au):af->Option (Int×Int)
 | .ref b=>match K.lookup b with
  | some ⟨.type "tuple",none,.seq its _,_⟩=>match its.toList with
   | [.int i _,.int j _]=>some (i,j)
   | _=>none
  | _=>none
 | _=>none
abbrev G5 (K:au):ba->Option (List<|Int×Int)
 | []=>some []
 | v::vs=>(O0 K v).bind λp=>(G5 K vs).map λps=>p::ps
abbrev YG (K:au)(a:ak):Option (List<|Int×Int):=match K.lookup a with
 | some ⟨.type "list",none,.seq its _,_⟩=>if its.size<=sizeLine then G5 K its.toList else none
 | _=>none
def MD{K:au}{v:af}{p:Int×Int}(h:O0 K v=some p):∃b,v=.ref b/\KTp K b [.int p.1,.int p.2]:=by
 unfold O0 at h;split at h
 ·rename_i b;refine⟨b,rfl,?_⟩;split at h
  ·rename_i d n f e;split at h
   ·rename_i i t j u e2
    cases h
    refine⟨_,d,n,e,rfl,rfl,rfl,?_,?_⟩
    ·rw[<- d9,e2];show 2<=sizeLine;decide
    ·rw[e2];exact .cons ⟨t,rfl⟩<|.cons ⟨u,rfl⟩ .nil
   ·cases h
  ·cases h
 ·cases h
def LC{K:au}{H:Hp}:∀{vs:ba}{ps:List<|Int×Int},G5 K vs=some ps->∃us:List V,Vals us vs/\AVs K ρ H (ps.map kA) us:=by
 intro vs
 induction vs with
 | nil=>intro ps h;cases h;exact⟨[],.nil,.nil⟩
 | cons v vs f=>
  intro ps h;obtain⟨p,h1,h⟩:=cG.mp h;obtain⟨j,h2,rfl⟩:=aY.mp h;obtain⟨us,h3,g⟩:=f h2;obtain⟨b,rfl,d⟩:=MD h1;exact⟨.ref b::us,.cons rfl h3,.cons (.ktu d<|.cons (.int _)<|.cons (.int _) .nil) g⟩
def Xb{K:au}{H:Hp}{a:ak}{ps:List<|Int×Int}(h:YG K a=some ps):AV K ρ H (.frz<|ps.map kA) (.ref a):=by
 unfold YG at h;split at h
 ·rename_i d n g e;split at h
  ·rename_i f;obtain⟨us,h1,h2⟩:=LC (ρ:=ρ) (H:=H) h;exact .frz (.inr ⟨_,d,n,e,rfl,rfl,rfl,f,h1⟩) h2
  ·cases h
 ·cases h
def Qo{X:Cx}{x:Str}{a:ak}{ps:List<|Int×Int}(hm:X.mg x=some (.ref a))(hk:YG X.K a=some ps)(hg:Gl X x:=by rfl)(hd:(x == ("__debug__" : Str))=false:=by decide):AE X (.Name x pos) (eC<|.frz<|ps.map kA):=
 PE.imp (HD (v:=.ref a) hg hm rfl hd) λσ H Q h9=>by
  x_go;exact h ρ H _ .refl R<|Xb hk
section
variable {X:Cx}
abbrev ZN (p:ag×A):A:=.tup<|p.1.map .int
abbrev Xu (n:Nat)(S:jK):R A:=opt (jZ S n) λkvs=>match (kvs.map Prod.fst).all (λks=>!ks.isEmpty)with
 | true=>.ok (.ref S.length) (S++[.lst<|(kB<|kvs.map Prod.fst).map λks=>.tup<|ks.map .int])
 | false=>.no
abbrev DH (x:A)(S:jK):R A:=match x with
 | .ref n=>Xu n S
 | _=>.no
theorem DN{K:au}{H:Hp}:∀{kvs:List<|ag×A}{ks:List<|List Key×V},DV K ρ H kvs ks->ks.map (λp=>p.1)=(kvs.map Prod.fst).map (λks=>ks.map Sum.inl)
 | [],[],_=>rfl
 | a::kvs,b::ks,⟨z,t⟩=>by
  have:=DN t;show b.1::ks.map _=a.1.map Sum.inl::_;rw[this,z.1]
def Up(hc:X.calm=true):kj X (.builtin "sorted") (rN X<|f1 DH):=kj.imp (Dz hc) λL H Q h0=>by
 kd_p;clear h0
 cases hv with
 | ref j=>
  rename_i p n;kln_w;obtain⟨ks,t,F⟩:=R.dct j (lC hn)
  cases hb:(kvs.map Prod.fst).all (λks=>!ks.isEmpty)with
  | false=>rw[hb]at h;exact h.elim
  | true=>
   rw[hb]at h;refine⟨p,ks,kvs.map Prod.fst,rfl,t,DN F,λk B z=>?_,λf l g J C d hc hs=>?_⟩
   ·have:=dO.mp hb k B;rw[z]at this
    cases this
   have G:AVs X.K ρ H ((kB<|kvs.map Prod.fst).map λks=>.tup<|ks.map .int) (((List.range (kvs.map Prod.fst).length).map λi=>f.getD (g i) 0).map V.ref):=by
    rw[<- GA hc hs,bz,bz];refine AH λi q=>?_;have lt:=(hc i (bK _)<|cO.mp q).2;have e1:f[g i]?=some (f.getD (g i) 0):=by rw[aL,aI<|by rw[J];exact lt];rfl
    have e2:(kvs.map Prod.fst)[g i]?=some ((kvs.map Prod.fst).getD (g i) []):=by rw[aL,aI lt];rfl
    exact .tup (C _ _ _ e1 e2)<|oq _
   exact nK R G .refl h l d
 | _=>exact h.elim
end
end Am
namespace L2
open PySem PySem.Spec PyProof.Rows
def EI(ek ev tg iter:aE)(ifs:List aE)(scope:Scope)(pos:Pos)(it:af)(d:ak)(env:Env) :
  compTurn (.DictComp ek ev [⟨tg,iter,ifs,0⟩] scope pos) 0 it (.ref d) env=(do
   standAt iter.pos
   match <- pyNext it with
   | none=>pure (.done .next)
   | some v=>
    letOwnedTupleGo tg it v
    assign tg env v
    let mut ok:=true
    for c in ifs do
     if ok then ok <- isTrue c env (eval c env)
    if ok then
     (do
      let kv <- eval ek env
      let vv <- holding [kv] (eval ev env)
      standAt { ek.pos with endLine:=ev.pos.endLine,endCol:=ev.pos.endCol }
      holding [kv,vv] (dictSet d kv vv))
    again (.compLoop (.DictComp ek ev [⟨tg,iter,ifs,0⟩] scope pos) 0 it (.ref d) env)):=by rfl
section
variable {prog:aj}{w:ah}{A:aA}{R:Result->aC->Prop}{s:aC}
def vE{ev iter:aE}{rest:List Comprehension}{acc:af}{env:Env}
  (h0:codeAny (model prog w) A (.compLoop (.DictComp ek ev (⟨tg,iter,ifs,0⟩::rest) scope pos) 0 it acc env) R s)
  (h:wpAny (model prog w) A (pyIter it) (λit' s'=>codeAny (model prog w) A (.compLoop (.DictComp ek ev (⟨tg,iter,ifs,0⟩::rest) scope pos) 0 it' acc env) R s')
   (notedBy (model prog w) A env λx s'=>R (.error x) s') s) :
  codeAny (model prog w) A (.compStart (.DictComp ek ev (⟨tg,iter,ifs,0⟩::rest) scope pos) 0 it acc env) R s:=by
 refine codeAny_of_tree ?_;show wpAny _ _ ((compStart (.DictComp ek ev (⟨tg,iter,ifs,0⟩::rest) scope pos) 0 it acc env).onRaise λx=>do noteFrame x env;standAt theWindowsPlace) _ _ s;refine wpAny_notedAt ?_;unfold compStart;show wpAny _ _ (ask >>= _) _ _ s;refine aH<|wpAny_askSetting<|wpAny_ite ?_;split
 ·first
   | exact aH (aR<|aR<|anI rfl h0)
   | exact aR<|anI rfl h0
 ·first
   | exact aH (d8<|aH<|fW<|aH<|gb h (λit' s' h'=>aR<|anI rfl h') λ_ _ x=>x)
   | (refine aH<|d8 ?_;show wpAny _ _ (standAt iter.pos >>= _) _ _ s;exact aH<|fW<|aH<|gb h (λit' s' h'=>aR<|anI rfl h') λ_ _ x=>x)
end
section
variable {X:Cx}{pins:bn}{σ:St}{H H':Hp}{s:aC}{a:ak}{y v:V}{u r:af}{A:aA}{E:af->aC->Prop}
def LA{Q:Unit->aC->Prop}(hu:A.units+1<cLine)(I:Inv X pins σ H s)(g:yI H a y v H')(ry:RelV y u)(rv:RelV v r)(h:∀s',Inv X pins σ H' s'->Q Unit.unit s') :
  wpAny (model X.prog X.w) A (dictSet a u r) Q E s:=by
 rcases g with⟨kvs,k,e,j,l,t⟩|⟨kvs,k,b,e,j,J,l,t⟩
 ·subst j t;obtain⟨z,C,L,d,F⟩:=Mf I.hok e;have B:L.length<=sizeLine:=by rw[<- d.length];exact z
  have p:(putK kvs k v).length<=sizeLine:=by have:=pJ kvs k v;lia
  refine wpAny_dictSet_pairs (hsz:=B) (Ag ry) F λh' f hs=>h _ ?_;have N:∃q,h'.get? a=some q:=let⟨q,_,_,hq,_⟩:=f;⟨q,hq⟩
  exact tU I (by rw[e];exact True.intro) hs N<|Gb p C (d.put k rv) f
 ·subst j t
  cases(show u=Value.ref b from ry)
  obtain⟨z,C,xs,d,F⟩:=Bt I.hok e;have B:xs.length<=sizeLine:=by rw[<- iJ d];exact z
  have p:(putK kvs k v).length<=sizeLine:=by have:=pJ kvs k v;lia
  refine wpAny_dictSet_heap (hsz:=B) (show A.units<cLine by lia) (tF I.hok J) F λh' f hs=>h _ ?_;obtain⟨q,es,ep,hq,h2,h3,M,_,K⟩:=f;refine tU I (by rw[e];exact True.intro) hs ⟨q,hq⟩ ⟨p,C,_,(d.put k J rv).keeps λc ys G=>?_,q,es,ep,hq,h2,h3,M,K⟩;rw[jP<|J7 G e λz=>nomatch z];exact G
end
abbrev Yo (ob:HO)(cap:List<|bj)(g:TG)(tc:TT)(tk tv:TE)(σ:St)(Q:VK)(J:It)(H1:Hp):Prop:=∀D,H1 D=none ->
 ∃W:Nat->Nat->St->Hp->Prop,(∃m,W 0 m (cap.map<|Rr σ)<|upd H1 D ob)/\∀i m j H',W i m j H' ->
  (J.stop i H'/\Q (.ref D) H')\/(J.go i H'/\∀x H2,J.yld i H' x H2->g x j H2 λd H3=>tc d H3 λb k=>
   if b=true then tk d k λy q=>tv d q λz t=>∃p,yI t D y z p/\∃f,f<m/\W (i+1) f d p
   else ∃f,f<m/\W (i+1) f d k)
abbrev tDC (ob:HO)(cap:List<|bj)(wi:TI)(g:TG)(tc:TT)(tk tv:TE):TE:=λσ H Q=>wi σ H<|Yo ob cap g tc tk tv σ Q
def SM{ok:Cx->Prop}{X:Cx}{use:Option<|af->Sem Unit}{Q':af->aC->Prop}{iter ev:aE}{N:ar}{wi:TI}{g:TG}{tc:TT}{tk tv:TE}{ob:HO}(hob:∀{P:aj}{w:ah}{H:Hp}(h:aq),sysModules<h.objs.size->kO P w H (h.push { cls:=.type "dict",data:=.dict #[]}) h.objs.size ob)(hu:X.A.units+1<cLine)(S:CpScope X scope N cap)(hok:∀C s₀ H₀ ex,(∀a o u,X.H₀ a=some (.frz o u)->H₀ a=some (.frz o u))->ok (kX X scope N C s₀ H₀ ex))(hi:ZQ ok X tg iter wi)
  (hg:∀C s₀ H₀ ex,PG (kX X scope N C s₀ H₀ ex) tg g) (ht:∀C s₀ H₀ ex,QY (kX X scope N C s₀ H₀ ex) ifs tc) (hk:∀C s₀ H₀ ex,PE (kX X scope N C s₀ H₀ ex) ek tk) (hv:∀C s₀ H₀ ex,PE (kX X scope N C s₀ H₀ ex) ev tv)
  (hs:∀x,foldedSetIterable iter X.env x=pure x:=by intro _;rfl):∀(pins:bn) (s:aC) (σ:St) (H:Hp) (Q:VK),Inv X pins σ H s->tDC ob cap wi g tc tk tv σ H Q ->
  (∀(s6:aC) (C D:ak) (H5:Hp) (m:Str->bd),s6.heap.Ns C m->vH X pins H5 C->(∀h',Heap.SameBut C s6.heap h'->Inv X pins σ H5 { s6 with heap:=h' })->Q (.ref D) H5->∀v,compPost (model X.prog X.w) X.A X.xe use Q' (.ref D) C (.ok v) s6) ->
  wpAny (model X.prog X.w) X.A (comprehension (.DictComp ek ev [⟨tg,iter,ifs,0⟩] scope pos) scope X.env (firstIterPos [⟨tg,iter,ifs,0⟩] pos) newDict (firstAsync [⟨tg,iter,ifs,0⟩]) (firstIter [⟨tg,iter,ifs,0⟩] X.env) use) Q' X.xe s:=by
 intro pins s σ H Q I h hfin;kst_p;refine wpAny_comprehension_free (use:=use) rfl hs (zK hfree) S.kind S.nm<|mX (hi pins s σ H _ I h) λxv s1 h1=>mX h1 λitv f h2=>?_;obtain⟨it,fp,tn,J,H2,rfl,I2,T,st2,f2,h2⟩:=h2;refine di<|J1 λU j old k=>?_;obtain⟨W,⟨m0,w0⟩,turn⟩:=h2 f.heap.objs.size I2.fresh;dsimp only at j old k ⊢;have I3:Inv X pins σ (upd H2 f.heap.objs.size ob) { f with heap:=f.heap.push { cls:=.type "dict",data:=.dict #[]}}:=I2.laid (a:=f.heap.objs.size) (o:=ob) (h':=f.heap.push { cls:=.type "dict",data:=.dict #[]}) (t':=f.toks) (λ_ _ q=>aV _ q) (aK _)<|hob f.heap I2.big;have hfp:∀b∈fp,∃o,f.heap.get? b=some o:=λb hb=>by
  obtain⟨o,e,_⟩:=T.obj 0 _ st2 b hb;exact⟨o,e⟩
 have neD:∀b∈fp,b≠f.heap.objs.size:=λb hb=>by
  obtain⟨o,e⟩:=hfp b hb;exact bE<|bh e
 have f3:∀b∈fp,vH X pins (upd H2 f.heap.objs.size ob) b:=λb hb=>⟨by rw[jP<|neD b hb];exact(f2 b hb).1,(f2 b hb).2⟩;have hDC:f.heap.objs.size≠(f.heap.push { cls:=.type "dict",data:=.dict #[]}).objs.size:=by rw[dw];exact bE (dD _)
 have I4:=OX (tk:=f.toks+([]:List<|Str×af).length) (fp:=fp) S I3 f3 (λb hb=>by
  obtain⟨o,e⟩:=hfp b hb;exact⟨o,aV _ e⟩) j k old
 have st4:tn 0 U:=T.keep _ _ _ st2 λb hb o e=>old b o<|aV _ e;have hc:=hok (f.heap.push { cls:=.type "dict",data:=.dict #[]}).objs.size { f with heap:=f.heap.push { cls:=.type "dict",data:=.dict #[]}} (upd H2 f.heap.objs.size ob) fp λa o u e=>by
  have z:=I2.base.frzs a o u e;rw[jP λq=>by rw[q,I2.fresh]at z;cases z];exact z
 have K:∀{H':Hp},(∀b∈fp,H' b=none)->∀b∈fp,vH (kX X scope N (f.heap.push { cls:=.type "dict",data:=.dict #[]}).objs.size { f with heap:=f.heap.push { cls:=.type "dict",data:=.dict #[]}} (upd H2 f.heap.objs.size ob) fp) [] H' b:=λhn b hb=>by
  have ok:=I4.ok;refine⟨hn b hb,(ok.exf b hb).1,ok.exfs b hb,.inl hb,λx c e=>(ok.exf b hb).2 x c e,λp hp=>nomatch hp⟩
 have O:∀s4:aC,s4={ f with heap:=U,toks:=f.toks+([]:List<|Str×af).length } ->
   codeAny (model X.prog X.w) X.A (.compLoop (.DictComp ek ev [⟨tg,iter,ifs,0⟩] scope pos) 0 (.ref it) (.ref f.heap.objs.size)<|compEnvC scope (cellsFrom ((f.heap.push { cls:=.type "dict",data:=.dict #[]}).objs.size+1) scope.names<|vC X.env scope.names []) (f.heap.push { cls:=.type "dict",data:=.dict #[]}).objs.size X.env)
    (compPost (model X.prog X.w) X.A X.xe use Q' (.ref f.heap.objs.size) (f.heap.push { cls:=.type "dict",data:=.dict #[]}).objs.size) s4:=by
  rintro s4 rfl;refine codeAny_loop rfl (λn s'=>∃i G H',Inv (kX X scope N (f.heap.push { cls:=.type "dict",data:=.dict #[]}).objs.size { f with heap:=f.heap.push { cls:=.type "dict",data:=.dict #[]}} (upd H2 f.heap.objs.size ob) fp) [] G H' s'/\tn i s'.heap/\(∀b∈fp,H' b=none)/\W i n G H') (λn s5 hI=>?_) m0 ⟨0,_,_,I4,st4,λb hb=>(f3 b hb).1,w0⟩;obtain⟨i,M,H5,I5,st5,fr5,w5⟩:=hI;show wpAny _ X.A ((compTurn (.DictComp ek ev [⟨tg,iter,ifs,0⟩] scope pos) 0 (.ref it) (.ref f.heap.objs.size)<|compEnvC scope (cellsFrom ((f.heap.push { cls:=.type "dict",data:=.dict #[]}).objs.size+1) scope.names<|vC X.env scope.names []) (f.heap.push { cls:=.type "dict",data:=.dict #[]}).objs.size X.env).onRaise λx=>do noteFrame x _;theTreesLotGoes x) _ _ s5;refine wpAny_noted ?_;rw[EI];refine aH (fW<|aH ?_)
  rcases turn i n M H5 w5 with⟨stop,q⟩|⟨go,step⟩
  ·refine mX (T.done (kX X scope N (f.heap.push { cls:=.type "dict",data:=.dict #[]}).objs.size { f with heap:=f.heap.push { cls:=.type "dict",data:=.dict #[]}} (upd H2 f.heap.objs.size ob) fp) rfl rfl rfl hc i [] s5 M H5 _ I5 (K fr5) st5 stop) λr s6 h9=>?_;obtain⟨hr,V⟩:=h9;subst hr;obtain⟨m6,hn6,_⟩:=V.loc;refine aR<|hfin s6 _ _ H5 m6 hn6 (I3.DS (aK _) V.free) (λh' sb=>?_) q _;have Z:=V.base;have nC:∀b o,(f.heap.push { cls:=.type "dict",data:=.dict #[]}).get? b=some o->b≠(f.heap.push { cls:=.type "dict",data:=.dict #[]}).objs.size:=λb o e=>bE<|bh e;refine I3.Mi (ch:=fp) V.os ⟨λb o e n hb hx=>?_,λb o e n hb hx=>?_,λb o e n hx=>?_,λb o e hx=>?_,Z.tups,Z.frzs,Z.tbls⟩ ?_ V.bare ?_
   ·exact sb.extBut b o (nC b o e) (Z.keep b o e n hb hx)
   ·obtain⟨sl,z⟩:=Z.slot b o e n hb hx;exact⟨sl,sb.extBut b _ (nC b o e) z⟩
   ·exact Z.free b o e n hx
   ·obtain⟨o',z⟩:=Z.there b o e hx;exact⟨o',sb.extBut b _ (nC b o e) z⟩
   ·intro b o e;have hb:∀c v,H5 c=some v->c≠(f.heap.push { cls:=.type "dict",data:=.dict #[]}).objs.size:=λc v e z=>by
     rw[z]at e;have:=V.free;rw[show H5 (f.heap.push { cls:=.type "dict",data:=.dict #[]}).objs.size=none from this]at e
     cases e
    refine(V.hok b o e).stay (λc v hc q=>sb.extBut c v ?_ q) (λ_ q=>q) λ_ _ q=>q
    rcases hc with z|z
    ·rw[z];exact hb b o e
    ·exact hb c _ z
   ·intro b hb;obtain⟨_,z1,_,z3,z4,z5⟩:=f3 b hb;exact⟨z3,z1,z4,z5⟩
  ·refine mX (T.item (kX X scope N (f.heap.push { cls:=.type "dict",data:=.dict #[]}).objs.size { f with heap:=f.heap.push { cls:=.type "dict",data:=.dict #[]}} (upd H2 f.heap.objs.size ob) fp) rfl rfl rfl hc i [] s5 M H5 _ I5 (K fr5) st5 go) λr s6 h9=>?_;obtain⟨u,hr,h6⟩:=h9;subst hr;refine aH<|mX h6 λ_ s7 ⟨x,H7,I7,r7,y7,Y,fr7⟩=>?_;have I7':=I7.pinned (K fr7)<|T.obj _ _ Y;refine aH<|EV (hg _ _ _ fp _ s7 M H7 x u _ I7' r7<|step x H7 y7) λ_ s8 ⟨t,H8,I8,q8⟩=>?_;refine aH<|EV (ht _ _ _ fp _ s8 t H8 _ I8 q8) λok s9 ⟨H9,I9,q9⟩=>?_;have again:∀{F:aC} {B:Hp},Inv (kX X scope N (f.heap.push { cls:=.type "dict",data:=.dict #[]}).objs.size { f with heap:=f.heap.push { cls:=.type "dict",data:=.dict #[]}} (upd H2 f.heap.objs.size ob) fp) ([]++xY fp s7.heap) t B F->(∃m',m'<n/\W (i+1) m' t B) ->
     ∃m,m<n/\∃i G H',Inv (kX X scope N (f.heap.push { cls:=.type "dict",data:=.dict #[]}).objs.size { f with heap:=f.heap.push { cls:=.type "dict",data:=.dict #[]}} (upd H2 f.heap.objs.size ob) fp) [] G H' F/\tn i F.heap/\(∀b∈fp,H' b=none)/\W i m G H':=λ{F B} L h9=>by
    obtain⟨m',hm,w10⟩:=h9;refine⟨m',hm,i+1,t,B,L.sH,T.keep _ _ _ Y λb hb o e=>(L.pin (b,o)<|bM _<|bM _<|nU hb e).1,λb hb=>?_,w10⟩;obtain⟨o,e,d⟩:=T.obj _ _ Y b hb;exact(L.pin (b,o)<|bM _<|bM _<|nU hb e).2.1
   cases ok with
   | false=>
    rw[aM bN]at q9;exact aR ⟨rfl,again I9 q9⟩
   | true=>
    rw[aN rfl]at q9;refine aH<|aH<|EV (hk _ _ _ fp _ s9 t H9 _ I9 q9) λy F ⟨v10,B,L,r10,q10⟩=>?_;refine aH<|c8<|EV (hv _ _ _ fp _ F t B _ L q10) λz s11 ⟨v11,H11,I11,r11,H12,dp,w12⟩=>?_;refine aH<|fW<|c8 ?_;exact LA (X:=kX X scope N _ _ _ fp) hu I11 dp r10 r11 λs12 I12=>aR ⟨rfl,again I12 w12⟩
 exact vE (O _ rfl)<|T.self _ 0 _ _ _ st4<|O _ rfl
def Bb{env:Env}(ek ev gens scope pos):eval (.DictComp ek ev gens scope pos) env =
  comprehension (.DictComp ek ev gens scope pos) scope env (firstIterPos gens pos) newDict (firstAsync gens) (firstIter gens env):=rfl
def XG{ok:Cx->Prop}{X:Cx}{iter ev:aE}{N:ar}{wi:TI}{g:TG}{tc:TT}{tk tv:TE}{ob:HO}(hob:∀{P:aj}{w:ah}{H:Hp}(h:aq),sysModules<h.objs.size->kO P w H (h.push { cls:=.type "dict",data:=.dict #[]}) h.objs.size ob)(hu:X.A.units+1<cLine)(S:CpScope X scope N cap)(hok:∀C s₀ H₀ ex,(∀a o u,X.H₀ a=some (.frz o u)->H₀ a=some (.frz o u))->ok (kX X scope N C s₀ H₀ ex))(hi:ZQ ok X tg iter wi)
  (hg:∀C s₀ H₀ ex,PG (kX X scope N C s₀ H₀ ex) tg g) (ht:∀C s₀ H₀ ex,QY (kX X scope N C s₀ H₀ ex) ifs tc) (hk:∀C s₀ H₀ ex,PE (kX X scope N C s₀ H₀ ex) ek tk) (hv:∀C s₀ H₀ ex,PE (kX X scope N C s₀ H₀ ex) ev tv)
  (hs:∀x,foldedSetIterable iter X.env x=pure x:=by intro _;rfl):PE X (.DictComp ek ev [⟨tg,iter,ifs,0⟩] scope pos) (tDC ob cap wi g tc tk tv):=by
 gp_on;rw[Bb];exact SM (use:=none) (Q':=EP X pins σ Q) hob hu S hok hi hg ht hk hv hs pins s σ H Q I h λj C D d m hn k inv q v=>⟨m,hn,λh' f=>⟨.ref D,d,inv h' f,rfl,q⟩⟩
def aar{X:Cx}{iter ev:aE}{N:ar}{wi:TI}{g:TG}{tc:TT}{tk tv:TE}{ob:HO}(hob:∀{P:aj}{w:ah}{H:Hp}(h:aq),sysModules<h.objs.size->kO P w H (h.push { cls:=.type "dict",data:=.dict #[]}) h.objs.size ob)(hu:X.A.units+1<cLine)(hc:X.calm=true)(S:CpScope X scope N cap)(hi:PI X tg iter wi)
  (hg:∀C s₀ H₀ ex,PG (kX X scope N C s₀ H₀ ex) tg g) (ht:∀C s₀ H₀ ex,QY (kX X scope N C s₀ H₀ ex) ifs tc) (hk:∀C s₀ H₀ ex,PE (kX X scope N C s₀ H₀ ex) ek tk) (hv:∀C s₀ H₀ ex,PE (kX X scope N C s₀ H₀ ex) ev tv)
  (hs:∀x,foldedSetIterable iter X.env x=pure x:=by intro _;rfl):PE X (.DictComp ek ev [⟨tg,iter,ifs,0⟩] scope pos) (tDC ob cap wi g tc tk tv):=
 XG hob hu S (λ_ _ _ _ _=>hc) hi.g hg ht hk hv hs
end L2
namespace Am
open PySem PySem.Spec PyProof.Rows L2
def Zn{α:Type}{c:Prop}[Decidable c]{r:R α}{a:α}(h:gd c r=.ok a S):c/\r=.ok a S:=by
 unfold gd at h;by_cases hc:c
 ·rw[aN hc]at h;exact⟨hc,h⟩
 ·rw[aM hc]at h;cases h
def QU{α:Type}{l m:List α}{n:Nat}{p:α}(h:l <+: m)(e:l[n]?=some p):m[n]?=some p:=by
 obtain⟨t,rfl⟩:=h;rw[bw (aJ.mp e).1,e]
abbrev yG (st:A->A->A->jK->R Unit)(s:Src)(g:Tg)(t:Te)(ek ev:Ex)(n:Nat):Nat->Nat->ae->jK->R (ae)
 | 0,_=>λτ S=>if s.fin S then .ok τ S else .no
 | k+1,i=>λτ S=>opt (s.get i S) λx=>(g x τ S).oN λd S1=>(t d S1).oN λb S2=>match b with
  | true=>(ek d S2).oN λy S3=>(ev d S3).oN λz f=>(st (.ref n) y z f).oN λ_ j=>yG st s g t ek ev n k (i+1) d j
  | false=>yG st s g t ek ev n k (i+1) d S2
abbrev Uz (o:O)(st:A->A->A->jK->R Unit)(cap:List<|bj)(src:Ic)(g:Tg)(t:Te)(ek ev:Ex):Ex:=λτ S=>(src τ S).bind λs S1=>(yG st s g t ek ev S1.length s.k 0 (lX cap τ)<|S1++[o]).oN λ_ S2=>.ok (.ref S1.length) S2
def K8{st:A->A->A->jK->R Unit}{s:Src}{g:Tg}{t:Te}{ek ev:Ex}{n k:Nat}{T:Prop}(h:yG st s g t ek ev n (k+1) i τ S=.ok τ' S')
  (q:∀x τ1 S1 b S2,s.get i S=some x->g x τ S=.ok τ1 S1->t τ1 S1=.ok b S2->(b=true->∃y S3 z S4 u S5,ek τ1 S2=.ok y S3/\ev τ1 S3=.ok z S4/\st (.ref n) y z S4=.ok u S5/\yG st s g t ek ev n k (i+1) τ1 S5=.ok τ' S')->(b=false->yG st s g t ek ev n k (i+1) τ1 S2=.ok τ' S')->T):T:=by
 obtain⟨x,j,h⟩:=DG h;obtain⟨τ1,S1,h1,h⟩:=n9 h;obtain⟨b,S2,h2,h⟩:=n9 h;refine q x τ1 S1 b S2 j h1 h2 (λhb=>?_) λhb=>?_
 ·subst hb;obtain⟨y,S3,h3,h⟩:=n9 h;obtain⟨z,S4,f,h⟩:=n9 h;obtain⟨u,S5,d,h⟩:=n9 h;exact⟨y,S3,z,S4,u,S5,h3,f,d,h⟩
 ·subst hb;exact h
structure DKind (K:au)(o:O)(ob:HO)(st:A->A->A->jK->R Unit):Prop where
 obj:∀{P:aj} {w:ah} {H:Hp} (h:aq),sysModules<h.objs.size->kO P w H (h.push { cls:=.type "dict",data:=.dict #[]}) h.objs.size ob
 new:∀{ρ:bb} {H:Hp} {S:jK} {p:ak},Rel K ρ H S->H p=none->Ext ρ (ρ++[p]) H (upd H p ob)/\Rel K (ρ++[p]) (upd H p ob) (S++[o])/\(ρ++[p])[S.length]?=some p
 put:∀{ρ:bb} {H:Hp} {S S':jK} {n:Nat} {p:ak} {y z:A} {vy vz:V} {u:Unit},Rel K ρ H S->ρ[n]?=some p->AV K ρ H y vy->AV K ρ H z vz->st (.ref n) y z S=.ok u S'->∃H',yI H p vy vz H'/\Ext ρ ρ H H'/\Rel K ρ H' S'
def UH{K:au}:DKind K (.dct []) (.dT []) qd:=by
 refine⟨λh hb=>zH h hb,λR f=>R.aaa (xs:=[]) (vs:=[]) f trivial,λ{ρ H S S' n p y z vy vz u} R f ay az h=>?_⟩;unfold qd at h
 cases ay with
 | @tup q xs vs hq r=>
  obtain⟨kvs,hn,h⟩:=DG h;obtain⟨g,B,h⟩:=DG h;obtain⟨j,h⟩:=Zn h
  cases h
  obtain⟨ks,e,d⟩:=R.dct f<|lC hn;have z:=qi r B;subst z;rw[<- vm]at hq;obtain⟨ex,k⟩:=R.putD f (lC hn)<|d.put az g;exact⟨_,yI.t e hq<|by rw[<- d.length];exact j,ex,k⟩
 | _=>cases h
section
variable {X:Cx}{pos:Pos}{tg iter ek ev:aE}{ifs:List aE}{scope:Scope}{N:ar}{cap:List (bj)}{src:Ic}{g:Tg}{t:Te}{ck cv:Ex}{o:O}{ob:HO}{st:A->A->A->jK->R Unit}
def W2(dk:DKind X.K o ob st)(σ:L2.St)(H:Hp)(Q:VK)(h:tE X (Uz o st cap src g t ck cv) σ H Q):tDC ob cap (tI X src) (YN X.K g) (X_ X.K t) (Vi X.K ck) (Vi X.K cv) σ H Q:=by
 kl_no;refine⟨ρ,S,τ,R,r,jM (jT h) .refl λs S1 h1 ρ1 H1 J e1 R1 jr D hD=>?_⟩;obtain⟨p,S2,hcg,h1⟩:=zU h1;have h1:AO X ρ H Q (.ref S1.length) S2:=h1;obtain⟨eD,RD,G⟩:=dk.new R1 hD;refine⟨λi m O H'=>∃ρ' S' L,i+m=s.k/\Ext (ρ1++[D]) ρ' (upd H1 D ob) H'/\Rel X.K ρ' H' S'/\SR X.K ρ' H' L O/\yG st s g t ck cv S1.length m i L S'=.ok p S2,⟨s.k,ρ1++[D],S1++[o],lX cap τ,(),.refl,RD,Uw ((r.ext e1).ext eD) cap,hcg⟩,?_⟩;rintro i m σ3 H3 ⟨ρ3,S3,C,hm,e3,R3,r3,d⟩;have T:ρ3[S1.length]?=some D:=QU e3.pre G;have j:=eD.trans e3
 cases m with
 | zero=>
  left;have d:(if s.fin S3 then Am.R.ok C S3 else .no)=.ok p S2:=d
  cases hf:s.fin S3 with
  | false=>rw[hf]at d;cases d
  | true=>
   rw[hf]at d
   cases d
   exact⟨by rw[show i=s.k by lia];exact jr.stop _ H3 ρ3 j.toExt0 R3 hf,h1 ρ3 H3 _ (e1.trans j) R3<|.ref T⟩
 | succ m=>
  right;refine K8 d λx f S4 b S5 hx Y W hT hF=>?_;have jg:=jr.go i S3 H3 ρ3 x j.toExt0 R3 hx;refine⟨jg.1,λv H4 y=>?_⟩;obtain⟨e4,R4,v4⟩:=jg.2 v H4 y;refine⟨ρ3,S3,C,x,f,S4,R4,r3.ext e4,v4,Y,λρ5 H5 σ5 e5 R5 q=>⟨ρ5,S4,f,b,S5,R5,q,W,λN H6 F R6=>?_⟩⟩;have B:=(e4.trans e5).trans F
  cases b with
  | false=>
   dsimp only;rw[aM bN];exact⟨m,dD _,N,S5,f,(),e3.trans B,R6,q.ext F,hF rfl⟩
  | true=>
   dsimp only;rw[aN rfl];obtain⟨y,S6,z,S7,u,S8,hy,hz,hs,cg8⟩:=hT rfl;refine⟨N,S5,f,y,S6,R6,q.ext F,hy,λV H7 vy Z R7 a7=>⟨V,S6,f,z,S7,R7,q.ext<|F.trans Z,hz,λU H8 vz P R8 a8=>?_⟩⟩;have M:=(B.trans Z).trans P;obtain⟨H9,dp,e9,R9⟩:=dk.put R8 (QU (e3.trans M).pre G) (a7.ext P) a8 hs;exact⟨H9,dp,m,dD _,U,S8,f,(),(e3.trans M).trans e9,R9,q.ext<|((F.trans Z).trans P).trans e9,cg8⟩
def UD(dk:∀K,DKind K o ob st)(hu:X.A.units+64<cLine)(hc:X.calm=true)(Sc:CpScope X scope N cap)(hi:AI X tg iter src)(hg:∀C s₀ H₀ ex,AG (kX X scope N C s₀ H₀ ex) tg g)(ht:∀C s₀ H₀ ex,ATs (kX X scope N C s₀ H₀ ex) ifs t)(hk:∀C s₀ H₀ ex,AE (kX X scope N C s₀ H₀ ex) ek ck)(hv:∀C s₀ H₀ ex,AE (kX X scope N C s₀ H₀ ex) ev cv)
  (hs:∀x,foldedSetIterable iter X.env x=pure x:=by intro _;rfl):AE X (.DictComp ek ev [⟨tg,iter,ifs,0⟩] scope pos) (Uz o st cap src g t ck cv):=
 PE.imp (aar (dk X.K).obj () hc Sc hi (g:=YN X.K g) (tc:=X_ X.K t) (tk:=Vi X.K ck) (tv:=Vi X.K cv) (λC s₀ H₀ ex=>(hg C s₀ H₀ ex).g0 rfl) (λC s₀ H₀ ex=>ht C s₀ H₀ ex) (λC s₀ H₀ ex=>(hk C s₀ H₀ ex).e0 rfl) (λC s₀ H₀ ex=>(hv C s₀ H₀ ex).e0 rfl) hs) (W2<|dk X.K)
end
end Am
namespace L2
open PySem PySem.Spec PyProof.Rows
section
variable {X:Cx}{pins:bn}{σ:St}{H:Hp}{s:aC}{a:ak}{xs:List (mT×ak×af)}
def U5{r:ak}{x:ag}(I:Inv X pins σ H s)(h:H r=some (.tup<|x.map V.int)):TK s.heap x r:=by
 obtain⟨_,d,f,o,h1,h2,_,n,h3⟩:=(show kO _ _ H s.heap r (.tup<|x.map V.int)from I.hok r _ h);exact⟨o,d.toArray,n,h1,h2,h3,by simpa using intsAre_of f⟩
def CL{k:mT}(I:Inv X pins σ H s)(h:sq H b k):vF s.heap k b:=by
 obtain⟨r1,r2,h1,h2,h3⟩:=h;obtain⟨_,f,j,o,e1,e2,_,n,e3⟩:=(show kO _ _ H s.heap b (.tup [.ref r1,.ref r2])from I.hok b _ h1);obtain⟨q,p,rfl,d,g⟩:=vals2 j
 cases d
 cases g
 exact⟨o,n,r1,r2,e1,e2,e3,U5 I h2,U5 I h3⟩
def U0(I:Inv X pins σ H s)(e:H a=some (.ext<|wI a xs))(hk:∀x∈xs,sq H x.2.1 x.1):(a == sysModules)=false/\xs.length<=sizeLine/\s.heap.DictOfH (Em X.prog X.w) a xs:=by
 obtain⟨⟨h1,h2,o,es,ep,h3,k,f,d,g⟩,_⟩:=(show kO _ _ H s.heap a (.ext<|wI a xs)from I.hok a _ e);exact⟨h1,h2,o,es,ep,h3,k,f,d,λx j=>CL I<|hk x j,g⟩
def MH{P:aj}{w:ah}{H':Hp}{h':aq}(h1:(a == sysModules)=false)(h2:xs.length<=sizeLine)(dd:h'.DictOfH (Em P w) a xs):kO P w H' h' a (.ext<|wI a xs):=by
 obtain⟨o,es,ep,h3,z,g,d,_,p⟩:=dd;refine⟨⟨h1,h2,o,es,ep,h3,z,g,d,p⟩,⟨o,h3⟩,λB C j k=>?_⟩;obtain⟨f,t,o,es,ep,h3,q⟩:=j;exact⟨f,t,o,es,ep,k o h3,q⟩
structure DPg (H:Hp)(a b:ak)(xs:List (mT×ak×af))(k:mT):Prop where
 d:H a=some (.ext<|wI a xs)
 ks:∀x∈xs,sq H x.2.1 x.1
 k:sq H b k
def Xr(hu:X.A.units+32<cLine):n5 X (compareOp .In) (λy x H Q=>∃a b xs k,x=.ref a/\y=.ref b/\DPg H a b xs k/\Q (.bl (atKey xs k).isSome) H):=by
 intro pins s σ H y x v u Q I ry rx h;obtain⟨a,b,xs,k,rfl,rfl,g,q⟩:=h
 cases rx
 cases ry
 obtain⟨h1,h2,f⟩:=U0 I g.d g.ks;exact wpAny_in_heap (show X.A.in1.units+16<cLine by simp;lia) (CL I g.k) h1 f ⟨.bl _,H,I.tok _,rfl,q⟩
def F0{xs:List<|mT×ak×af}{k:mT}:(storedH xs k b u).length<=xs.length+1:=by
 unfold storedH;split
 ·rw[aG];lia
 ·rw[aW];exact aK _
def VI(hu:X.A.units+32<cLine):E3 X (λo i v H Q=>∃a b xs k,o=.ref a/\i=.ref b/\DPg H a b xs k/\xs.length<sizeLine/\∀u,RelV v u->Q (upd H a<|.ext<|wI a<|storedH xs k b u)):=by
 intro pins s σ H o i v F iv u Q I j z t h;obtain⟨a,b,xs,k,rfl,rfl,g,p,q⟩:=h
 cases j
 cases z
 obtain⟨h1,h2,C⟩:=U0 I g.d g.ks;refine wpAny_setItem_heap (hsz:=h2) (show X.A.in1.units+16<cLine by simp;omega) (CL I g.k) C λh' f hs=>⟨_,?_,q u t⟩;have B:∃q,h'.get? a=some q:=let⟨q,_,_,hq,_⟩:=f;⟨q,hq⟩
 exact tU I (by rw[g.d];exact True.intro) hs B<|MH h1 (bH F0 p) f
abbrev Yx:TE:=λ_ H Q=>∀p,H p=none->Q (.ref p) (upd H p<|.ext<|wI p [])
def PU:PE X (.Dict [] [] pos) Yx:=λpins s σ H Q I h=>
 wpAny_Dict_empty ⟨.ref s.heap.objs.size,_,I.laid (a:=s.heap.objs.size) (o:=.ext<|wI s.heap.objs.size []) (t':=s.toks) (λ_ _ q=>aV _ q) (aK _)
  (MH (cZ.mpr<|cR<|bE I.big) (bK _) ⟨_,#[],0,bA _ rfl,⟨rfl,rfl,rfl⟩,rfl,rfl,(nofun),dz⟩),rfl,h _<|I.hok.fresh<|aK _⟩
end
end L2
namespace Am
open PySem PySem.Spec PyProof.Rows L2
abbrev qf (S:jK)(n:Nat):Option (List<|mT×A):=match S[n]? with
 | some (.vh xs)=>some xs
 | _=>none
def pH{n:Nat}(h:qf S n=some xs):S[n]?=some (.vh xs):=by
 unfold qf at h;split at h
 ·rename_i e;cases h;exact e
 ·cases h
def zF{S:jK}{n:Nat}(h:S[n]?=some (.vh xs)):qf S n=some xs:=by
 unfold qf;rw[h]
abbrev rB (kvs:List<|mT×A)(k:mT):Option A:=(kvs.find? λkv=>decide<|kv.1=k).map (·.2)
abbrev yE (kvs:List<|mT×A)(k:mT)(v:A):List (mT×A):=
 if (rB kvs k).isSome=true then kvs.map (λkv=>if kv.1=k then(kv.1,v)else kv)else kvs++[(k,v)]
abbrev FL (x:A):Option mT:=match x with
 | .tup [.tup xs,.tup ys]=>(A.ints xs).bind λf=>(A.ints ys).map λd=>(f,d)
 | _=>none
section
variable {K:au}{ρ:bb}{H:Hp}
def LR{p:mT×A}{r:List<|mT×A}{k:mT}(e:p.1=k):rB (p::r) k=some p.2:=by simp[rB,b9,e]
def Lb{p:mT×A}{r:List<|mT×A}{k:mT}(e:¬p.1=k):rB (p::r) k=rB r k:=by simp[rB,b9,e]
theorem DP.look:∀{kvs:List<|mT×A}{ks:List<|mT×ak×af}(k:mT),DP K ρ H kvs ks->(rB kvs k).isSome=(atKey ks k).isSome/\∀x,rB kvs k=some x->∃p v,atKey ks k=some p/\RelV v p.2/\AV K ρ H x v
 | [],[],k,_=>⟨rfl,λx h=>nomatch h⟩
 | p::r,q::r',k,⟨⟨e,_,v,rv,a⟩,t⟩=>by
  by_cases c:p.1=k
  ·have d:q.1=k:=by rw[e,c]
   have b:atKey (q::r') k=some q.2:=by simp[atKey,b9,d]
   rw[LR c,b];exact⟨rfl,λx h=>by cases h;exact⟨_,v,rfl,rv,a⟩⟩
  ·have d:¬q.1=k:=λz=>c<|e.symm.trans z;have b:atKey (q::r') k=atKey r' k:=by simp[atKey,b9,d]
   rw[Lb c,b];exact DP.look k t
theorem DP.repl{x:A}{v:V}(h:AV K ρ H x v)(rv:RelV v u)(k:mT):∀{kvs:List<|mT×A}{ks:List<|mT×ak×af},DP K ρ H kvs ks->DP K ρ H (kvs.map λkv=>if kv.1=k then(kv.1,x)else kv) (ks.map<|putAt k u)
 | [],[],_=>trivial
 | p::r,q::r',⟨⟨e,ka,z⟩,t⟩=>by
  refine⟨?_,DP.repl h rv k t⟩;dsimp only;unfold putAt;by_cases c:p.1=k
  ·rw[aN c,aN<|by rw[e,c]];exact⟨e,ka,v,rv,h⟩
  ·rw[aM c,aM λz=>c<|e.symm.trans z];exact⟨e,ka,z⟩
theorem DP.snoc{x:A}{v:V}(h:AV K ρ H x v)(rv:RelV v u)(k:mT)(hk:sq H b k):∀{kvs:List<|mT×A}{ks:List<|mT×ak×af},DP K ρ H kvs ks->DP K ρ H (kvs++[(k,x)]) (ks++[(k,b,u)])
 | [],[],_=>⟨⟨rfl,hk,v,rv,h⟩,trivial⟩
 | p::r,q::r',⟨a,t⟩=>⟨a,DP.snoc h rv k hk t⟩
def DP.put{x:A}{v:V}(h:AV K ρ H x v)(rv:RelV v u)(k:mT)(hk:sq H b k){ks:List<|mT×ak×af}(d:DP K ρ H kvs ks):DP K ρ H (yE kvs k x) (storedH ks k b u):=by
 unfold yE storedH;rw[<- (d.look k).1];by_cases c:(rB kvs k).isSome=true
 ·rw[aN c,aN c];exact DP.repl h rv k d
 ·rw[aM c,aM c];exact DP.snoc h rv k hk d
def DP.length:∀{kvs:List<|mT×A}{ks:List<|mT×ak×af},DP K ρ H kvs ks->kvs.length=ks.length
 | [],[],_=>rfl
 | _::_,_::_,⟨_,t⟩=>c7 (·+1) t.length
def DP.keys:∀{kvs:List<|mT×A}{ks:List<|mT×ak×af},DP K ρ H kvs ks->∀x∈ks,sq H x.2.1 x.1
 | [],[],_,x,h=>nomatch h
 | _::_,q::_,⟨⟨_,ka,_⟩,t⟩,x,h=>by
  rcases bF.mp h with z|z
  ·rw[z];exact ka
  ·exact t.keys x z
def Rel.vh{n:Nat}{a:ak}(R:Rel K ρ H S)(ha:ρ[n]?=some a)(hS:S[n]?=some (.vh xs)):∃vs,H a=some (.ext<|wI a vs)/\DP K ρ H xs vs:=R.at n a _ ha hS
def Rel.ab6{S:jK}{p:ak}(R:Rel K ρ H S)(hp:H p=none):Ext ρ (ρ++[p]) H (upd H p<|.ext<|wI p [])/\Rel K (ρ++[p]) (upd H p<|.ext<|wI p []) (S++[.vh []])/\(ρ++[p])[S.length]?=some p:=by
 have ex:Ext ρ (ρ++[p]) H (upd H p<|.ext<|wI p []):=⟨⟨dQ _ _,λa u _ h=>by rw[jP<|j3 h hp];exact h⟩,λa u h _=>by rw[jP<|j3 h hp];exact h,λa h=>by
  rcases bq.mp h with z|z
  ·exact .inl z
  ·have e:a=p:=by simpa using z
   rw[e];exact .inr hp⟩
 have j:p∉ρ:=R.FE hp;have d:(ρ++[p])[S.length]?=some p:=by rw[<- R.len];simp
 refine⟨ex,⟨by simp[R.len],?_,?_⟩,d⟩
 ·rw[cE];cb_eq;have:b=p:=by simpa using hb
  exact j<|by rw[<- this,<- e];exact ha
 ·intro n a o h1 h2;by_cases hn:n<S.length
  ·rw[bw<|by rw[R.len];exact hn]at h1;rw[bw hn]at h2;have na:a≠p:=λz=>j (by rw[<- z];exact aS h1);have:=R.at n a o h1 h2
   cases o with
   | lst ys=>obtain⟨f,e,q⟩:=this;exact⟨f,by rw[jP na];exact e,q.ext ex⟩
   | dct _|qc _|vh _=>obtain⟨f,e,q⟩:=this;exact⟨f,by rw[jP na];exact e,q.ext ex⟩
   | dcf _=>obtain⟨g,f,e,q⟩:=this;exact⟨g,f,by rw[jP na];exact e,q.ext ex⟩
   | ins _ _=>obtain⟨g,k,e⟩:=this;exact⟨g,k,by rw[jP na];exact e⟩
  ·have e:n=S.length:=by
    have:=(aJ.mp h2).1;simp at this
    lia
   subst e;rw[d]at h1
   cases h1
   simp at h2;subst h2;exact⟨[],kD,trivial⟩
def Rel.yE{S:jK}{n:Nat}{a:ak}(R:Rel K ρ H S)(ha:ρ[n]?=some a)(hS:S[n]?=some (.vh xs))(r:DP K ρ H ys ws):Ext ρ ρ H (upd H a<|.ext<|wI a ws)/\Rel K ρ (upd H a<|.ext<|wI a ws) (S.set n<|.vh ys):=by
 obtain⟨p,e,_⟩:=R.at n a _ ha hS;have ex:Ext ρ ρ H (upd H a<|.ext<|wI a ws):=⟨⟨dP _,λb u i h=>by
  have:b≠a:=by
   intro z;subst z;rw[e]at h;cases h;exact i
  rw[jP this];exact h⟩,λb u h n=>by
  rw[jP λz=>n<|by rw[z];exact aS ha];exact h,λ_ h=>.inl h⟩
 refine⟨ex,by rw[bV];exact R.len,R.nd,λm b o h1 h2=>?_⟩;by_cases j:m=n
 ·subst j;rw[ha]at h1;cases h1;rw[bJ (aJ.mp hS).1]at h2
  cases h2
  exact⟨ws,kD,r.ext ex⟩
 ·rw[bL<|cR j]at h2;have nb:b≠a:=λz=>by
   subst z;obtain⟨t,e1⟩:=aJ.mp ha;obtain⟨B,e2⟩:=aJ.mp h1;exact j<|(cX R.nd).mp<|e2.trans e1.symm
  have:=R.at m b o h1 h2
  cases o with
  | lst ys=>obtain⟨d,f,q⟩:=this;exact⟨d,by rw[jP nb];exact f,q.ext ex⟩
  | dct _|qc _|vh _=>obtain⟨d,f,q⟩:=this;exact⟨d,by rw[jP nb];exact f,q.ext ex⟩
  | dcf _=>obtain⟨g,d,f,q⟩:=this;exact⟨g,d,by rw[jP nb];exact f,q.ext ex⟩
  | ins _ _=>obtain⟨g,k,f⟩:=this;exact⟨g,k,by rw[jP nb];exact f⟩
def IV{x:A}{v:V}{k:mT}(a:AV K ρ H x v)(h:FL x=some k):∃b,v=.ref b/\sq H b k:=by
 unfold FL at h;split at h
 ·rename_i xs ys;obtain⟨B,h1,h⟩:=cG.mp h;obtain⟨C,h2,e⟩:=aY.mp h;subst e
  cases a with
  | @tup b _ z hb r=>
   obtain⟨F,t,rfl,g,d⟩:=Ra r
   cases g with
   | @tup c1 _ f p r1=>
    cases d with
    | @tup c2 _ j q r2=>
     have e1:=qi r1 h1;have e2:=qi r2 h2;subst e1 e2;exact⟨b,rfl,c1,c2,hb,p,q⟩
 ·cases h
end
section
variable {X:Cx}{pos:Pos}{a b:aE}
abbrev AQ (neg:Bool)(x y:A)(S:jK):R A:=match y with
 | .ref n=>opt (qf S n) λkvs=>opt (FL x) λk=>.ok (.bl<|if neg then !(rB kvs k).isSome else(rB kvs k).isSome) S
 | _=>.no
def aaz(hu:X.A.units+64<cLine):n5 X (compareOp .In) (r2 X<|AQ false):=λpins s σ H x y v u Q I rx ry h9=>by
 z_go
 cases vb with
 | @ref p n g=>
  kln_w;obtain⟨k,j,h⟩:=jN h;obtain⟨ks,e,d⟩:=R.vh g<|pH hn;obtain⟨q,rfl,f⟩:=IV va j;exact Xr () pins s σ H _ _ v u Q I rx ry ⟨p,q,ks,k,rfl,rfl,⟨e,d.keys,f⟩,by rw[<- (d.look k).1];exact h _ _ _ .refl R<|.bl _⟩
 | _=>exact h.elim
abbrev E_ (o i v:A)(S:jK):R Unit:=match o with
 | .ref n=>opt (qf S n) λkvs=>opt (FL i) λk=>gd (kvs.length<sizeLine) (.ok Unit.unit<|S.set n<|.vh<|yE kvs k v)
 | _=>.no
abbrev abt (X:Cx):Hi:=λo i v H Q=>∃ρ S ao f d,Rel X.K ρ H S/\AV X.K ρ H ao o/\AV X.K ρ H f i/\AV X.K ρ H d v/\(E_ ao f d S).post (λ_ g=>∀ρ' H',Ext ρ ρ' H H'->Rel X.K ρ' H' g->Q H') (XE X ρ H)
def Ub(hu:X.A.units+64<cLine):E3 X (abt X):=λpins s σ H o i v G iv u Q I j C z h9=>by
 obtain⟨ρ,S,ao,L,M,R,h1,h2,h3,h⟩:=h9
 cases h1 with
 | @ref p n g=>
  kln_w;obtain⟨k,J,h⟩:=jN h;obtain⟨t,h⟩:=kc h;obtain⟨ks,e,d⟩:=R.vh g<|pH hn;obtain⟨q,rfl,f⟩:=IV h2 J;refine VI (by omega) pins s σ H _ _ v G iv u Q I j C z ⟨p,q,ks,k,rfl,rfl,⟨e,d.keys,f⟩,by rw[<- d.length];exact t,λK F=>?_⟩;obtain⟨ex,B⟩:=R.yE g (pH hn)<|d.put h3 F k f;exact h _ _ ex B
 | _=>exact h.elim
abbrev RZ (co ci:Ex):Tg:=λa τ S=>(co τ S).bind λo S1=>(ci τ S1).bind λi S2=>(E_ o i a S2).bind λ_ S3=>.ok τ S3
def JU(hu:X.A.units+64<cLine){co ci:Ex}(ho:AE X o co)(hi:AE X i ci)
  (ha:∀v,assign (.Subscript o i pos) X.env v=(do
   let ov <- holding [v] (eval o X.env)
   let iv <- holding [v,ov] (eval i X.env)
   standAt pos
   holding [v,ov,iv] (setItem ov iv v)
   release [v,ov,iv] []):=by intro _;rfl):AG X (.Subscript o i pos) (RZ co ci):=PG.imp (Dw ho hi (Ub hu) ha) λv σ H Q h9=>by
 obtain⟨ρ,S,τ,a,R,r,va,h⟩:=h9;k_ne;gn_on;ksr_p
abbrev Hf:Ex:=λ_ S=>.ok (.ref S.length)<|S++[.vh []]
def Py:AE X (.Dict [] [] pos) Hf:=PE.imp PU λσ H Q ⟨ρ,S,τ,R,r,h⟩ p f=>by
 obtain⟨ex,d,g⟩:=R.ab6 f;exact h _ _ _ ex d<|.ref g
end
abbrev G1 {α:Type}(x:ag×α):List (ag×α)->List (ag×α)
 | []=>[x]
 | y::ys=>if HT.lexLt y.1 x.1=true then y::G1 x ys else x::y::ys
abbrev zW {α:Type}:List (ag×α)->List (ag×α)
 | []=>[]
 | x::xs=>G1 x<|zW xs
section
variable {α:Type}
theorem BB(x:ag×α):∀ys:List<|ag×α,(G1 x ys).Perm (x::ys)
 | []=>eS _
 | y::ys=>by
  unfold G1;by_cases h:HT.lexLt y.1 x.1=true
  ·rw[aN h];exact((BB x ys).cons y).trans (List.Perm.swap x y ys)
  ·rw[aM h]
theorem vV:∀xs:List<|ag×α,(zW xs).Perm xs
 | []=>eS _
 | x::xs=>(BB x<|zW xs).trans<|(vV xs).cons x
theorem FQ(x:ag×α):∀ys:List<|ag×α,(G1 x ys).map Prod.fst=DO x.1 (ys.map Prod.fst)
 | []=>rfl
 | y::ys=>by
  unfold G1;rw[bI];unfold DO;by_cases h:HT.lexLt y.1 x.1=true
  ·rw[aN h,aN h,bI,FQ]
  ·rw[aM h,aM h];rfl
theorem BH:∀xs:List<|ag×α,(zW xs).map Prod.fst=kB (xs.map Prod.fst)
 | []=>rfl
 | x::xs=>by
  show(G1 x<|zW xs).map Prod.fst=DO x.1 (kB<|xs.map Prod.fst);rw[FQ,BH]
theorem C4:∀{l:List<|ag×α},(l.map Prod.fst).Nodup->∀a∈l,∀b∈l,a.1=b.1->a=b
 | [],_,_,h,_,_,_=>nomatch h
 | x::l,nd,a,ha,b,hb,e=>by
  obtain⟨h1,h2⟩:=bU.mp nd
  rcases bF.mp ha with j|f
  ·rcases bF.mp hb with g|d
   ·rw[j,g]
   ·subst j;exact absurd (e ▸ fF d) h1
  ·rcases bF.mp hb with g|d
   ·subst g;exact absurd (e ▸ fF f) h1
   ·exact C4 h2 a f b d e
def Gr{xs ys:List<|ag×α}(nd:(ys.map Prod.fst).Nodup)(p:xs.Perm ys)(h:(xs.map Prod.fst).Pairwise CP):xs=zW ys:=by
 refine fy (le:=λ(a b:ag×α)=>CP a.1 b.1) (λ(a b:ag×α) ha hb h1 h2=>C4 nd a (p.mem_iff.mp ha) b ((vV ys).mem_iff.mp hb) (Sx.xr (show HT.lexLt b.1 a.1=false from h1)<|show HT.lexLt a.1 b.1=false from h2).symm) ?_ ?_ (p.trans (vV ys).symm)
 ·exact cJ.mp h
 ·have:=uL<|ys.map Prod.fst;rw[<- BH]at this;exact cJ.mp this
end
end Am
namespace L2
open PySem PySem.Spec PyProof.Rows
section
variable {X:Cx}
def VV{H:Hp}{s:aC}{d:ak}{kvs:List<|List Key×V}(I:Inv X pins σ H s)(ed:Rd H d<|.dT kvs) :
  ∃(ob:Obj) (es:Array DictEntry) (ep:Nat) (rs:bb),s.heap.get? d=some ob/\ob.cls=.type "dict" /\ ob.data=.dict es ep/\(d == sysModules)=false/\kvs.length<=sizeLine/\rs.length=kvs.length/\es.size=kvs.length /\
   (∀i:Nat,(es[i]?).map (λe:DictEntry=>e.key)=(rs[i]?).map Value.ref)/\∀(i:Nat) r p,rs[i]?=some r->kvs[i]?=some p->H r=some (.tup<|p.1.map kV):=by
 obtain⟨z,C,xs,f,F⟩:=zl I.hok ed;obtain⟨ob,es,ep,q,t,B,j,J,L⟩:=id F;obtain⟨k,G⟩:=kt_at f;have g:es.size=xs.length:=by have:=c7 List.length j;simpa using this
 refine⟨ob,es,ep,xs.map λy=>y.2.1,q,t.1,B,C,z,by rw[aG,k],by rw[g,k],λi=>?_,λi r p e1 e2=>?_⟩
 ·rw[<- c6,j,aX,aX,eU,eU]
  cases xs[i]?<;>rfl
 ·obtain⟨y,h1,h2,h3,K⟩:=G i p e2;rw[aX,h1]at e1
  cases e1
  exact h3
def Cp(hc:X.calm=true):kj X (.builtin "sorted") (λxs H Q=>∃(d:ak) (kvs:List<|List Key×V) (kss:List<|ag),xs=[.ref d]/\Rd H d (.dT kvs)/\kvs.map (λp=>p.1)=kss.map (λks=>ks.map Sum.inl)/\(∀ks∈kss,ks≠[]) /\
  ∀(rs:bb) l g,rs.length=kss.length->(∀(i:Nat) (r:ak) (ks:ag),rs[i]?=some r->kss[i]?=some ks->H r=some (.tup<|ks.map V.int))->H l=none->Sx.Cl g 0 kss.length->Sx.So (Sx.Gp kss) g 0 kss.length ->
   Q (.ref l) (upd H l<|.lst<|((List.range kss.length).map λi=>rs.getD (g i) 0).map V.ref)):=by
 kt_k;obtain⟨d,kvs,kss,rfl,G,ek,t,q⟩:=h;kpc_g
 cases rx
 obtain⟨ob,es,ep,rs,O,P,T,K,C,z,N,J,L⟩:=VV I G;have k:kvs.length=kss.length:=by have:=c7 List.length ek;simpa using this
 have B:∀(i:Nat) (r:ak) (ks:ag),rs[i]?=some r->kss[i]?=some ks->H r=some (.tup<|ks.map V.int):=λi r ks e1 e2=>by
  have lt:i<kvs.length:=by rw[k];exact(aJ.mp e2).1
  have h1:=L i r kvs[i] e1 (aI lt);have h2:(kvs.map λp=>p.1)[i]?=(kss.map λks=>ks.map Sum.inl)[i]?:=by rw[ek]
  rw[aX,aX,e2,aI lt]at h2;have h3:kvs[i].1=ks.map Sum.inl:=bf h2;rw[h3,bz]at h1;exact h1
 refine dM kind_sorted iS iT (iU _) ?_;unfold Builtin.«sorted»;f_are;refine aH (iR (HR K P T) (show X.A.in1.handled=none from I.ok.hd hc) O (by rw[N];exact C) λh' M acc U f=>?_);have F:acc.toList=rs.map Value.ref:=by
  refine fu λj=>?_;rw[c6,aX,<- J j]
  cases e:acc[j]? with
  | some v=>exact(f.2 j v e).symm
  | none=>
   have:acc.size<=j:=jd.mp e;rw[fN<|by rw[<- f.1];exact this];rfl
 rw[F];exact xM (s:=s) (I.kept (t':=M) U) (by rw[z,k]) (by rw[z];exact C) (λi r ks e1 e2=>⟨nF.of<|B i r ks e1 e2,t ks<|aS e2⟩) λl g h1 h2 h3=>q rs l g (by rw[z,k]) B h1 h2 h3
end
end L2
namespace Am
open PySem PySem.Spec PyProof.Rows L2
section
variable {X:Cx}{pos:Pos}{a b:aE}
abbrev lO (S:jK)(n:Nat):Option (List<|ag×A):=match S[n]? with
 | some (.dct kvs)=>some kvs
 | some (.dcf kvs)=>some kvs
 | _=>none
def HZ{K:au}{H:Hp}{n:Nat}{p:ak}(R:Rel K ρ H S)(hp:ρ[n]?=some p)(hn:lO S n=some kvs):∃ks,Rd H p (.dT ks)/\DV K ρ H kvs ks:=by
 unfold lO at hn;split at hn
 ·rename_i h
  cases hn
  obtain⟨ks,e,d⟩:=R.at n p _ hp h;exact⟨ks,.inl e,d⟩
 ·rename_i h
  cases hn
  obtain⟨o,ks,e,d⟩:=R.at n p _ hp h;exact⟨ks,.inr ⟨o,e⟩,d⟩
 ·cases hn
def EU{H:Hp}{p q:ak}{n:Nat}{ns:ag}(R:Rel X.K ρ H S)(hp:ρ[n]?=some p)(hn:lO S n=some kvs)(hq:H q=some (.tup vs))(r:AVs X.K ρ H xs vs)(hi:A.ints xs=some ns) :
  ∃ks,DV X.K ρ H kvs ks/\t_ H p (.ref q) (qv ks<|ns.map Sum.inl):=by
 obtain⟨ks,e,d⟩:=HZ R hp hn;have z:=qi r hi;subst z;rw[<- vm]at hq;exact⟨ks,d,.inr ⟨ks,ns.map Sum.inl,q,e,rfl,hq,rfl⟩⟩
abbrev QV (x y:A)(S:jK):R A:=match x,y with
 | .ref n,.tup xs=>opt (lO S n) λkvs=>opt (A.ints xs) λd=>opt (kN kvs d) λv=>.ok v S
 | _,_=>.no
def Zj(hu:X.A.units+64<cLine):Um X (r2 X QV):=λf j pins s σ H x y v u Q I rx ry ⟨ρ,S,a,b,R,va,vb,h⟩ hs=>by
 cases va with
 | @ref p n B=>
  cases vb with
  | @tup q xs G hq r=>
   kln_w;obtain⟨t,C,h⟩:=jN h;obtain⟨z,F,h⟩:=jN h;obtain⟨ks,d,g⟩:=EU R B hn hq r C;obtain⟨w,hw,k⟩:=(d.look t).2 z F;rw[hw]at g;exact Cm () f j pins s σ H _ _ v u Q I rx ry ⟨p,w,rfl,g,h _ _ _ .refl R k⟩ hs
  | _=>exact h.elim
 | _=>exact h.elim
def Wz(hu:X.A.units+64<cLine){ca cb:Ex}(ha:AE X a ca)(hb:AE X b cb)(hs:xw b:=by exact λ_ _=>rfl):AE X (.Subscript a b pos) (jO QV ca cb):=PE.imp (IL (Zj hu) ha hb hs) λσ H Q h=>sN h
abbrev KG (neg:Bool)(x y:A)(S:jK):R A:=match x,y with
 | .tup xs,.ref n=>opt (lO S n) λkvs=>opt (A.ints xs) λd=>.ok (.bl<|if neg then !(kN kvs d).isSome else(kN kvs d).isSome) S
 | _,_=>.no
def Zl(hu:X.A.units+64<cLine):n5 X (compareOp .In) (r2 X<|KG false):=λpins s σ H x y v u Q I rx ry h9=>by
 z_go
 cases va with
 | @tup q xs t hq r=>
  cases vb with
  | @ref p n f=>
   kln_w;obtain⟨k,j,h⟩:=jN h;obtain⟨ks,d,g⟩:=EU R f hn hq r j;exact VG () pins s σ H _ _ v u Q I rx ry ⟨p,_,rfl,g,by rw[<- (d.look k).1];exact h _ _ _ .refl R<|.bl _⟩
  | _=>exact h.elim
 | _=>exact h.elim
def Rel.YZ{K:au}{H:Hp}{S:jK}{n:Nat}{a:ak}{ks:List<|List Key×V}(R:Rel K ρ H S)(ha:ρ[n]?=some a)(hS:S[n]?=some (.dct xs))(d:DV K ρ H xs ks):Ext ρ ρ H (upd H a<|.frz o<|.dT ks)/\Rel K ρ (upd H a<|.frz o<|.dT ks) (S.set n<|.dcf xs):=by
 obtain⟨ex,R2⟩:=R.gone (o:=o) (u:=.dT ks) ha hS;refine⟨ex,by rw[bV];exact R.len,R.nd,λm b ob h1 h2=>?_⟩;by_cases f:m=n
 ·subst f;rw[ha]at h1;cases h1;rw[bJ (aJ.mp hS).1]at h2
  cases h2
  exact⟨o,ks,kD,d.ext ex⟩
 ·rw[bL<|cR f]at h2;exact R2.at m b ob h1<|by rw[bL<|cR f];exact h2
abbrev ab2 (a:A)(S:jK):R Src:=match a with
 | .ref n=>opt (jZ S n) λkvs=>.ok (pU<|kvs.map ZN) (S.set n<|.dcf kvs)
 | _=>.no
abbrev EA (c:Ex):Ic:=λτ S=>(c τ S).bind λa S1=>ab2 a S1
def FP{e:aE}{c:Ex}(ha:AE X e c):AI X tg e (EA c):=λpins s σ H Q I h9=>by
 x_go;refine Sa ha pins s σ H Q I ⟨ρ,S,τ,R,r,jM (jT h) .refl λx S1 h1 ρ1 H1 v e1 R1 v1=>?_⟩
 cases v1 with
 | @ref p n z=>
  obtain⟨kvs,hn,h1⟩:=jN h1;obtain⟨ks,J,k⟩:=R1.dct z<|lC hn;refine⟨p,ks,rfl,J,λo d pl f=>?_⟩;obtain⟨ex,R2⟩:=R1.YZ (o:=o) z (lC hn) k;have dl:=k.length;refine h1 ρ1 _ _ (e1.trans ex) R2 ⟨λi S2 H2 ρ2 y e2 R3 g=>?_,λS2 H2 ρ2 e2 R3 _=>⟨?_,e2.im _ _ trivial kD⟩⟩
  ·have g:(kvs.map ZN)[i]?=some y:=g;rw[aX]at g;obtain⟨kv,K,rfl⟩:=aY.mp g;obtain⟨q,hq,F,M⟩:=Vd k K;have t:i<d.length:=by rw[pl];exact(aJ.mp hq).1
   have C:=f i d[i] q (aI t) hq;refine⟨⟨⟨d[i],aI t⟩,e2.im _ _ trivial kD⟩,λN H' L=>?_⟩;obtain⟨rfl,G⟩:=L;have j:=G _<|aI t;subst j;have B:H' d[i]=some (.tup<|q.1.map kV):=e2.im _ _ trivial<|ex.toExt0.im _ _ trivial C;rw[F,vm]at B;exact⟨.refl,R3,.tup B<|oq _⟩
  ·show(kvs.map ZN).length=d.length;rw[aG,dl,pl]
 | _=>exact h1.elim
abbrev Hg (n:Nat)(S:jK):R A:=opt (lO S n) λkvs=>match (kvs.map Prod.fst).all (λks=>!ks.isEmpty)with
 | true=>.ok (.ref S.length) (S++[.lst<|(kB<|kvs.map Prod.fst).map λks=>.tup<|ks.map .int])
 | false=>.no
abbrev Gg (x:A)(S:jK):R A:=match x with
 | .ref n=>Hg n S
 | _=>.no
def TU(hc:X.calm=true):kj X (.builtin "sorted") (rN X<|f1 Gg):=kj.imp (Cp hc) λL H Q h0=>by
 kd_p;clear h0
 cases hv with
 | ref j=>
  rename_i p n;kln_w;obtain⟨ks,t,F⟩:=HZ R j hn
  cases hb:(kvs.map Prod.fst).all (λks=>!ks.isEmpty)with
  | false=>rw[hb]at h;exact h.elim
  | true=>
   rw[hb]at h;refine⟨p,ks,kvs.map Prod.fst,rfl,t,DN F,λk B z=>?_,λf l g J C d hc hs=>?_⟩
   ·have:=dO.mp hb k B;rw[z]at this
    cases this
   have G:AVs X.K ρ H ((kB<|kvs.map Prod.fst).map λks=>.tup<|ks.map .int) (((List.range (kvs.map Prod.fst).length).map λi=>f.getD (g i) 0).map V.ref):=by
    rw[<- GA hc hs,bz,bz];refine AH λi q=>?_;have lt:=(hc i (bK _)<|cO.mp q).2;have e1:f[g i]?=some (f.getD (g i) 0):=by rw[aL,aI<|by rw[J];exact lt];rfl
    have e2:(kvs.map Prod.fst)[g i]?=some ((kvs.map Prod.fst).getD (g i) []):=by rw[aL,aI lt];rfl
    exact .tup (C _ _ _ e1 e2)<|oq _
   exact nK R G .refl h l d
 | _=>exact h.elim
end
end Am
namespace K66
open PySem L2 Am
abbrev top (i:Nat):aF:=PySem.Challenge.pw_undercells_k66_right_hearths_by_tables.main.body.getD i<|.Pass ⟨0,0,0,0⟩
meta abbrev v_:aF:=top 7
meta abbrev vP:ar:=["thing"]
meta abbrev tY:ar:=["thing"]
abbrev vZ:Sm:=
 mh (MC (kC (f2 TX)<|jH (jG 0)<|jH (eC<|.ty "int") jR)<|WT<|kC (f2 TX)<|jH (jG 0)<|jH (eC<|.ty "bool") jR)
abbrev nN:ae->jK->R A:=lN vP vZ
meta abbrev uK:aF:=top 8
meta abbrev uB:ar:=["one", "other"]
meta abbrev uH:ar:=["one", "other"]
abbrev ur:Sm:=
 yP (qm<|jO (uc true) (kC (f1 su)<|jH (jG 0) jR)<|kC (f1 su)<|jH (jG 1) jR)
 (sNo)
 r_
abbrev pB:ae->jK->R A:=lN uB ur
meta abbrev r9:aF:=top 9
meta abbrev r8:ar:=["n", "thing"]
meta abbrev rP:ar:=["n", "thing"]
abbrev rY:Sm:=
 mh (MC (eFn nN<|jH (jG 1) jR)<|YF aLe VO (eC<|.int 1) (jG 1)<|jG 0)
abbrev nB:ae->jK->R A:=lN r8 rY
meta abbrev nR:aF:=top 10
meta abbrev nP:ar:=["order", "i", "j", "things"]
meta abbrev nO:ar:=["order", "i", "j"]
abbrev nQ:Sm:=
 j6 (ku (kC (f1 wR)<|jH (jG 0) jR)<|j_ 3)
 (j6 (ku (pL<|jH (jO nY (jG 3)<|jO aSub (jG 2)<|eC<|.int 1)<|jH (jO nY (jG 3)<|jO aSub (jG 1)<|eC<|.int 1) jR)<|yC 2<|qa (Vu (jG 3)<|jO aSub (jG 1)<|eC<|.int 1)<|qa (Vu (jG 3)<|jO aSub (jG 2)<|eC<|.int 1) yw)
 (mh<|kC (f1 wg)<|jH (jG 3) jR))
abbrev lE:ae->jK->R A:=lN nP nQ
meta abbrev uX:aF:=top 11
meta abbrev u5:ar:=["order", "k"]
meta abbrev rH:ar:=["order", "k"]
abbrev uM:Sm:=
 j6 (yP (Rt<|sI<|eFn nB<|jH (kC (f1 su)<|jH (jG 0) jR)<|jH (jG 1) jR)
 (sNo)
 r_)
 (mh<|eFn lE<|jH (jG 0)<|jH (jG 1)<|jH (jO mC (jG 1)<|eC<|.int 1) jR)
abbrev m9:ae->jK->R A:=lN u5 uM
meta abbrev Dj:aF:=top 12
meta abbrev Du:ar:=["order"]
meta abbrev sR:ar:=["order"]
abbrev CB:Sm:=
 mh (kH [none,some 0] (vL (eC<|.int 1)<|kC (f1 su)<|jH (jG 0) jR) (j_ 0) (qm<|jO LU (jO nY (jG 1)<|jO aSub (jG 0)<|eC<|.int 1)<|jO nY (jG 1)<|jG 0)<|jG 0)
abbrev l9:ae->jK->R A:=lN Du CB
meta abbrev uQ:aF:=top 13
meta abbrev uR:ar:=["n", "many", "k"]
meta abbrev rz:ar:=["n"]
abbrev vM:Ic:=
 vL (eC<|.int 2) (jO mC (jG 0)<|eC<|.int 1)
abbrev vN:Sm:=
 Qu 1 W_ (jG 2)
abbrev uU:Sm:=
 j6 (ku (eC<|.int 1)<|j_ 1)
 (j6 (lV vM (j_ 2)
 vN)
 (mh<|jG 1))
abbrev lZ:ae->jK->R A:=lN uR uU
meta abbrev v9:aF:=top 14
meta abbrev wA:ar:=["n", "number", "left", "things", "many"]
meta abbrev wJ:ar:=["n", "number"]
abbrev tZ:Te:=
 sI (jG 2)
abbrev tO:Sm:=
 j6 (ku (eFn lZ<|jH (jO aSub (kC (f1 su)<|jH (jG 2) jR)<|eC<|.int 1) jR)<|j_ 4)
 (j6 (m5<|Fx mV (jG 3)<|jH (Fx zX (jG 2)<|jH (jO z_ (jG 1)<|jG 4) jR) jR)
 (ku (jO aSub (jG 1)<|jO zV (jO z_ (jG 1)<|jG 4)<|jG 4)<|j_ 1))
abbrev wc:Sm:=
 j6 (yP (YQ (Rt<|sI<|eFn nN<|jH (jG 1) jR)<|YQ (qm<|jO VO (jG 1)<|eC<|.int 0)<|qm<|jO aGe (jG 1)<|eFn lZ<|jH (jG 0) jR)
 (sNo)
 r_)
 (j6 (ku (kC (f1 wR)<|jH (kC (f2 yZ)<|jH (eC<|.int 1)<|jH (jO mC (jG 0)<|eC<|.int 1) jR) jR)<|j_ 2)
 (j6 (ku (qh jR)<|j_ 3)
 (j6 (kK tZ
 tO 1000000)
 (mh<|kC (f1 wg)<|jH (jG 3) jR))))
abbrev nS:ae->jK->R A:=lN wA wc
meta abbrev pR:aF:=top 16
meta abbrev pV:ar:=["numbers"]
meta abbrev nL:ar:=["numbers"]
abbrev pW:Sm:=
 mh (kH [none,some 0] (mP<|kC (f1 zO)<|jH (jG 0) jR) (j_ 0) (qm<|jO (uc true) (jO zB (jG 1)<|jG 0)<|eC<|.int 0)<|pL<|jH (jG 0)<|jH (jO zB (jG 1)<|jG 0) jR)
abbrev kZ:ae->jK->R A:=lN pV pW
meta abbrev GH:aF:=top 17
meta abbrev Gj:ar:=["one", "other", "numbers", "power", "number"]
meta abbrev Hl:ar:=["one", "other"]
abbrev w9:Ic:=
 mP (jG 1)
abbrev ES:Sm:=
 ku (jO mC (Gu wM (jG 2)<|jH (jG 3)<|jH (eC<|.int 0) jR)<|jG 4) (Ky (jG 2)<|jG 3)
abbrev G7:Sm:=
 j6 (ku (kC (f1 DL)<|jH (jG 0) jR)<|j_ 2)
 (j6 (lV w9 (yC 2<|qa (j_ 3)<|qa (j_ 4) yw)
 ES)
 (mh<|eFn kZ<|jH (jG 2) jR))
abbrev zz:ae->jK->R A:=lN Gj G7
meta abbrev CV:aF:=top 18
meta abbrev Cy:ar:=["one", "other", "numbers", "power", "number", "high", "many"]
meta abbrev y_:ar:=["one", "other"]
abbrev KI:Ic:=
 mP (jG 1)
abbrev LK:Sm:=
 ku (jO mC (Gu wM (jG 2)<|jH (jO mC (jG 3)<|jG 5)<|jH (eC<|.int 0) jR)<|jO Ht (jG 4)<|jG 6) (Ky (jG 2)<|jO mC (jG 3)<|jG 5)
abbrev Bx:Ic:=
 mP (jG 0)
abbrev BK:Sm:=
 lV KI (yC 2<|qa (j_ 5)<|qa (j_ 6) yw)
 LK
abbrev C_:Sm:=
 j6 (ku F7<|j_ 2)
 (j6 (lV Bx (yC 2<|qa (j_ 3)<|qa (j_ 4) yw)
 BK)
 (mh<|eFn kZ<|jH (jG 2) jR))
abbrev tW:ae->jK->R A:=lN Cy C_
meta abbrev tD:aF:=top 21
meta abbrev sZ:ar:=["found", "order", "poly"]
meta abbrev ow:ar:=["found", "order", "poly"]
abbrev sS:Sm:=
 ku (eFn zz<|jH (VC Yz (jG 0)<|jH (jG 1)<|jH (qh jR) jR)<|jH (jG 2) jR) (Ly (jG 0)<|jG 1)
abbrev kL:ae->jK->R A:=lN sZ sS
meta abbrev zY:aF:=top 22
meta abbrev Ad:ar:=["found"]
meta abbrev uy:ar:=["found"]
abbrev zp:Sm:=
 mh (kH [none,some 0] (mP<|kC (f1 DH)<|jH (jG 0) jR) (j_ 0) (sI<|jO sX (jG 1)<|jG 0)<|pL<|jH (jG 0)<|jH (jO sX (jG 1)<|jG 0) jR)
abbrev oF:ae->jK->R A:=lN Ad zp
meta abbrev uo:aF:=top 23
meta abbrev uA:ar:=["one", "other"]
meta abbrev ux:ar:=["one", "other"]
abbrev uT:Sm:=
 yP (z8 (sI<|jG 0)<|sI<|jG 1)
 (m5<|eFn pB<|jH (jO nY (jO nY (jG 0)<|eC<|.int 0)<|eC<|.int 0)<|jH (jO nY (jO nY (jG 1)<|eC<|.int 0)<|eC<|.int 0) jR)
 r_
abbrev pM:ae->jK->R A:=lN uA uT
meta abbrev Dh:aF:=top 24
meta abbrev Cs:ar:=["one", "other", "found", "order", "poly"]
meta abbrev DW:ar:=["one", "other"]
abbrev vt:Ic:=
 mP (jO mC (jG 0)<|jG 1)
abbrev BU:Sm:=
 m5 (eFn kL<|jH (jG 2)<|jH (jG 3)<|jH (jG 4) jR)
abbrev Cj:Sm:=
 j6 (m5<|eFn pM<|jH (jG 0)<|jH (jG 1) jR)
 (j6 (ku Bo<|j_ 2)
 (j6 (lV vt (yC 2<|qa (j_ 3)<|qa (j_ 4) yw)
 BU)
 (mh<|eFn oF<|jH (jG 2) jR)))
abbrev sW:ae->jK->R A:=lN Cs Cj
meta abbrev AK:aF:=top 25
meta abbrev zP:ar:=["poly", "one", "found", "order", "many"]
meta abbrev Aa:ar:=["poly", "one"]
abbrev sU:Ic:=
 mP (jG 1)
abbrev t6:Sm:=
 m5 (eFn kL<|jH (jG 2)<|jH (jG 3)<|jH (eFn tW<|jH (jG 0)<|jH (jG 4) jR) jR)
abbrev zC:Sm:=
 j6 (ku Bo<|j_ 2)
 (j6 (lV sU (yC 2<|qa (j_ 3)<|qa (j_ 4) yw)
 t6)
 (mh<|eFn oF<|jH (jG 2) jR))
abbrev qU:ae->jK->R A:=lN zP zC
meta abbrev rT:aF:=top 26
meta abbrev r6:ar:=["one", "k", "found", "order", "poly"]
meta abbrev rS:ar:=["one", "k"]
abbrev nE:Ic:=
 mP (jG 0)
abbrev mO:Sm:=
 j6 (m5<|eFn kL<|jH (jG 2)<|jH (eFn m9<|jH (jG 3)<|jH (jG 1) jR)<|jH (jG 4) jR)
 (yP (qm<|jO (DZ false) (jG 1)<|eFn l9<|jH (jG 3) jR)
 (m5<|eFn kL<|jH (jG 2)<|jH (jG 3)<|jH (eFn tW<|jH (kC (f1 wR)<|jH (eC<|.frz<|[((-1:Int),(1:Int)),((1:Int),(-1:Int))].map kA) jR)<|jH (jG 4) jR) jR)
 r_)
abbrev sd:Sm:=
 j6 (ku Bo<|j_ 2)
 (j6 (lV nE (yC 2<|qa (j_ 3)<|qa (j_ 4) yw)
 mO)
 (mh<|eFn oF<|jH (jG 2) jR))
abbrev mR:ae->jK->R A:=lN r6 sd
meta abbrev p9:aF:=top 28
meta abbrev pO:ar:=["poly"]
meta abbrev nM:ar:=["poly"]
abbrev pP:Sm:=
 mh (Gu wM (kC (f1 DL)<|jH (jG 0) jR)<|jH (eC<|.int 1)<|jH (eC<|.int 0) jR)
abbrev k8:ae->jK->R A:=lN pO pP
meta abbrev qG:aF:=top 30
meta abbrev kW:ar:=["order", "k", "known", "less", "told", "lower", "poly", "number"]
meta abbrev m8:ar:=["order", "k", "known"]
abbrev oY (Fs:ae->jK->R A):Ic:=
 mP (jG 3)
abbrev ng (Fs:ae->jK->R A):Sm:=
 j6 (ku (eFn k8<|jH (jG 6) jR)<|j_ 7)
 (yP (z8 (qm<|jO (uc true) (jG 7)<|eC<|.int 0)<|qm<|jO (DZ false) (jG 1)<|eFn l9<|jH (jG 5) jR)
 (ku (eFn sW<|jH (jG 4)<|jH (eFn qU<|jH (qh<|jH (pL<|jH (eC<|.int 0)<|jH (eUn M6<|jG 7) jR) jR)<|jH (eFn Fs<|jH (jG 5)<|jH (jG 2) jR) jR) jR)<|j_ 4)
 r_)
abbrev kR (Fs:ae->jK->R A):Sm:=
 j6 (ku (eFn Fs<|jH (eFn m9<|jH (jG 0)<|jH (jG 1) jR)<|jH (jG 2) jR)<|j_ 3)
 (j6 (ku (eFn sW<|jH (eFn mR<|jH (jG 3)<|jH (jG 1) jR)<|jH (eFn qU<|jH (qh<|jH (pL<|jH (eC<|.int 1)<|jH (eC<|.int 1) jR) jR)<|jH (jG 3) jR) jR)<|j_ 4)
 (j6 (lV (oY Fs) (yC 2<|qa (j_ 5)<|qa (j_ 6) yw)
 (ng Fs))
 (mh<|jG 4)))
meta abbrev qu:aF:=top 29
meta abbrev n_:ar:=["order", "known", "ends"]
meta abbrev lY:ar:=["order", "known"]
abbrev oB (Fs:ae->jK->R A):Sm:=
 j6 (yP (qm<|jO (Lr true) (jG 0)<|jG 1)
 (j6 (ku (eFn l9<|jH (jG 0) jR)<|j_ 2)
 (yP (sI<|jG 2)
 (ku (eFn (lN kW<|kR Fs)<|jH (jG 0)<|jH (jO nY (jG 2)<|eC<|.int 0)<|jH (jG 1) jR)<|Ly (jG 1)<|jG 0)
 (ku (qh<|jH (pL<|jH (jG 0)<|jH (qh<|jH (pL<|jH (eC<|.int 0)<|jH (eC<|.int 1) jR) jR) jR) jR)<|Ly (jG 1)<|jG 0)))
 r_)
 (mh<|jO sX (jG 1)<|jG 0)
abbrev mS:Nat->ae->jK->R A
 | 0=>λ_ _=>.no
 | k+1=>lN n_<|oB<|mS k
abbrev tP:ae->jK->R A:=mS 8
meta abbrev rL:aF:=top 31
meta abbrev rV:ar:=["orders", "known", "told", "upper", "lower", "poly", "number"]
meta abbrev rW:ar:=["orders"]
abbrev pT:Ic:=
 mP (eFn tP<|jH (jG 3)<|jH (jG 1) jR)
abbrev pQ:Sm:=
 j6 (ku (eFn k8<|jH (jG 5) jR)<|j_ 6)
 (yP (qm<|jO (uc true) (jG 6)<|eC<|.int 0)
 (j6 (ku (jG 6)<|RZ (jG 2)<|pL<|jH (jG 4)<|jH (jG 3) jR)
 (ku (jG 6)<|RZ (jG 2)<|pL<|jH (jG 3)<|jH (jG 4) jR))
 r_)
abbrev p_:Ic:=
 mP (jG 0)
abbrev nG:Sm:=
 lV pT (yC 2<|qa (j_ 4)<|qa (j_ 5) yw)
 pQ
abbrev rQ:Sm:=
 j6 (ku Bo<|j_ 1)
 (j6 (ku (Hf)<|j_ 2)
 (j6 (lV p_ (j_ 3)
 nG)
 (mh<|jG 2)))
abbrev nA:ae->jK->R A:=lN rV rQ
meta abbrev s_:aF:=top 34
meta abbrev t7:ar:=["n"]
meta abbrev sO:ar:=["n"]
abbrev sV:Sm:=
 j6 (yP (qm<|jO LU (jG 0)<|eC<|.int 4)
 (sNo)
 r_)
 (mh<|kH [none,some 0] (qM<|eFn lZ<|jH (jG 0) jR) (j_ 0) t9<|eFn nS<|jH (jG 1)<|jH (jG 0) jR)
abbrev oh:ae->jK->R A:=lN t7 sV
meta abbrev oW:aF:=top 35
meta abbrev o6:ar:=["one", "other"]
meta abbrev o4:ar:=["one", "other"]
abbrev o5:Sm:=
 mh (kC (f1 W6)<|jH (kH [none,some 1] (mP<|eFn l9<|jH (jG 0) jR) (j_ 0) t9<|jO (DZ true) (jG 0)<|eFn l9<|jH (jG 1) jR) jR)
abbrev j9:ae->jK->R A:=lN o6 o5
meta abbrev qD:aF:=top 36
meta abbrev qS:ar:=["start", "next_ones", "reached", "waiting", "here", "order"]
meta abbrev qX:ar:=["start", "next_ones"]
abbrev nj:Ic:=
 mP (jO QV (jG 1)<|jG 4)
abbrev oZ:Sm:=
 yP (qm<|jO (Lr true) (jG 5)<|jG 2)
 (j6 (ku (eC<|.bl true)<|Ly (jG 2)<|jG 5)
 (m5<|Fx mV (jG 3)<|jH (jG 5) jR))
 r_
abbrev kG:Te:=
 sI (jG 3)
abbrev kQ:Sm:=
 j6 (ku (XZ Yg<|jG 3)<|j_ 4)
 (lV nj (j_ 5)
 oZ)
abbrev qL:Sm:=
 j6 (ku (Hr (jG 0)<|eC<|.bl true)<|j_ 2)
 (j6 (ku (qh<|jH (jG 0) jR)<|j_ 3)
 (j6 (kK kG
 kQ 1000000)
 (mh<|jG 2)))
abbrev lJ:ae->jK->R A:=lN qS qL
meta abbrev v5:aF:=top 37
meta abbrev wF:ar:=["next_ones", "reached", "told", "order", "hearth"]
meta abbrev vX:ar:=["next_ones"]
abbrev sY:Ic:=
 mP (kC (f1 Gg)<|jH (jG 0) jR)
abbrev oJ:Sm:=
 j6 (ku (kC (f1 yq)<|jH (kH [none,some 3,some 1] (EA<|jO sX (jG 1)<|jG 3) (j_ 0) (qm<|jO (KG false) (jG 1)<|jO sX (jG 2)<|jG 0)<|jG 0) jR)<|j_ 4)
 (yP (qm<|jO (uc false) (jO nY (jG 4)<|eC<|.int 0)<|jG 3)
 (m5<|Fx mV (jG 2)<|jH (jG 4) jR)
 r_)
abbrev vU:Sm:=
 j6 (ku (Uz (.dct []) qd [none,some 0] (EA<|jG 0) (j_ 0) t9 (jG 0)<|eFn lJ<|jH (jG 0)<|jH (jG 1) jR)<|j_ 1)
 (j6 (ku (qh jR)<|j_ 2)
 (j6 (lV sY (j_ 3)
 oJ)
 (mh<|jG 2)))
abbrev qH:ae->jK->R A:=lN wF vU
meta abbrev p8:aF:=top 38
meta abbrev pN:ar:=["n", "orders", "leads"]
meta abbrev pY:ar:=["n"]
abbrev p6:Sm:=
 j6 (ku (eFn oh<|jH (jG 0) jR)<|j_ 1)
 (j6 (ku (eFn nA<|jH (jG 1) jR)<|j_ 2)
 (mh<|eFn qH<|jH (Uz (.dct []) qd [none,some 1,some 2] (mP<|jG 1) (j_ 0) t9 (jG 0)<|kH [none,some 2,some 0] (mP<|jG 1) (j_ 0) (z8 (qm<|jO (AQ false) (pL<|jH (jG 2)<|jH (jG 0) jR)<|jG 1)<|sI<|eFn j9<|jH (jG 0)<|jH (jG 2) jR)<|jG 0) jR))
abbrev k_:ae->jK->R A:=lN pN p6
meta abbrev vQ:aF:=top 40
meta abbrev wo:ar:=["_law_script", "_law_k"]
meta abbrev wm:ar:=["_law_script", "_law_k"]
abbrev wH:Sm:=
 j6 (yP (qm<|jO VO (jG 1)<|kC (f1 su)<|jH (jG 0) jR)
 (mh<|jO nY (jG 0)<|jG 1)
 r_)
 (mh<|eC<|.int 0)
abbrev oU:ae->jK->R A:=lN wo wH
meta abbrev xN:aF:=top 41
meta abbrev xS:ar:=["_law_cell_here", "_law_place", "_law_far"]
meta abbrev xP:ar:=["_law_cell_here", "_law_place"]
abbrev xR:Sm:=
 j6 (ku (kC (f1 X7)<|jH (jG 0) jR)<|j_ 2)
 (j6 (yP (qm<|jO VO (jG 2)<|jO VA (eC<|.int 10)<|eC<|.int 18)
 (ku (eC<|.int 0)<|j_ 2)
 r_)
 (mh<|qh<|jH (jG 2)<|jH (jO CO (jO mC (jO mC (jO zV (jO CO (jG 0)<|eC<|.int 2147483647)<|eC<|.int 69621)<|jO zV (eC<|.int 7919)<|jG 1)<|eC<|.int 13)<|eC<|.int 2147483647) jR))
abbrev qy:ae->jK->R A:=lN xS xR
meta abbrev uJ:aF:=top 42
meta abbrev ug:ar:=["_law_bag_here"]
meta abbrev u9:ar:=["_law_bag_here"]
abbrev vc:Sm:=
 j6 (ku (jO CO (jO mC (jO zV (jO nY (jG 0)<|eC<|.int 1)<|eC<|.int 48271)<|eC<|.int 11)<|eC<|.int 2147483647)<|Vu (jG 0)<|eC<|.int 1)
 (mh<|jO z_ (jO CO (jO zV (jO nY (jG 0)<|eC<|.int 1)<|eC<|.int 16807)<|eC<|.int 2147483629)<|eC<|.int 8)
abbrev nV:ae->jK->R A:=lN ug vc
meta abbrev uS:aF:=top 43
meta abbrev rD:ar:=["_law_bag_here", "_law_many", "_law_found", "_law_k"]
meta abbrev rJ:ar:=["_law_bag_here", "_law_many"]
abbrev A6:Ic:=
 qM (eC<|.int 7)
abbrev Ba:Sm:=
 ku (jO mC (jO zV (jG 2)<|eC<|.int 268435399)<|eFn nV<|jH (jG 0) jR) (j_ 2)
abbrev rG:Sm:=
 j6 (yP (qm<|jO LU (jO nY (jG 0)<|eC<|.int 0)<|eC<|.int 0)
 (j6 (ku (jO CO (jO nY (jG 0)<|eC<|.int 0)<|jG 1)<|j_ 2)
 (j6 (ku (jO z_ (jO nY (jG 0)<|eC<|.int 0)<|jG 1)<|Vu (jG 0)<|eC<|.int 0)
 (mh<|jG 2)))
 r_)
 (j6 (ku (eFn nV<|jH (jG 0) jR)<|j_ 2)
 (j6 (yP (qm<|jO LU (jG 1)<|eC<|.int 1000)
 (lV A6 (j_ 3)
 Ba)
 r_)
 (mh<|jO CO (jG 2)<|jG 1)))
abbrev lu:ae->jK->R A:=lN rD rG
meta abbrev uN:aF:=top 44
meta abbrev uw:ar:=["_law_bag_here", "_law_n", "_law_left", "_law_found", "_law_k"]
meta abbrev u_:ar:=["_law_bag_here", "_law_n"]
abbrev A4:Ic:=
 qM (jG 1)
abbrev vK:Sm:=
 m5 (Fx mV (jG 3)<|jH (Fx zX (jG 2)<|jH (eFn lu<|jH (jG 0)<|jH (kC (f1 su)<|jH (jG 2) jR) jR) jR) jR)
abbrev vd:Sm:=
 j6 (ku (kC (f1 wR)<|jH (kC (f2 yZ)<|jH (eC<|.int 1)<|jH (jO mC (jG 1)<|eC<|.int 1) jR) jR)<|j_ 2)
 (j6 (ku (qh jR)<|j_ 3)
 (j6 (lV A4 (j_ 4)
 vK)
 (mh<|kC (f1 wg)<|jH (jG 3) jR)))
abbrev mD:ae->jK->R A:=lN uw vd
meta abbrev tB:aF:=top 45
meta abbrev tQ:ar:=["_law_row", "_law_first", "_law_second", "_law_number", "_law_letter", "_law_at", "_law_spots"]
meta abbrev tK:ar:=["_law_row"]
abbrev mZ:Te:=
 qm (jO (GO true) (jG 4)<|eC .non)
abbrev oH:Sm:=
 j6 (yP (qm<|jO (uc false) (jG 5)<|kC (f1 su)<|jH (jG 1) jR)
 (j6 (m5<|Fx mV (jG 1)<|jH (qh jR) jR)
 (m5<|Fx mV (jG 2)<|jH (qh jR) jR))
 r_)
 (j6 (ku (kH [none,some 4,some 1,some 5] (qM<|kC (f1 su)<|jH (jO nY (jG 1)<|jG 5) jR) (j_ 0) (qm<|jO LU (jO nY (jO nY (jG 2)<|jG 3)<|jG 0)<|jG 1)<|jG 0)<|j_ 6)
 (yP (qm<|jO (uc false) (jG 6)<|qh jR)
 (j6 (m5<|Fx mV (jO nY (jG 1)<|jG 5)<|jH (jG 4) jR)
 (j6 (m5<|Fx mV (jO nY (jG 2)<|jG 5)<|jH (jO mC (jG 3)<|eC<|.int 1) jR)
 (ku (eC .non)<|j_ 4)))
 (j6 (ku (pL<|jH (jO nY (jO nY (jG 1)<|jG 5)<|jO nY (jG 6)<|eC<|.int 0)<|jH (jG 4) jR)<|yC 2<|qa (j_ 4)<|qa (Vu (jO nY (jG 1)<|jG 5)<|jO nY (jG 6)<|eC<|.int 0) yw)
 (ku (jO mC (jG 5)<|eC<|.int 1)<|j_ 5))))
abbrev qC:Ic:=
 AZ (jG 0)
abbrev qO:Sm:=
 j6 (ku (eC<|.int 0)<|j_ 5)
 (kK mZ
 oH 1000000)
abbrev tX:Sm:=
 j6 (ku (qh jR)<|j_ 1)
 (j6 (ku (qh jR)<|j_ 2)
 (j6 (lV qC (yC 2<|qa (j_ 3)<|qa (j_ 4) yw)
 qO)
 (mh<|pL<|jH (jG 1)<|jH (jG 2) jR)))
abbrev ni:ae->jK->R A:=lN tQ tX
meta abbrev x_:aF:=top 46
meta abbrev xV:ar:=["_law_n", "_law_found", "_law_place", "_law_more", "_law_some"]
meta abbrev vg:ar:=["_law_n"]
abbrev yr:Ic:=
 mP (jG 1)
abbrev uf:Sm:=
 m5 (Fx CZ (jG 3)<|jH (kH [none,some 4] (vL (eC<|.int 1)<|jO mC (jG 0)<|eC<|.int 1) (j_ 0) (qm<|jO (DZ true) (jG 0)<|jG 1)<|jO mC (jG 1)<|pL<|jH (jG 0) jR) jR)
abbrev yz:Ic:=
 qM (jG 0)
abbrev ym:Sm:=
 j6 (ku (qh jR)<|j_ 3)
 (j6 (lV yr (j_ 4)
 uf)
 (ku (jG 3)<|j_ 1))
abbrev ya:Sm:=
 j6 (ku (qh<|jH (pL jR) jR)<|j_ 1)
 (j6 (lV yz (j_ 2)
 ym)
 (mh<|jG 1))
abbrev nX:ae->jK->R A:=lN xV ya
meta abbrev um:aF:=top 47
meta abbrev uZ:ar:=["_law_n"]
meta abbrev u0:ar:=["_law_n"]
abbrev uO:Sm:=
 mh (kC (f1 su)<|jH (kH [none] (mP<|eFn nX<|jH (jG 0) jR) (j_ 0) (sI<|kC (f1 GZ)<|jH (kH [none,none,some 0] (AZ<|jG 0) (yC 2<|qa (j_ 0)<|qa (j_ 1) yw) t9<|jO (uc false) (jO nY (jG 2)<|jO aSub (jG 1)<|eC<|.int 1)<|jO mC (jG 0)<|eC<|.int 1) jR)<|jG 0) jR)
abbrev pC:ae->jK->R A:=lN uZ uO
meta abbrev wu:aF:=top 48
meta abbrev wj:ar:=["_law_found", "_law_some", "_law_hearth"]
meta abbrev vW:ar:=["_law_found"]
abbrev tM:Ic:=
 mP (jG 0)
abbrev sP:Sm:=
 ku (jO mC (jG 1)<|jG 2) (j_ 1)
abbrev vY:Sm:=
 j6 (ku (qh jR)<|j_ 1)
 (j6 (lV tM (j_ 2)
 sP)
 (mh<|kC (f1 yq)<|jH (jG 1) jR))
abbrev qN:ae->jK->R A:=lN wj vY
meta abbrev Qx:aF:=top 49
meta abbrev P5:ar:=["_law_script", "_law_n", "_law_found", "_law_k", "_law_bag_here", "_law_one", "_law_other", "_law_mine"]
meta abbrev Va:ar:=["_law_script"]
abbrev Cc:Ic:=
 qM (eC<|.int 8)
abbrev yR:Sm:=
 j6 (ku (eFn qy<|jH (eFn oU<|jH (jG 0)<|jH (jO mC (eC<|.int 1)<|jG 3) jR)<|jH (jO mC (eC<|.int 2)<|jG 3) jR)<|j_ 4)
 (j6 (ku (eFn mD<|jH (jG 4)<|jH (jG 1) jR)<|j_ 5)
 (j6 (ku (eFn mD<|jH (jG 4)<|jH (jG 1) jR)<|j_ 6)
 (j6 (ku (jO nY (kH [none,some 5] (mP<|jG 2) (j_ 0) (qm<|jO (DZ false) (jG 1)<|jG 0)<|jG 0)<|eC<|.int 0)<|j_ 7)
 (yP (qm<|jO (uc true) (jO (DZ false) (jG 6)<|jG 7)<|jO (uc false) (jO nY (eFn ni<|jH (jG 5) jR)<|eC<|.int 0)<|jO nY (eFn ni<|jH (jG 6) jR)<|eC<|.int 0)
 (mh<|eC<|.bl false)
 r_))))
abbrev NR:Sm:=
 j6 (ku (jO nY (qh<|jH (eC<|.int 4)<|jH (eC<|.int 3)<|jH (eC<|.int 4)<|jH (eC<|.int 2)<|jH (eC<|.int 1)<|jH (eC<|.int 4) jR)<|eFn lu<|jH (eFn qy<|jH (eFn oU<|jH (jG 0)<|jH (eC<|.int 0) jR)<|jH (eC<|.int 1) jR)<|jH (eC<|.int 6) jR)<|j_ 1)
 (j6 (ku (eFn k_<|jH (jG 1) jR)<|j_ 2)
 (j6 (yP (YQ (qm<|jO (uc true) (kC (f1 su)<|jH (jG 2) jR)<|eFn pC<|jH (jG 1) jR)<|qm<|jO (uc true) (eFn qN<|jH (jG 2) jR)<|eFn nX<|jH (jG 1) jR)
 (mh<|eC<|.bl false)
 r_)
 (j6 (lV Cc (j_ 3)
 yR)
 (mh<|eC<|.bl true))))
abbrev Bf:ae->jK->R A:=lN P5 NR
section
variable {P:aj}{w:ah}{K:au}{mg:Str->bd}{base:aq}{f:ak}{fd:FuncData}
def E9:FnScope vP tY (jV v_):=ue rfl rfl rfl ∅
def FF(F:Fun K "is_whole" "is_whole" v_ f fd)(aaO:mg "isinstance" = none)(aa2:mg "bool" = none)(aa5:mg "int" = none):FnOk P w K mg base qb 1 f fd tY (qZ K 1 nN):=ud (m:=vZ) F E9 λg B d s H E j=>
 jQ (kh<|Oi (kF UZ aaO vO<|jJ (jF 0)<|jJ (U_ aa5 Xj) jS)<|M3<|Yy<|kF UZ aaO vO<|jJ (jF 0)<|jJ (U_ aa2 Tj) jS)
def Dt:FnScope uB uH (jV uK):=ue rfl rfl rfl ∅
def Cd(F:Fun K "need_pair" "need_pair" uK f fd)(aah:mg "len" = none):FnOk P w K mg base qb 1 f fd uH (qZ K 2 pB):=ud (m:=ur) F Dt λg B d s H E j=>
 jQ (nZ (kP (Gi j.units) (kF uE aah qP<|jJ (jF 0) jS)<|kF uE aah qP<|jJ (jF 1) jS)
 (jQ<|HL)
 lR)
def zD:FnScope r8 rP (jV r9):=ue rfl rfl rfl ∅
def zJ(F:Fun K "is_exchange" "is_exchange" r9 f fd)(aaE:nW P w K mg base 1 "is_whole" tY nN):FnOk P w K mg base qb 2 f fd rP (qZ K 2 nB):=ud (m:=rY) F zD λj B d s H E g=>
 jQ (kh<|Oi (yy aaE g<|jF 1)<|M3<|ZT abo (SQ g.units) jU (jF 1)<|jF 0)
def qe:FnScope nP nO (jV nR):=ue rfl rfl rfl ∅
def vG(F:Fun K "exchanged_places" "exchanged_places" nR f fd)(aau:mg "list" = none)(aax:mg "tuple" = none):FnOk P w K mg base qb 1 f fd nO (qZ K 3 lE):=ud (m:=nQ) F qe λg B d s H E j=>
 jL (j4 (i:=3) qe.nd<|mY (CK rfl) aau yV<|jJ (jF 0) jS)
 (jL (pZ (n8<|jJ (lK (jF 3)<|j5 yD (jF 2) jU)<|jJ (lK (jF 3)<|j5 yD (jF 1) jU) jS)<|p7 rfl<|ko (zT (jF 3)<|j5 yD (jF 1) jU)<|ko (zT (jF 3)<|j5 yD (jF 2) jU) nI)
 (jQ<|kh<|mY (DU rfl) aax Av<|jJ (jF 3) jS))
def CS:FnScope u5 rH (jV uX):=ue rfl rfl rfl ∅
def DJ(F:Fun K "exchanged" "exchanged" uX f fd)(aah:mg "len" = none)(aa7:nW P w K mg base 2 "is_exchange" rP nB)(abb:nW P w K mg base 1 "exchanged_places" nO lE):FnOk P w K mg base qb 3 f fd rH (qZ K 2 m9):=ud (m:=uM) F CS λj B d s H E g=>
 jL (nZ (PJ<|rO<|Cz aa7 g (kF uE aah qP<|jJ (jF 0) jS)<|jF 1)
 (jQ<|HL)
 lR)
 (jQ<|kh<|ZC abb g (jF 0) (jF 1)<|j5 nv (jF 1) jU)
def O6:FnScope Du sR (jV Dj):=ue rfl rfl rfl ∅
def OJ(F:Fun K "falls" "falls" Dj f fd)(aai:mg "range" = none)(aah:mg "len" = none):FnOk P w K mg base qb 1 f fd sR (qZ K 1 l9):=ud (m:=CB) F O6 λg B d s H E j=>
 jQ (kh<|oK (N:=["k", "order"]) (cap:=[none,some 0]) rfl (rE ["order"] rfl ∅ ∅ ∅ ∅ ∅ (bO.mpr ⟨by first|exact Or.inl rfl|exact Or.inr rfl,(nofun)⟩) ⟨rfl,by decide +kernel,trivial⟩) (xU aai jU<|kF uE aah qP<|jJ (jF 0) jS) (λ_ _ _ _=>j0 (i:=0) (show(["k", "order"]:ar).Nodup by decide +kernel) rfl (Or.inl rfl)<|.inr rfl) (λ_ _ _ _=>qp<|kP (Nr j.units) (lK (jF 1)<|j5 yD (jF 0) jU)<|lK (jF 1)<|jF 0) λ_ _ _ _=>jF 0)
def qt:FnScope uR rz (jV uQ):=ue rfl rfl rfl ∅
def Cv(F:Fun K "factorial" "factorial" uQ f fd)(aai:mg "range" = none):FnOk P w K mg base qb 1 f fd rz (qZ K 1 lZ):=ud (m:=uU) F qt λg B d s H E j=>
 jL (j4 (i:=1) qt.nd jU)
 (jL (mE bQ rfl (xU aai jU<|j5 nv (jF 0) jU) (j0 (i:=2) qt.nd)
 (jQ<|Wh (i:=1) qt.nd (jF 2) Ud))
 (jQ<|kh<|jF 1))
def pD:FnScope wA wJ (jV v9):=ue rfl rfl rfl ∅
def E6(F:Fun K "numbered" "numbered" v9 f fd)(aau:mg "list" = none)(aai:mg "range" = none)(aah:mg "len" = none)(aax:mg "tuple" = none)(aaC:nW P w K mg base 1 "factorial" rz lZ)(aaE:nW P w K mg base 1 "is_whole" tY nN):FnOk P w K mg base qb 2 f fd wJ (qZ K 2 nS):=ud (m:=wc) F pD λj B g s H E d=>
 jL (nZ (AW.at<|N6 (PJ<|rO<|yy aaE d<|jF 1)<|N6 (kP (SQ d.units) (jF 1) jU)<|O_<|kP aby (jF 1)<|yy aaC d<|jF 0)
 (jQ<|HL)
 lR)
 (jL (j4 (i:=2) pD.nd<|mY (CK rfl) aau yV<|jJ (mY FW aai FY<|jJ jU<|jJ (j5 nv (jF 0) jU) jS) jS)
 (jL (j4 (i:=3) pD.nd<|mJ jS)
 (jL (AD 1000000 bQ (rO<|jF 2)
 (jL (j4 (i:=4) pD.nd<|yy aaC d<|j5 yD (kF uE aah qP<|jJ (jF 2) jS) jU)
 (jL (mH<|uP cK cL pG (jF 3)<|jJ (uP iA iB Jx (jF 2)<|jJ (j5 CT (jF 1)<|jF 4) jS) jS)
 (jQ<|j4 (i:=1) pD.nd<|j5 yD (jF 1)<|j5 BF (j5 CT (jF 1)<|jF 4)<|jF 4))))
 (jQ<|kh<|mY (DU rfl) aax Av<|jJ (jF 3) jS))))
def yg:FnScope pV nL (jV pR):=ue rfl rfl rfl ∅
def xX(F:Fun K "as_polynomial" "as_polynomial" pR f fd)(aam:mg "sorted" = none):FnOk P w K mg base qb 1 f fd nL (qZ K 1 kZ):=ud (m:=pW) F yg λj B d s H E g=>
 jQ (kh<|oK (N:=["power", "numbers"]) (cap:=[none,some 0]) rfl (rE ["numbers"] rfl ∅ ∅ ∅ ∅ ∅ (bO.mpr ⟨by first|exact Or.inl rfl|exact Or.inr rfl,(nofun)⟩) ⟨rfl,by decide +kernel,trivial⟩) (mj<|kF (TQ rfl) aam sA<|jJ (jF 0) jS) (λ_ _ _ _=>j0 (i:=0) (show(["power", "numbers"]:ar).Nodup by decide +kernel) rfl (Or.inl rfl)<|.inr rfl) (λ_ _ _ _=>qp<|kP (Gi g.units) (MO g.units (jF 1)<|jF 0) jU) λ_ _ _ _=>n8<|jJ (jF 0)<|jJ (MO g.units (jF 1)<|jF 0) jS)
def yO:FnScope Gj Hl (jV GH):=ue rfl rfl rfl ∅
def Rm(F:Fun K "plus" "plus" GH f fd)(aaF:mg "dict" = none)(aaG:nW P w K mg base 1 "as_polynomial" nL kZ):FnOk P w K mg base qb 2 f fd Hl (qZ K 2 zz):=ud (m:=G7) F yO λj B d s H E g=>
 jL (j4 (i:=2) yO.nd<|mY (Ko rfl) aaF Ka<|jJ (jF 0) jS)
 (jL (mE bQ rfl (mj<|jF 1) (p7 rfl<|ko (j0 (i:=3) yO.nd)<|ko (j0 (i:=4) yO.nd) nI)
 (jQ<|pZ (j5 nv (G_ dm f7 (G3 g.units) (jF 2)<|jJ (jF 3)<|jJ jU jS)<|jF 4)<|Kr g.units (jF 2)<|jF 3))
 (jQ<|kh<|yy aaG g<|jF 2))
def sj:FnScope Cy y_ (jV CV):=ue rfl rfl rfl ∅
def Mm(F:Fun K "times" "times" CV f fd)(aaG:nW P w K mg base 1 "as_polynomial" nL kZ):FnOk P w K mg base qb 2 f fd y_ (qZ K 2 tW):=ud (m:=C_) F sj λj B d s H E g=>
 jL (j4 (i:=2) sj.nd Mj)
 (jL (mE bQ rfl (mj<|jF 0) (p7 rfl<|ko (j0 (i:=3) sj.nd)<|ko (j0 (i:=4) sj.nd) nI)
 (jQ (mE bQ rfl (mj<|jF 1) (p7 rfl<|ko (j0 (i:=5) sj.nd)<|ko (j0 (i:=6) sj.nd) nI)
 (jQ<|pZ (j5 nv (G_ dm f7 (G3 g.units) (jF 2)<|jJ (j5 nv (jF 3)<|jF 5)<|jJ jU jS)<|j5 X0 (jF 4)<|jF 6)<|Kr g.units (jF 2)<|j5 nv (jF 3)<|jF 5))))
 (jQ<|kh<|yy aaG g<|jF 2))
def A9:FnScope sZ ow (jV tD):=ue rfl rfl rfl ∅
def Bc(F:Fun K "put_before" "put_before" tD f fd)(abi:nW P w K mg base 2 "plus" Hl zz):FnOk P w K mg base qb 3 f fd ow (qZ K 3 kL):=ud (m:=sS) F A9 λj B d s H E g=>
 jQ (pZ (Cz abi g (V0 dm f7 (Y0 g.units) (jF 0)<|jJ (jF 1)<|jJ (mJ jS) jS)<|jF 2)<|y9 g.units (jF 0)<|jF 1)
def LJ:FnScope Ad uy (jV zY):=ue rfl rfl rfl ∅
def Lc(F:Fun K "as_sum" "as_sum" zY f fd)(aam:mg "sorted" = none):FnOk P w K mg base qb 1 f fd uy (qZ K 1 oF):=ud (m:=zp) F LJ λj B d s H E g=>
 jQ (kh<|oK (N:=["order", "found"]) (cap:=[none,some 0]) rfl (rE ["found"] rfl ∅ ∅ ∅ ∅ ∅ (bO.mpr ⟨by first|exact Or.inl rfl|exact Or.inr rfl,(nofun)⟩) ⟨rfl,by decide +kernel,trivial⟩) (mj<|kF (Up rfl) aam sA<|jJ (jF 0) jS) (λ_ _ _ _=>j0 (i:=0) (show(["order", "found"]:ar).Nodup by decide +kernel) rfl (Or.inl rfl)<|.inr rfl) (λ_ _ _ _=>qp<|rO<|Au g.units (jF 1)<|jF 0) λ_ _ _ _=>n8<|jJ (jF 0)<|jJ (Au g.units (jF 1)<|jF 0) jS)
def C5:FnScope uA ux (jV uo):=ue rfl rfl rfl ∅
def CG(F:Fun K "need_like" "need_like" uo f fd)(abl:nW P w K mg base 1 "need_pair" uH pB):FnOk P w K mg base qb 2 f fd ux (qZ K 2 pM):=ud (m:=uT) F C5 λg B d s H E j=>
 jQ (nZ (AW.at<|GD (rO<|jF 0)<|Dp<|rO<|jF 1)
 (jQ<|mH<|Cz abl j (lK (lK (jF 0) jU) jU)<|lK (lK (jF 1) jU) jU)
 lR)
def wU:FnScope Cs DW (jV Dh):=ue rfl rfl rfl ∅
def Nv(F:Fun K "added" "added" Dh f fd)(abn:nW P w K mg base 2 "need_like" ux pM)(aaw:nW P w K mg base 3 "put_before" ow kL)(aaB:nW P w K mg base 1 "as_sum" uy oF):FnOk P w K mg base qb 4 f fd DW (qZ K 2 sW):=ud (m:=Cj) F wU λj B d s H E g=>
 jL (mH<|Cz abn g (jF 0)<|jF 1)
 (jL (j4 (i:=2) wU.nd yX)
 (jL (mE bQ rfl (mj<|j5 nv (jF 0)<|jF 1) (p7 rfl<|ko (j0 (i:=3) wU.nd)<|ko (j0 (i:=4) wU.nd) nI)
 (jQ<|mH<|ZC aaw g (jF 2) (jF 3)<|jF 4))
 (jQ<|kh<|yy aaB g<|jF 2)))
def vB:FnScope zP Aa (jV AK):=ue rfl rfl rfl ∅
def KC(F:Fun K "scaled" "scaled" AK f fd)(aaw:nW P w K mg base 3 "put_before" ow kL)(aaH:nW P w K mg base 2 "times" y_ tW)(aaB:nW P w K mg base 1 "as_sum" uy oF):FnOk P w K mg base qb 4 f fd Aa (qZ K 2 qU):=ud (m:=zC) F vB λj B d s H E g=>
 jL (j4 (i:=2) vB.nd yX)
 (jL (mE bQ rfl (mj<|jF 1) (p7 rfl<|ko (j0 (i:=3) vB.nd)<|ko (j0 (i:=4) vB.nd) nI)
 (jQ<|mH<|ZC aaw g (jF 2) (jF 3)<|Cz aaH g (jF 0)<|jF 4))
 (jQ<|kh<|yy aaB g<|jF 2))
def oE:FnScope r6 rS (jV rT):=ue rfl rfl rfl ∅
def Af(F:Fun K "by_exchange" "by_exchange" rT f fd)(aau:mg "list" = none)(h_AT_A_FALL:∃a,mg "AT_A_FALL" = some (.ref a)/\YG K a=some [((-1:Int),(1:Int)),((1:Int),(-1:Int))])(aaw:nW P w K mg base 3 "put_before" ow kL)(aaI:nW P w K mg base 3 "exchanged" rH m9)(aaj:nW P w K mg base 1 "falls" sR l9)(aaH:nW P w K mg base 2 "times" y_ tW)(aaB:nW P w K mg base 1 "as_sum" uy oF):FnOk P w K mg base qb 4 f fd rS (qZ K 2 mR):=ud (m:=sd) F oE λj B g s H E d=>
 jL (j4 (i:=2) oE.nd yX)
 (jL (mE bQ rfl (mj<|jF 0) (p7 rfl<|ko (j0 (i:=3) oE.nd)<|ko (j0 (i:=4) oE.nd) nI)
 (jL (mH<|ZC aaw d (jF 2) (Cz aaI d (jF 3)<|jF 1)<|jF 4)
 (jQ (nZ (kP (Tc d.units) (jF 1)<|yy aaj d<|jF 3)
 (jQ<|mH<|ZC aaw d (jF 2) (jF 3)<|Cz aaH d (mY (CK rfl) aau yV<|jJ (Qo h_AT_A_FALL.choose_spec.1 h_AT_A_FALL.choose_spec.2) jS)<|jF 4)
 lR))))
 (jQ<|kh<|yy aaB d<|jF 2))
def yc:FnScope pO nM (jV p9):=ue rfl rfl rfl ∅
def yd(F:Fun K "number_at_one" "number_at_one" p9 f fd)(aaF:mg "dict" = none):FnOk P w K mg base qb 1 f fd nM (qZ K 1 k8):=ud (m:=pP) F yc λg B d s H E j=>
 jQ (kh<|G_ dm f7 (G3 j.units) (mY (Ko rfl) aaF Ka<|jJ (jF 0) jS)<|jJ jU<|jJ jU jS)
def kY:FnScope kW m8 (jV qG):=ue rfl rfl rfl ∅
def yH{Fs:ae->jK->R A}(F:Fun K "kept_by_fall" "kept_by_fall" qG f fd)(aaI:nW P w K mg base 3 "exchanged" rH m9)(aaP:nW P w K mg base 4 "added" DW sW)(aaQ:nW P w K mg base 4 "scaled" Aa qU)(abA:nW P w K mg base 4 "by_exchange" rS mR)(aaJ:nW P w K mg base 1 "number_at_one" nM k8)(aaj:nW P w K mg base 1 "falls" sR l9)(ab_:nW P w K mg base (5+2 * kr) "found_kept" lY Fs):FnOk P w K mg base qb (5+2 * kr+1) f fd m8 (qZ K 3<|lN kW<|kR Fs):=ud (m:=kR Fs) F kY λj B g s H E d=>
 jL (j4 (i:=3) kY.nd<|qJ ab_ (d.mono ()) (jJ (qJ aaI (d.mono ()) (jJ (jF 0)<|jJ (jF 1) jS)<|j7<|j7 mG)<|jJ (jF 2) jS)<|j7<|j7 mG)
 (jL (j4 (i:=4) kY.nd<|qJ aaP (d.mono ()) (jJ (qJ abA (d.mono ()) (jJ (jF 3)<|jJ (jF 1) jS)<|j7<|j7 mG)<|jJ (qJ aaQ (d.mono ()) (jJ (mJ<|jJ (n8<|jJ jU<|jJ jU jS) jS)<|jJ (jF 3) jS)<|j7<|j7 mG) jS)<|j7<|j7 mG)
 (jL (mE bQ rfl (mj<|jF 3) (p7 rfl<|ko (j0 (i:=5) kY.nd)<|ko (j0 (i:=6) kY.nd) nI)
 (jL (j4 (i:=7) kY.nd<|qJ aaJ (d.mono ()) (jJ (jF 6) jS)<|j7 mG)
 (jQ (nZ (AW.at<|GD (kP (Gi d.units) (jF 7) jU)<|Dp<|kP (Tc d.units) (jF 1)<|qJ aaj (d.mono ()) (jJ (jF 5) jS)<|j7 mG)
 (jQ<|j4 (i:=4) kY.nd<|qJ aaP (d.mono ()) (jJ (jF 4)<|jJ (qJ aaQ (d.mono ()) (jJ (mJ<|jJ (n8<|jJ jU<|jJ (V9<|jF 7) jS) jS)<|jJ (qJ ab_ (d.mono ()) (jJ (jF 5)<|jJ (jF 2) jS)<|j7<|j7 mG) jS)<|j7<|j7 mG) jS)<|j7<|j7 mG)
 lR))))
 (jQ<|kh<|jF 4)))
def vI:FnScope n_ lY (jV qu):=ue rfl rfl rfl ∅
def AY{Fs:ae->jK->R A}(F:Fun K "found_kept" "found_kept" qu f fd)(aaj:nW P w K mg base 1 "falls" sR l9)(ace:nW P w K mg base (5+2 * kr+1) "kept_by_fall" m8<|lN kW<|kR Fs):FnOk P w K mg base qb (5+2 * kr+2) f fd lY (qZ K 2<|lN n_<|oB Fs):=ud (m:=oB Fs) F vI λj B g s H E d=>
 jL (nZ (kP (FA d.units) (jF 0)<|jF 1)
 (jL (j4 (i:=2) vI.nd<|qJ aaj (d.mono ()) (jJ (jF 0) jS)<|j7 mG)
 (jQ (nZ (rO<|jF 2)
 (jQ<|pZ (qJ ace (d.mono ()) (jJ (jF 0)<|jJ (lK (jF 2) jU)<|jJ (jF 1) jS)<|j7<|j7<|j7 mG)<|y9 d.units (jF 1)<|jF 0)
 (jQ<|pZ (mJ<|jJ (n8<|jJ (jF 0)<|jJ (mJ<|jJ (n8<|jJ jU<|jJ jU jS) jS) jS) jS)<|y9 d.units (jF 1)<|jF 0))))
 lR)
 (jQ<|kh<|Au d.units (jF 1)<|jF 0)
theorem uv(F:Fun K "found_kept" "found_kept" qu f fd)(aaj:nW P w K mg base 1 "falls" sR l9)(M_kept_by_fall:∀{Fs:ae->jK->R A} {kr:Nat},nW P w K mg base (5+2 * kr) "found_kept" lY Fs->nW P w K mg base (5+2 * kr+1) "kept_by_fall" m8 (lN kW<|kR Fs))(hm:mg "found_kept" = some (.ref f))(hk:PySem.W.keepIn K (.ref f)=true)(hb:Binds K fd lY []):∀kr,FnOk P w K mg base qb (5+2 * kr) f fd lY (qZ K 2<|mS kr)
 | 0=>Xk rfl
 | kr+1=>AY F aaj<|M_kept_by_fall ⟨f,fd,uv F aaj M_kept_by_fall hm hk hb kr,hm,hk,hb⟩
def lI:FnScope rV rW (jV rL):=ue rfl rfl rfl ∅
def zL(F:Fun K "leads_among" "leads_among" rL f fd)(abC:nW P w K mg base 21 "found_kept" lY tP)(aaJ:nW P w K mg base 1 "number_at_one" nM k8):FnOk P w K mg base qb 22 f fd rW (qZ K 1 nA):=ud (m:=rQ) F lI λj B g s H E d=>
 jL (j4 (i:=1) lI.nd yX)
 (jL (j4 (i:=2) lI.nd<|Py)
 (jL (mE bQ rfl (mj<|jF 0) (j0 (i:=3) lI.nd)
 (jQ (mE bQ rfl (mj<|Cz abC d (jF 3)<|jF 1) (p7 rfl<|ko (j0 (i:=4) lI.nd)<|ko (j0 (i:=5) lI.nd) nI)
 (jL (j4 (i:=6) lI.nd<|yy aaJ d<|jF 5)
 (jQ (nZ (kP (Gi d.units) (jF 6) jU)
 (jL (pZ (jF 6)<|JU d.units (jF 2)<|n8<|jJ (jF 4)<|jJ (jF 3) jS)
 (jQ<|pZ (jF 6)<|JU d.units (jF 2)<|n8<|jJ (jF 3)<|jJ (jF 4) jS))
 lR))))))
 (jQ<|kh<|jF 2)))
def AX:FnScope t7 sO (jV s_):=ue rfl rfl rfl ∅
def A2(F:Fun K "all_orders" "all_orders" s_ f fd)(aai:mg "range" = none)(abE:∃t,mg "MOST_THINGS" = some (.int 4 t))(aaC:nW P w K mg base 1 "factorial" rz lZ)(abH:nW P w K mg base 2 "numbered" wJ nS):FnOk P w K mg base qb 3 f fd sO (qZ K 1 oh):=ud (m:=sV) F AX λj B d s H E g=>
 jL (nZ (kP (Nr g.units) (jF 0)<|LZ abE.choose_spec)
 (jQ<|HL)
 lR)
 (jQ<|kh<|oK (N:=["number", "n"]) (cap:=[none,some 0]) rfl (rE ["n"] rfl ∅ ∅ ∅ ∅ ∅ (bO.mpr ⟨by first|exact Or.inl rfl|exact Or.inr rfl,(nofun)⟩) ⟨rfl,by decide +kernel,trivial⟩) (qw aai<|yy aaC g<|jF 0) (λ_ _ _ _=>j0 (i:=0) (show(["number", "n"]:ar).Nodup by decide +kernel) rfl (Or.inl rfl)<|.inr rfl) (λ_ _ _ _=>wY) λ_ _ _ _=>Cz abH g (jF 1)<|jF 0)
def w4:FnScope o6 o4 (jV oW):=ue rfl rfl rfl ∅
def wQ(F:Fun K "has_other_fall" "has_other_fall" oW f fd)(abJ:mg "any" = none)(aaj:nW P w K mg base 1 "falls" sR l9):FnOk P w K mg base qb 2 f fd o4 (qZ K 2 j9):=ud (m:=o5) F w4 λj B d s H E g=>
 jQ (kh<|kF (Y6 rfl) abJ V8<|jJ (oK (N:=["k", "other"]) (cap:=[none,some 1]) rfl (rE ["other"] rfl ∅ ∅ ∅ ∅ ∅ (bO.mpr ⟨by first|exact Or.inl rfl|exact Or.inr rfl,(nofun)⟩) ⟨rfl,by decide +kernel,trivial⟩) (mj<|yy aaj g<|jF 0) (λ_ _ _ _=>j0 (i:=0) (show(["k", "other"]:ar).Nodup by decide +kernel) rfl (Or.inl rfl)<|.inr rfl) (λ_ _ _ _=>wY) λ_ _ _ _=>C7 (J4 g.units) (jF 0)<|yy aaj g<|jF 1) jS)
def mK:FnScope qS qX (jV qD):=ue rfl rfl rfl ∅
def yF(F:Fun K "reached_from" "reached_from" qD f fd):FnOk P w K mg base qb 1 f fd qX (qZ K 2 lJ):=ud (m:=qL) F mK λj B g s H E d=>
 jL (j4 (i:=2) mK.nd<|SI d.units (jF 0) EF)
 (jL (j4 (i:=3) mK.nd<|mJ<|jJ (jF 0) jS)
 (jL (AD 1000000 bQ (rO<|jF 3)
 (jL (j4 (i:=4) mK.nd<|WW iA iB Y5<|jF 3)
 (jQ (mE bQ rfl (mj<|Wz d.units (jF 1)<|jF 4) (j0 (i:=5) mK.nd)
 (jQ (nZ (kP (FA d.units) (jF 5)<|jF 2)
 (jL (pZ EF<|y9 d.units (jF 2)<|jF 5)
 (jQ<|mH<|uP cK cL pG (jF 3)<|jJ (jF 5) jS))
 lR))))))
 (jQ<|kh<|jF 2)))
def pK:FnScope wF vX (jV v5):=ue rfl rfl rfl ∅
def EM(F:Fun K "gathered" "gathered" v5 f fd)(aam:mg "sorted" = none)(abK:nW P w K mg base 1 "reached_from" qX lJ):FnOk P w K mg base qb 2 f fd vX (qZ K 1 qH):=ud (m:=vU) F pK λj B g s H E d=>
 jL (j4 (i:=1) pK.nd<|UD (λ_=>UH) d.units (N:=["order", "next_ones"]) (cap:=[none,some 0]) rfl (rE ["next_ones"] rfl ∅ ∅ ∅ ∅ ∅ (bO.mpr ⟨by first|exact Or.inl rfl|exact Or.inr rfl,(nofun)⟩) ⟨rfl,by decide +kernel,trivial⟩) (FP<|jF 0) (λ_ _ _ _=>j0 (i:=0) (show(["order", "next_ones"]:ar).Nodup by decide +kernel) rfl (Or.inl rfl)<|.inr rfl) (λ_ _ _ _=>wY) (λ_ _ _ _=>jF 0) λ_ _ _ _=>Cz abK d (jF 0)<|jF 1)
 (jL (j4 (i:=2) pK.nd<|mJ jS)
 (jL (mE bQ rfl (mj<|kF (TU rfl) aam sA<|jJ (jF 0) jS) (j0 (i:=3) pK.nd)
 (jL (j4 (i:=4) pK.nd<|kF Ml aam sA<|jJ (oK (N:=["other", "order", "reached"]) (cap:=[none,some 3,some 1]) rfl (rE ["order", "reached"] rfl ∅ ∅ ∅ ∅ ∅ (bO.mpr ⟨by first|exact Or.inl rfl|exact Or.inr rfl,(bO.mpr ⟨by first|exact Or.inl rfl|exact Or.inr rfl,(nofun)⟩)⟩) ⟨rfl,by decide +kernel,⟨rfl,by decide +kernel,trivial⟩⟩) (FP<|Au d.units (jF 1)<|jF 3) (λ_ _ _ _=>j0 (i:=0) (show(["other", "order", "reached"]:ar).Nodup by decide +kernel) rfl (Or.inl rfl)<|.inr rfl) (λ_ _ _ _=>qp<|kP (Zl d.units) (jF 1)<|Au d.units (jF 2)<|jF 0) λ_ _ _ _=>jF 0) jS)
 (jQ (nZ (kP (Qj d.units) (lK (jF 4) jU)<|jF 3)
 (jQ<|mH<|uP cK cL pG (jF 2)<|jJ (jF 4) jS)
 lR))))
 (jQ<|kh<|jF 2)))
def oX:FnScope pN pY (jV p8):=ue rfl rfl rfl ∅
def xJ(F:Fun K "right_hearths" "right_hearths" p8 f fd)(abM:nW P w K mg base 3 "all_orders" sO oh)(abN:nW P w K mg base 22 "leads_among" rW nA)(abO:nW P w K mg base 2 "gathered" vX qH)(abR:nW P w K mg base 2 "has_other_fall" o4 j9):FnOk P w K mg base qb 23 f fd pY (qZ K 1 k_):=ud (m:=p6) F oX λj B g s H E d=>
 jL (j4 (i:=1) oX.nd<|yy abM d<|jF 0)
 (jL (j4 (i:=2) oX.nd<|yy abN d<|jF 1)
 (jQ<|kh<|yy abO d<|UD (λ_=>UH) d.units (N:=["one", "orders", "leads"]) (cap:=[none,some 1,some 2]) rfl (rE ["orders", "leads"] rfl ∅ ∅ ∅ ∅ ∅ (bO.mpr ⟨by first|exact Or.inl rfl|exact Or.inr rfl,(bO.mpr ⟨by first|exact Or.inl rfl|exact Or.inr rfl,(nofun)⟩)⟩) ⟨rfl,by decide +kernel,⟨rfl,by decide +kernel,trivial⟩⟩) (mj<|jF 1) (λ_ _ _ _=>j0 (i:=0) (show(["one", "orders", "leads"]:ar).Nodup by decide +kernel) rfl (Or.inr rfl)<|.inl rfl) (λ_ _ _ _=>wY) (λ_ _ _ _=>jF 0) λ_ _ _ _=>oK (N:=["other", "leads", "one"]) (cap:=[none,some 2,some 0]) rfl (rE ["leads", "one"] rfl ∅ ∅ ∅ ∅ ∅ (bO.mpr ⟨by first|exact Or.inl rfl|exact Or.inr rfl,(bO.mpr ⟨by first|exact Or.inl rfl|exact Or.inr rfl,(nofun)⟩)⟩) ⟨rfl,by decide +kernel,⟨rfl,by decide +kernel,trivial⟩⟩) (mj<|jF 1) (λ_ _ _ _=>j0 (i:=0) (show(["other", "leads", "one"]:ar).Nodup by decide +kernel) rfl (Or.inl rfl)<|.inr rfl) (λ_ _ _ _=>qp<|AW.at<|GD (kP (aaz d.units) (n8<|jJ (jF 2)<|jJ (jF 0) jS)<|jF 1)<|Dp<|rO<|Cz abR d (jF 0)<|jF 2) λ_ _ _ _=>jF 0))
def EN:FnScope wo wm (jV vQ):=ue rfl rfl rfl ∅
def Fd(F:Fun K "_law_cell" "_law_cell" vQ f fd)(aah:mg "len" = none):FnOk P w K mg base qb 1 f fd wm (qZ K 2 oU):=ud (m:=wH) F EN λg B d s H E j=>
 jL (nZ (kP (SQ j.units) (jF 1)<|kF uE aah qP<|jJ (jF 0) jS)
 (jQ<|kh<|lK (jF 0)<|jF 1)
 lR)
 (jQ<|kh jU)
def v8:FnScope xS xP (jV xN):=ue rfl rfl rfl ∅
def GL(F:Fun K "_law_bag" "_law_bag" xN f fd)(abV:mg "abs" = none):FnOk P w K mg base qb 1 f fd xP (qZ K 2 qy):=ud (m:=xR) F v8 λg B d s H E j=>
 jL (j4 (i:=2) v8.nd<|kF YX abV Xg<|jJ (jF 0) jS)
 (jL (nZ (kP (SQ j.units) (jF 2)<|j5 ZU jU jU)
 (jQ<|j4 (i:=2) v8.nd jU)
 lR)
 (jQ<|kh<|mJ<|jJ (jF 2)<|jJ (j5 Bp (j5 nv (j5 nv (j5 BF (j5 Bp (jF 0) jU) jU)<|j5 BF jU<|jF 1) jU) jU) jS))
def DE:FnScope ug u9 (jV uJ):=ue rfl rfl rfl ∅
def Cw(F:Fun K "_law_mixed" "_law_mixed" uJ f fd):FnOk P w K mg base qb 1 f fd u9 (qZ K 1 nV):=ud (m:=vc) F DE λg B d s H E j=>
 jL (pZ (j5 Bp (j5 nv (j5 BF (lK (jF 0) jU) jU) jU) jU)<|zT (jF 0) jU)
 (jQ<|kh<|j5 CT (j5 Bp (j5 BF (lK (jF 0) jU) jU) jU) jU)
def oA:FnScope rD rJ (jV uS):=ue rfl rfl rfl ∅
def Cu(F:Fun K "_law_digit" "_law_digit" uS f fd)(aai:mg "range" = none)(aaR:nW P w K mg base 1 "_law_mixed" u9 nV):FnOk P w K mg base qb 2 f fd rJ (qZ K 2 lu):=ud (m:=rG) F oA λj B g s H E d=>
 jL (nZ (kP (Nr d.units) (lK (jF 0) jU) jU)
 (jL (j4 (i:=2) oA.nd<|j5 Bp (lK (jF 0) jU)<|jF 1)
 (jL (pZ (j5 CT (lK (jF 0) jU)<|jF 1)<|zT (jF 0) jU)
 (jQ<|kh<|jF 2)))
 lR)
 (jL (j4 (i:=2) oA.nd<|yy aaR d<|jF 0)
 (jL (nZ (kP (Nr d.units) (jF 1) jU)
 (jQ (mE bQ rfl (qw aai jU) (j0 (i:=3) oA.nd)
 (jQ<|j4 (i:=2) oA.nd<|j5 nv (j5 BF (jF 2) jU)<|yy aaR d<|jF 0)))
 lR)
 (jQ<|kh<|j5 Bp (jF 2)<|jF 1)))
def qo:FnScope uw u_ (jV uN):=ue rfl rfl rfl ∅
def Ct(F:Fun K "_law_order" "_law_order" uN f fd)(aau:mg "list" = none)(aai:mg "range" = none)(aah:mg "len" = none)(aax:mg "tuple" = none)(aaK:nW P w K mg base 2 "_law_digit" rJ lu):FnOk P w K mg base qb 3 f fd u_ (qZ K 2 mD):=ud (m:=vd) F qo λg B d s H E j=>
 jL (j4 (i:=2) qo.nd<|mY (CK rfl) aau yV<|jJ (mY FW aai FY<|jJ jU<|jJ (j5 nv (jF 1) jU) jS) jS)
 (jL (j4 (i:=3) qo.nd<|mJ jS)
 (jL (mE bQ rfl (qw aai<|jF 1) (j0 (i:=4) qo.nd)
 (jQ<|mH<|uP cK cL pG (jF 3)<|jJ (uP iA iB Jx (jF 2)<|jJ (Cz aaK j (jF 0)<|kF uE aah qP<|jJ (jF 2) jS) jS) jS))
 (jQ<|kh<|mY (DU rfl) aax Av<|jJ (jF 3) jS)))
def kI:FnScope tQ tK (jV tB):=ue rfl rfl rfl ∅
def A3(F:Fun K "_law_tables" "_law_tables" tB f fd)(aaL:mg "enumerate" = none)(aah:mg "len" = none)(aai:mg "range" = none):FnOk P w K mg base qb 1 f fd tK (qZ K 1 ni):=ud (m:=tX) F kI λj B d s H E g=>
 jL (j4 (i:=1) kI.nd<|mJ jS)
 (jL (j4 (i:=2) kI.nd<|mJ jS)
 (jL (mE bQ rfl (Mp aaL<|jF 0) (p7 rfl<|ko (j0 (i:=3) kI.nd)<|ko (j0 (i:=4) kI.nd) nI)
 (jL (j4 (i:=5) kI.nd jU)
 (jQ (AD 1000000 bQ (kP TR (jF 4)<|Pf)
 (jL (nZ (kP (Qj g.units) (jF 5)<|kF uE aah qP<|jJ (jF 1) jS)
 (jL (mH<|uP cK cL pG (jF 1)<|jJ (mJ jS) jS)
 (jQ<|mH<|uP cK cL pG (jF 2)<|jJ (mJ jS) jS))
 lR)
 (jL (Th (i:=6) (N:=["_law_k", "_law_letter", "_law_first", "_law_at"]) (cap:=[none,some 4,some 1,some 5]) kI.nd rfl (rE ["_law_letter", "_law_first", "_law_at"] rfl ∅ ∅ ∅ ∅ ∅ (bO.mpr ⟨by first|exact Or.inl rfl|exact Or.inr rfl,(bO.mpr ⟨by first|exact Or.inl rfl|exact Or.inr rfl,(bO.mpr ⟨by first|exact Or.inl rfl|exact Or.inr rfl,(nofun)⟩)⟩)⟩) ⟨rfl,by decide +kernel,⟨rfl,by decide +kernel,⟨rfl,by decide +kernel,trivial⟩⟩⟩) (qw aai<|kF uE aah qP<|jJ (lK (jF 1)<|jF 5) jS) (λ_ _ _ _=>j0 (i:=0) (show(["_law_k", "_law_letter", "_law_first", "_law_at"]:ar).Nodup by decide +kernel) rfl (Or.inl rfl)<|.inr rfl) (λ_ _ _ _=>qp<|kP (Nr g.units) (lK (lK (jF 2)<|jF 3)<|jF 0)<|jF 1) λ_ _ _ _=>jF 0)
 (jQ (nZ (kP (Qj g.units) (jF 6)<|mJ jS)
 (jL (mH<|uP cK cL pG (lK (jF 1)<|jF 5)<|jJ (jF 4) jS)
 (jL (mH<|uP cK cL pG (lK (jF 2)<|jF 5)<|jJ (j5 nv (jF 3) jU) jS)
 (jQ<|j4 (i:=4) kI.nd<|Pf)))
 (jL (pZ (n8<|jJ (lK (lK (jF 1)<|jF 5)<|lK (jF 6) jU)<|jJ (jF 4) jS)<|p7 rfl<|ko (j0 (i:=4) kI.nd)<|ko (zT (lK (jF 1)<|jF 5)<|lK (jF 6) jU) nI)
 (jQ<|j4 (i:=5) kI.nd<|j5 nv (jF 5) jU))))))))))
 (jQ<|kh<|n8<|jJ (jF 1)<|jJ (jF 2) jS)))
def oV:FnScope xV vg (jV x_):=ue rfl rfl rfl ∅
def GR(F:Fun K "_law_all" "_law_all" x_ f fd)(aai:mg "range" = none):FnOk P w K mg base qb 1 f fd vg (qZ K 1 nX):=ud (m:=ya) F oV λg B d s H E j=>
 jL (j4 (i:=1) oV.nd<|mJ<|jJ (n8 jS) jS)
 (jL (mE bQ rfl (qw aai<|jF 0) (j0 (i:=2) oV.nd)
 (jL (j4 (i:=3) oV.nd<|mJ jS)
 (jL (mE bQ rfl (mj<|jF 1) (j0 (i:=4) oV.nd)
 (jQ<|mH<|uP PySem.F.slot_list_extend PySem.F.type_list_extend OH (jF 3)<|jJ (oK (N:=["_law_thing", "_law_some"]) (cap:=[none,some 4]) rfl (rE ["_law_some"] rfl ∅ ∅ ∅ ∅ ∅ (bO.mpr ⟨by first|exact Or.inl rfl|exact Or.inr rfl,(nofun)⟩) ⟨rfl,by decide +kernel,trivial⟩) (xU aai jU<|j5 nv (jF 0) jU) (λ_ _ _ _=>j0 (i:=0) (show(["_law_thing", "_law_some"]:ar).Nodup by decide +kernel) rfl (Or.inl rfl)<|.inr rfl) (λ_ _ _ _=>qp<|kP (J4 j.units) (jF 0)<|jF 1) λ_ _ _ _=>j5 nv (jF 1)<|n8<|jJ (jF 0) jS) jS))
 (jQ<|j4 (i:=1) oV.nd<|jF 3))))
 (jQ<|kh<|jF 1))
def Co:FnScope uZ u0 (jV um):=ue rfl rfl rfl ∅
def DF(F:Fun K "_law_backs" "_law_backs" um f fd)(aah:mg "len" = none)(ab0:mg "all" = none)(aaL:mg "enumerate" = none)(aaN:nW P w K mg base 1 "_law_all" vg nX):FnOk P w K mg base qb 2 f fd u0 (qZ K 1 pC):=ud (m:=uO) F Co λj B d s H E g=>
 jQ (kh<|kF uE aah qP<|jJ (oK (N:=["_law_one"]) (cap:=[none]) rfl (rE [] rfl ∅ ∅ ∅ ∅ ∅ (nofun) trivial) (mj<|yy aaN g<|jF 0) (λ_ _ _ _=>j0 (i:=0) (show(["_law_one"]:ar).Nodup by decide +kernel) rfl (Or.inr rfl)<|.inl rfl) (λ_ _ _ _=>qp<|rO<|kF (Z0 rfl) ab0 XT<|jJ (oK (N:=["_law_k", "_law_thing", "_law_one"]) (cap:=[none,none,some 0]) rfl (rE ["_law_one"] rfl ∅ ∅ ∅ ∅ ∅ (bO.mpr ⟨by first|exact Or.inl rfl|exact Or.inr rfl,(nofun)⟩) ⟨rfl,by decide +kernel,trivial⟩) (Mp aaL<|jF 0) (λ_ _ _ _=>p7 rfl<|ko (j0 (i:=0) (show(["_law_k", "_law_thing", "_law_one"]:ar).Nodup by decide +kernel) rfl (Or.inl rfl)<|.inr rfl)<|ko (j0 (i:=1) (show(["_law_k", "_law_thing", "_law_one"]:ar).Nodup by decide +kernel) rfl (Or.inl rfl)<|.inr rfl) nI) (λ_ _ _ _=>wY) λ_ _ _ _=>C7 (Qj g.units) (lK (jF 2)<|j5 yD (jF 1) jU)<|j5 nv (jF 0) jU) jS) λ_ _ _ _=>jF 0) jS)
def rC:FnScope wj vW (jV wu):=ue rfl rfl rfl ∅
def F3(F:Fun K "_law_flat" "_law_flat" wu f fd)(aam:mg "sorted" = none):FnOk P w K mg base qb 1 f fd vW (qZ K 1 qN):=ud (m:=vY) F rC λg B d s H E j=>
 jL (j4 (i:=1) rC.nd<|mJ jS)
 (jL (mE bQ rfl (mj<|jF 0) (j0 (i:=2) rC.nd)
 (jQ<|j4 (i:=1) rC.nd<|j5 nv (jF 1)<|jF 2))
 (jQ<|kh<|kF Ml aam sA<|jJ (jF 1) jS))
def uY:FnScope P5 Va (jV Qx):=ue rfl rfl rfl ∅
set_option smartUnfolding false in
theorem Xd(F:Fun K "law" "law" Qx f fd)(aah:mg "len" = none)(aai:mg "range" = none)(aaK:nW P w K mg base 2 "_law_digit" rJ lu)(aaS:nW P w K mg base 1 "_law_bag" xP qy)(aaU:nW P w K mg base 1 "_law_cell" wm oU)(ab1:nW P w K mg base 23 "right_hearths" pY k_)(ab5:nW P w K mg base 1 "_law_flat" vW qN)(aaN:nW P w K mg base 1 "_law_all" vg nX)(ab9:nW P w K mg base 2 "_law_backs" u0 pC)(aaV:nW P w K mg base 3 "_law_order" u_ mD)(aaW:nW P w K mg base 1 "_law_tables" tK ni):FnOk P w K mg base qb 24 f fd Va (qZ K 1 Bf):=ud (m:=NR) F uY λj B g s H E d=>
 jL (j4 (i:=1) uY.nd<|lK (mJ<|jJ jU<|jJ jU<|jJ jU<|jJ jU<|jJ jU<|jJ jU jS)<|Cz aaK d (Cz aaS d (Cz aaU d (jF 0) jU) jU) jU)
 (jL (j4 (i:=2) uY.nd<|yy ab1 d<|jF 1)
 (jL (nZ (AW.at<|N6 (kP (Gi d.units) (kF uE aah qP<|jJ (jF 2) jS)<|yy ab9 d<|jF 1)<|O_<|kP (Gi d.units) (yy ab5 d<|jF 2)<|yy aaN d<|jF 1)
 (jQ<|kh EF)
 lR)
 (jL (mE bQ rfl (qw aai jU) (j0 (i:=3) uY.nd)
 (jL (j4 (i:=4) uY.nd<|Cz aaS d (Cz aaU d (jF 0)<|j5 nv jU<|jF 3)<|j5 nv jU<|jF 3)
 (jL (j4 (i:=5) uY.nd<|Cz aaV d (jF 4)<|jF 1)
 (jL (j4 (i:=6) uY.nd<|Cz aaV d (jF 4)<|jF 1)
 (jL (j4 (i:=7) uY.nd<|lK (oK (N:=["_law_hearth", "_law_one"]) (cap:=[none,some 5]) rfl (rE ["_law_one"] rfl ∅ ∅ ∅ ∅ ∅ (bO.mpr ⟨by first|exact Or.inl rfl|exact Or.inr rfl,(nofun)⟩) ⟨rfl,by decide +kernel,trivial⟩) (mj<|jF 2) (λ_ _ _ _=>j0 (i:=0) (show(["_law_hearth", "_law_one"]:ar).Nodup by decide +kernel) rfl (Or.inl rfl)<|.inr rfl) (λ_ _ _ _=>qp<|kP (Tc d.units) (jF 1)<|jF 0) λ_ _ _ _=>jF 0) jU)
 (jQ (nZ (kP (Gi d.units) (C7 (Tc d.units) (jF 6)<|jF 7)<|C7 (Qj d.units) (lK (yy aaW d<|jF 5) jU)<|lK (yy aaW d<|jF 6) jU)
 (jQ<|kh EF)
 lR)))))))
 (jQ<|kh EF))))
end
end K66
namespace Po
open Am
meta abbrev Pl:=List<|Int×Int
abbrev val (d:Pl)(k:Int):Int:=((d.find? λp=>decide<|p.1=k).map (·.2)).getD 0
abbrev has (d:Pl)(k:Int):Bool:=d.any λp=>decide<|p.1=k
abbrev put (d:Pl)(k v:Int):Pl:=if has d k=true then d.map (λp=>if p.1=k then(p.1,v)else p)else d++[(k,v)]
abbrev acc (d:Pl)(k v:Int):Pl:=put d k<|val d k+v
abbrev cf:Pl->Int->Int
 | [],_=>0
 | p::l,k=>(if p.1=k then p.2 else 0)+cf l k
def pF{p:Int×Int}{d:Pl}{k:Int}:val (p::d) k=if p.1=k then p.2 else val d k:=by
 unfold val;rw[b9];by_cases h:p.1=k
 ·rw[bg h,aN h];rfl
 ·rw[bB h,aM h]
def Ae{p:Int×Int}{d:Pl}{k:Int}:has (p::d) k=(decide (p.1=k) || has d k):=rfl
def wL{d:Pl}{k:Int}:has d k=true ↔ k∈d.map Prod.fst:=by
 unfold has;rw[gq,bu];constructor
 ·rintro⟨p,h1,h2⟩;exact⟨p,h1,bY h2⟩
 ·rintro⟨p,h1,h2⟩;exact⟨p,h1,bg h2⟩
def Mx{d:Pl}{k:Int}(h:has d k=false):val d k=0:=by
 induction d with
 | nil=>rfl
 | cons p d f=>
  rw[Ae,iL]at h;rw[pF,aM<|eO h.1,f h.2]
def RX{d:Pl}{k v j:Int}(h:has d k=false):val (d++[(k,v)]) j=if j=k then v else val d j:=by
 induction d with
 | nil=>
  show val [(k,v)] j=_;rw[pF];by_cases c:k=j
  ·rw[aN c,aN c.symm]
  ·rw[aM c,aM λz=>c z.symm]
 | cons p d f=>
  rw[Ae,iL]at h;have:=eO h.1;rw[iD,pF,pF,f h.2];by_cases c:p.1=j
  ·rw[aN c,aN c,aM λz=>this<|c.trans z]
  ·rw[aM c,aM c]
def Uh{d:Pl}{k v j:Int}:val (d.map λp=>if p.1=k then(p.1,v)else p) j=if j=k/\has d k=true then v else val d j:=by
 induction d with
 | nil=>
  rw[aM λz=>by cases z.2];rfl
 | cons p d f=>
  rw[bI,pF,pF,f,Ae];by_cases c:p.1=k
  ·rw[aN c,bg c,Bool.true_or];by_cases e:j=k
   ·rw[aN<|show p.1=j by lia,aN ⟨e,rfl⟩]
   ·rw[aM<|show ¬p.1=j by lia,aM λz=>e z.1,aM λz=>e z.1,aM<|show ¬p.1=j by lia]
  ·rw[aM c,bB c,fY];by_cases e:p.1=j
   ·rw[aN e,aN e,aM λz=>c<|e.trans z.1]
   ·rw[aM e,aM e]
def Ua{d:Pl}{k v j:Int}:val (put d k v) j=if j=k then v else val d j:=by
 unfold put
 cases h:has d k with
 | true=>
  rw[aN rfl,Uh,h];by_cases c:j=k
  ·rw[aN ⟨c,rfl⟩,aN c]
  ·rw[aM λz=>c z.1,aM c]
 | false=>rw[aM<|by simp,RX h]
def Rx{d:Pl}{k v j:Int}:val (acc d k v) j=val d j+if k=j then v else 0:=by
 unfold acc;rw[Ua];by_cases c:j=k
 ·subst c;rw[aN rfl,aN rfl]
 ·rw[aM c,aM λz=>c z.symm,fO]
def PL{d:Pl}{k v:Int}:(put d k v).map Prod.fst=if has d k=true then d.map Prod.fst else d.map Prod.fst++[k]:=by
 unfold put;split
 ·rw[bz];apply cB;intro p _;show(if p.1=k then(p.1,v)else p).1=p.1;split<;>rfl
 ·rw[bC];rfl
def We{d:Pl}{k v:Int}(h:(d.map Prod.fst).Nodup):((put d k v).map Prod.fst).Nodup:=by
 rw[PL];split
 ·exact h
 ·rename_i c;rw[cE];refine⟨h,cP _ _,λa ha b hb z=>c ?_⟩;rw[aP]at hb;rw[wL,<- hb,<- z];exact ha
def RU{d:Pl}{k v:Int}:(put d k v).length<=d.length+1:=by
 unfold put;split
 ·rw[aG];lia
 ·rw[aW];exact aK _
abbrev Bd (c:Nat)(d:Pl):Prop:=∀p∈d,p.2.natAbs<=c
theorem Bd.val{c:Nat}{d:Pl}(h:Bd c d)(k:Int):(val d k).natAbs<=c:=by
 induction d with
 | nil=>exact bK _
 | cons p d f=>
  rw[pF];split
  ·exact h p (aO ..)
  ·exact f λq hq=>h q<|aQ _ hq
abbrev q_ (d ps:Pl):Pl:=ps.foldl (λd p=>acc d p.1 p.2) d
def ND(d:Pl):q_ d []=d:=rfl
def AA(d ps qs:Pl):q_ d (ps++qs)=q_ (q_ d ps) qs:=by unfold q_;rw[dF]
def wW(ps:Pl):∀(d:Pl) (k:Int),val (q_ d ps) k=val d k+cf ps k:=by
 induction ps with
 | nil=>intro d k;rw[ND];show _=_+0;rw[fO]
 | cons p ps f=>
  intro d k;show val (q_ (acc d p.1 p.2) ps) k=_;rw[f,Rx];show _=_+(_+_);rw[iK]
def xB(ps:Pl):∀{d:Pl},(d.map Prod.fst).Nodup->((q_ d ps).map Prod.fst).Nodup:=by
 induction ps with
 | nil=>intro d h;exact h
 | cons p ps f=>intro d h;exact f<|We h
def qW(ps:Pl):∀(d:Pl),(q_ d ps).length<=d.length+ps.length:=by
 induction ps with
 | nil=>intro d;exact aK _
 | cons p ps f=>
  intro d;have h1:=f<|acc d p.1 p.2;have h2:(acc d p.1 p.2).length<=d.length+1:=RU;show(q_ (acc d p.1 p.2) ps).length<=_;rw[bG]
  lia
structure Ok (l:Pl):Prop where
 up:l.Pairwise λp q=>p.1<q.1
 nz:∀p∈l,p.2≠0
def Ok.tail{p:Int×Int}{l:Pl}(h:Ok (p::l)):Ok l:=⟨(cj.mp h.up).2,λq hq=>h.nz q<|aQ _ hq⟩
def Eg{l:Pl}{k:Int}(h:∀p∈l,k<p.1):cf l k=0:=by
 induction l with
 | nil=>rfl
 | cons p l d=>
  show(if p.1=k then p.2 else 0)+cf l k=0;have:=h p<|aO ..;rw[aM (),d λq hq=>h q<|aQ _ hq];rfl
def Ok.head{p:Int×Int}{l:Pl}(h:Ok (p::l)):cf (p::l) p.1=p.2:=by
 show(if p.1=p.1 then p.2 else 0)+cf l p.1=p.2;rw[aN rfl,Eg (cj.mp h.up).1,fO]
def Ok.low{p:Int×Int}{l:Pl}(h:Ok (p::l)){k:Int}(hk:k<p.1):cf (p::l) k=0:=Eg λq hq=>by
 rcases bF.mp hq with rfl|z
 ·exact hk
 ·have:=(cj.mp h.up).1 q z;lia
theorem uniq:∀{l m:Pl},Ok l->Ok m->(∀k,cf l k=cf m k)->l=m
 | [],[],_,_,_=>rfl
 | [],q::m,_,h,e=>by
  have:=e q.1;rw[h.head]at this;exact absurd this.symm<|h.nz q<|aO ..
 | p::l,[],h,_,e=>by
  have:=e p.1;rw[h.head]at this;exact absurd this<|h.nz p<|aO ..
 | p::l,q::m,h,h',e=>by
  have f:=h.nz p<|aO ..;have d:=h'.nz q<|aO ..;have e1:p.1=q.1:=by
   rcases Int.lt_trichotomy p.1 q.1 with c|c|c
   ·have:=e p.1;rw[h.head,h'.low c]at this;exact absurd this f
   ·exact c
   ·have:=e q.1;rw[h'.head,h.low c]at this;exact absurd this.symm d
  have e2:p.2=q.2:=by
   have:=e p.1;rw[h.head,e1,h'.head]at this;exact this
  have e3:p=q:=Prod.ext e1 e2;subst e3;rw[uniq h.tail h'.tail λk=>by
   have:(if p.1=k then p.2 else 0)+cf l k=(if p.1=k then p.2 else 0)+cf m k:=e k
   lia]
abbrev Hq (d:Pl):Pl:=((sortI<|d.map Prod.fst).filter λk=>val d k != 0).map λk=>(k,val d k)
def SO{ks:ag}(h:ks.Nodup):(sortI ks).Pairwise (· < ·):=by
 have p:=w6 ks;have n:(sortI ks).Nodup:=(sortI_perm ks).nodup_iff.mpr h;have:(sortI ks).Pairwise λa b=>a<=b/\a≠b:=p.and n;exact this.imp λ⟨a,b⟩=>()
def GG{d:Pl}(h:(d.map Prod.fst).Nodup):Ok (Hq d):=by
 refine⟨?_,λp g=>?_⟩
 ·unfold Hq;rw[cJ];exact(SO h).filter _
 ·obtain⟨k,f,rfl⟩:=bu.mp g;have:=(cg.mp f).2;simpa using this
theorem QH{d:Pl}{k:Int}:∀{ks:ag},ks.Nodup->cf (ks.map λj=>(j,val d j)) k=if k∈ks then val d k else 0
 | [],_=>by rw[aM<|by simp];rfl
 | j::ks,h=>by
  obtain⟨h1,h2⟩:=bU.mp h;show(if j=k then val d j else 0)+cf (ks.map λj=>(j,val d j)) k=_;rw[QH h2];by_cases c:j=k
  ·subst c;rw[aN rfl,aM h1,aN<|aO ..,fO]
  ·rw[aM c,c_];by_cases e:k∈ks
   ·rw[aN e,aN<|aQ _ e]
   ·rw[aM e,aM λz=>(bF.mp z).elim (λz=>c z.symm) e]
def CD{d:Pl}(h:(d.map Prod.fst).Nodup)(k:Int):cf (Hq d) k=val d k:=by
 unfold Hq;rw[QH<|((sortI_perm _).nodup_iff.mpr h).filter _];split
 ·rfl
 ·rename_i c
  cases e:has d k with
  | false=>exact(Mx e).symm
  | true=>
   by_cases z:val d k=0
   ·exact z.symm
   ·exact absurd (cg.mpr ⟨(sortI_perm _).mem_iff.mpr<|wL.mp e,by simpa using z⟩) c
def Xh{d e:Pl}(h:(d.map Prod.fst).Nodup)(h':(e.map Prod.fst).Nodup)(hv:∀k,val d k=val e k):Hq d=Hq e:=
 uniq (GG h) (GG h') λk=>by rw[CD h,CD h',hv]
def Ok.nd{l:Pl}(h:Ok l):(l.map Prod.fst).Nodup:=by
 unfold List.Nodup;rw[cJ];exact h.up.imp λa=>()
def Pu{l:Pl}(h:(l.map Prod.fst).Nodup)(k:Int):val l k=cf l k:=by
 induction l with
 | nil=>rfl
 | cons p l d=>
  obtain⟨h1,h2⟩:=bU.mp h;rw[pF];show _=(if p.1=k then p.2 else 0)+cf l k;rw[<- d h2];by_cases c:p.1=k
  ·have:has l k=false:=by
    cases e:has l k with
    | false=>rfl
    | true=>exact absurd (wL.mp e)<|by rw[<- c];exact h1
   rw[aN c,aN c,Mx this,fO]
  ·rw[aM c,aM c,c_]
abbrev QM (d ps:Pl):Pl:=ps.foldl (λd p=>put d p.1 p.2) d
theorem IT:∀(ps d:Pl),((d++ps).map Prod.fst).Nodup->QM d ps=d++ps
 | [],d,_=>by rw[b8];rfl
 | p::ps,d,h=>by
  have hn:has d p.1=false:=by
   cases e:has d p.1 with
   | false=>rfl
   | true=>
    rw[bC,cE]at h;exact absurd rfl<|h.2.2 _ (wL.mp e) p.1<|fF<|aO ..
  have e:put d p.1 p.2=d++[p]:=by unfold put;rw[hn];rfl
  show QM (put d p.1 p.2) ps=_;rw[e,IT ps (d++[p])<|by rw[bX];exact h,bX];rfl
def Iw{l:Pl}(h:Ok l):QM [] l=l:=IT l [] h.nd
abbrev plus (a b:Pl):Pl:=Hq<|q_ a b
abbrev o_ (a b:Pl):Pl:=Hq<|q_ []<|a++b
def Tr{a:Pl}(h:Ok a):plus a b=o_ a b:=by
 refine Xh (xB _ h.nd) (xB _ dz) λk=>?_;rw[wW,wW,Pu h.nd];have:∀(a b:Pl),cf (a++b) k=cf a k+cf b k:=λa b=>by
  induction a with
  | nil=>exact(c_ _).symm
  | cons p a d=>
   show _+cf (a++b) k=_+_+_;rw[d,iK]
 rw[this];show _=0+_;rw[c_]
def Fv(a b:Pl):Ok (o_ a b):=GG<|xB _ dz
abbrev Iq (a b:Pl):Pl:=a.flatMap λp=>b.map λq=>(p.1+q.1,p.2 * q.2)
abbrev times (a b:Pl):Pl:=Hq<|q_ []<|Iq a b
def M5(a:Pl)(p:Int×Int)(b:Pl):Iq (a++[p]) b=Iq a b++b.map λq=>(p.1+q.1,p.2 * q.2):=by
 unfold Iq;rw[gz,f_,jl,b8]
def C8(a b:Pl):(Iq a b).length=a.length * b.length:=by
 induction a with
 | nil=>simp[Iq]
 | cons p a d=>
  show((b.map _)++Iq a b).length=_;rw[aW,aG,d,bG,fL]
  lia
def JQ(d:Pl):(Hq d).length<=d.length:=by
 unfold Po.Hq;rw[aG];refine bH (cM _ _) ?_;rw[(sortI_perm _).length_eq,aG];exact aK _
abbrev turn (a:Pl):Pl:=a.reverse.map λp=>(-p.1,p.2)
abbrev iv (d:Pl):List (Int×A):=d.map λp=>(p.1,.int p.2)
abbrev pA (p:Int×Int):A:=.tup [.int p.1,.int p.2]
abbrev pl (l:Pl):ae:=l.map pA
def Di(d:Pl)(k:Int):ny (iv d) k=(d.find? λp=>decide<|p.1=k).map λp=>.int p.2:=by
 unfold ny iv;rw[h_,eU];rfl
def GN(d:Pl)(k:Int):(ny (iv d) k).getD (.int 0)=.int (val d k):=by
 rw[Di];unfold val
 cases d.find? λp=>decide (p.1=k)<;>rfl
def FZ{d:Pl}{k:Int}(h:k∈d.map Prod.fst):ny (iv d) k=some (.int<|val d k):=by
 have:=wL.mpr h;unfold has at this;rw[Di];unfold val
 cases e:d.find? λp=>decide (p.1=k)with
 | some p=>rfl
 | none=>
  obtain⟨p,f,g⟩:=gq.mp this;exact absurd g<|fP.mp e p f
def GF(d:Pl)(k v:Int):xZ (iv d) k (.int v)=iv (put d k v):=by
 have e:(ny (iv d) k).isSome=has d k:=by
  rw[Di,d7];unfold has;rw[Bool.eq_iff_iff,jf,gq]
 unfold xZ put;rw[e];unfold iv;split
 ·rw[bz,bz];apply cB;intro p _;show(if p.1=k then(p.1,A.int v)else(p.1,.int p.2))=_;show _=((if p.1=k then(p.1,v)else p).1,A.int (if p.1=k then(p.1,v)else p).2);split<;>rfl
 ·rw[bC];rfl
def Uc(d:Pl):(iv d).map Prod.fst=d.map Prod.fst:=by
 unfold iv;rw[bz];rfl
theorem MY:∀l:Pl,RH (pl l)=some (iv l)
 | []=>rfl
 | p::l=>by
  show(RH<|pl l).map _=_;rw[MY l];rfl
def Ie(l:Pl):RO (iv l)=iv (QM [] l):=by
 have:∀(l d:Pl),(iv l).foldl (λacc p=>xZ acc p.1 p.2) (iv d)=iv (QM d l):=by
  intro l
  induction l with
  | nil=>intro d;rfl
  | cons p l f=>
   intro d;show(iv l).foldl _ (xZ (iv d) p.1<|.int p.2)=_;rw[GF,f];rfl
 exact this l []
end Po
namespace Tb
abbrev fg (r:ag)(x:Int):Nat:=r.findIdx λy=>decide<|x<y
abbrev put:List (ag)->Int->List (ag)
 | [],x=>[[x]]
 | r::rs,x=>if fg r x=r.length then(r++[x])::rs else r.set (fg r x) x::put rs (r.getD (fg r x) 0)
abbrev row:List (ag)->Int->Nat
 | [],_=>0
 | r::rs,x=>if fg r x=r.length then 0 else row rs (r.getD (fg r x) 0)+1
def S_{r:ag}{x:Int}(h:fg r x=r.length):put (r::rs) x=(r++[x])::rs:=aN h
def X3{r:ag}{x:Int}(h:fg r x≠r.length):put (r::rs) x=r.set (fg r x) x::put rs (r.getD (fg r x) 0):=aM h
def HG{r:ag}{x:Int}(h:fg r x=r.length):row (r::rs) x=0:=aN h
def NS{r:ag}{x:Int}(h:fg r x≠r.length):row (r::rs) x=row rs (r.getD (fg r x) 0)+1:=aM h
theorem OT:∀(T:List<|ag) (x:Int),row T x<=T.length
 | [],_=>aK _
 | r::rs,x=>by
  by_cases h:fg r x=r.length
  ·rw[HG h];exact bK _
  ·rw[NS h,bG];exact Nat.succ_le_succ<|OT rs _
abbrev bump:am->Nat->am
 | [],_=>[1]
 | n::ns,0=>(n+1)::ns
 | n::ns,i+1=>n::bump ns i
theorem BA:∀(T:List<|ag) (x:Int),(put T x).map List.length=bump (T.map List.length) (row T x)
 | [],_=>rfl
 | r::rs,x=>by
  by_cases h:fg r x=r.length
  ·rw[S_ h,HG h,bI,bI,aW];rfl
  ·rw[X3 h,NS h,bI,bI,bV,BA rs];rfl
theorem Ey:∀(ns:am) (i:Nat),i<=ns.length->(bump ns i).length=if i=ns.length then ns.length+1 else ns.length
 | [],i,h=>by
  have:i=0:=by simpa using h
  subst this;rfl
 | n::ns,0,_=>by rw[aM<|by simp];rfl
 | n::ns,i+1,h=>by
  have h':i<=ns.length:=Nat.le_of_succ_le_succ h;show(bump ns i).length+1=_;rw[Ey ns i h'];by_cases e:i=ns.length
  ·rw[aN e,aN<|by rw[bG,e]];rfl
  ·rw[aM e,aM<|by rw[bG];lia];rfl
def JG(T:List<|ag)(x:Int):(put T x).length=if row T x=T.length then T.length+1 else T.length:=by
 have:=c7 List.length<|BA T x;rw[aG,Ey _ _<|by rw[aG];exact OT T x,aG]at this;exact this
abbrev add:List (ag)->Nat->Int->List (ag)
 | [],_,k=>[[k]]
 | q::qs,0,k=>(q++[k])::qs
 | q::qs,i+1,k=>q::add qs i k
abbrev gs (r:ag)(x:Int):am:=(List.range r.length).filter λk=>decide<|x<r.getD k 0
end Tb
namespace Am
open PySem L2
abbrev Rows (S:jK):am->List (ag)->Prop
 | [],[]=>True
 | r::rs,x::T=>jI S r=some (x.map .int)/\Rows S rs T
 | _,_=>False
theorem Rows.len:∀{rs:am}{T:List<|ag},Rows S rs T->rs.length=T.length
 | [],[],_=>rfl
 | _::_,_::_,h=>c7 (·+1) (Rows.len h.2)
 | [],_::_,h=>h.elim
 | _::_,[],h=>h.elim
theorem Rows.get:∀{rs:am}{T:List<|ag}{i:Nat}{r:Nat},Rows S rs T->rs[i]?=some r->i<T.length/\jI S r=some ((T.getD i []).map .int)
 | [],[],_,_,_,e=>by simp at e
 | r::rs,x::T,0,_,h,e=>by simp at e;subst e;exact⟨Nat.zero_lt_succ _,h.1⟩
 | r::rs,x::T,i+1,q,h,e=>by
  obtain⟨h1,h2⟩:=Rows.get (i:=i) (r:=q) h.2 (by simpa using e);exact⟨Nat.succ_lt_succ h1,by simpa using h2⟩
 | [],_::_,_,_,h,_=>h.elim
 | _::_,[],_,_,h,_=>h.elim
theorem Rows.mono:∀{rs:am}{T:List<|ag},Rows S rs T->(∀r∈rs,∀xs,jI S r=some xs->jI S' r=some xs)->Rows S' rs T
 | [],[],_,_=>trivial
 | r::rs,x::T,h,k=>⟨k r (aO ..) _ h.1,Rows.mono h.2 λq hq=>k q<|aQ _ hq⟩
 | [],_::_,h,_=>h.elim
 | _::_,[],h,_=>h.elim
theorem Rows.set{S:jK}{ys:ag}:∀{rs:am}{T:List<|ag}{i:Nat}{r:Nat},Rows S rs T->rs.Nodup->rs[i]?=some r->Rows (S.set r<|.lst<|ys.map .int) rs (T.set i ys)
 | [],[],_,_,_,_,e=>by simp at e
 | r::rs,x::T,0,q,h,nd,e=>by
  simp at e;subst e;refine⟨oz<|lB h.1,Rows.mono h.2 λq hq xs e=>?_⟩;rw[k9<|show r≠q from λz=>(bU.mp nd).1<|by rw[z];exact hq];exact e
 | r::rs,x::T,i+1,q,h,nd,e=>by
  have d:rs[i]?=some q:=by simpa using e
  refine⟨?_,Rows.set h.2 (bU.mp nd).2 d⟩;rw[k9<|show q≠r from λz=>(bU.mp nd).1<|by rw[<- z];exact aS d];exact h.1
 | [],_::_,_,_,h,_,_=>h.elim
 | _::_,[],_,_,h,_,_=>h.elim
theorem Rows.app:∀{rs rs':am}{T T':List<|ag},Rows S rs T->Rows S rs' T'->Rows S (rs++rs') (T++T')
 | [],_,[],_,_,h=>h
 | r::rs,_,x::T,_,h,h'=>⟨h.1,Rows.app h.2 h'⟩
 | [],_,_::_,_,h,_=>h.elim
 | _::_,_,[],_,h,_=>h.elim
theorem Ca{n:Nat}:∀{rs rs':am}{T T':List<|ag},Rows S rs T->Rows S rs' T'->sF (vJ S<|n+2) (rs.map .ref) (rs'.map .ref)=some (decide<|T=T')
 | [],[],[],[],_,_=>rfl
 | [],_::_,[],_::_,_,_=>rfl
 | _::_,[],_::_,[],_,_=>rfl
 | r::rs,q::qs,x::T,y::T',h,h'=>by
  show(vJ S (n+2) (.ref r)<|.ref q).bind _=_;have e:vJ S (n+2) (.ref r) (.ref q)=some (decide<|x=y):=by
   show(jI S r).bind (λxs=>(jI S q).bind λys=>sF (vJ S<|n+1) xs ys)=_;rw[h.1,cH,h'.1,cH];exact se x y
  rw[e,cH]
  skip
  rw[Ca h.2 h'.2]
  skip
  by_cases h1:x=y<;>by_cases h2:T=T'<;>simp[h1,h2]
 | [],_,_::_,_,h,_=>h.elim
 | _::_,_,[],_,h,_=>h.elim
 | _,[],_,_::_,_,h=>h.elim
 | _,_::_,_,[],_,h=>h.elim
structure Tab (S:jK)(n:Nat)(rs:am)(T:List (ag)):Prop where
 top:jI S n=some (rs.map .ref)
 rows:Rows S rs T
 nd:(n::rs).Nodup
def Tab.len{n:Nat}{rs:am}{T:List<|ag}(h:Tab S n rs T):rs.length=T.length:=h.rows.len
def Tab.kp{n:Nat}{c:Nat->Prop}(h:Tab S n rs T)(k:Kp c S S')(hc:∀r∈n::rs,¬c r):Tab S' n rs T:=
 ⟨k.lst _ _ (hc n<|aO ..) h.top,h.rows.mono λr d xs e=>k.lst r xs (hc r<|aQ _ d) e,h.nd⟩
def Tab.wC{n:Nat}(h:Tab S n rs T)(k:ly S S'):Tab S' n rs T:=h.kp k λ_ _ z=>z
def Rows.lt{S:jK}{rs:am}(h:Rows S rs T):∀r∈rs,r<S.length:=λr d=>by
 obtain⟨i,f,e⟩:=cD.mp d;exact lB (h.get<|by rw[aI f,e]).2
def Tab.lt{S:jK}{n:Nat}(h:Tab S n rs T):∀r∈n::rs,r<S.length:=λr d=>by
 rcases bF.mp d with z|z
 ·rw[z];exact lB h.top
 ·exact h.rows.lt r z
def Tab.set{S:jK}{n:Nat}{T:List<|ag}{i r:Nat}{ys:ag}(h:Tab S n rs T)(hi:rs[i]?=some r):Tab (S.set r<|.lst<|ys.map .int) n rs (T.set i ys):=
 ⟨by rw[k9<|show r≠n from λz=>(bU.mp h.nd).1<|by rw[<- z];exact aS hi];exact h.top,h.rows.set (bU.mp h.nd).2 hi,h.nd⟩
def Tab.push{S:jK}{n:Nat}{ys:ag}(h:Tab S n rs T):Tab ((S++[O.lst<|ys.map .int]).set n<|.lst<|(rs++[S.length]).map .ref) n (rs++[S.length]) (T++[ys]):=by
 have hn:n<S.length:=h.lt n<|aO ..;have f:∀r∈rs,n≠r:=λr d z=>(bU.mp h.nd).1<|z ▸ d;refine⟨oz<|by rw[aW];simp;lia,Rows.app (h.rows.mono λr d xs e=>?_) ⟨?_,trivial⟩,?_⟩
 ·rw[k9<|f r d];exact kM e
 ·rw[k9 ()];exact jX
 ·rw[bU,cE];refine⟨λz=>?_,(bU.mp h.nd).2,by simp,λa ha b hb z=>?_⟩
  ·rcases bq.mp z with z|z
   ·exact f n z rfl
   ·have:n=S.length:=by simpa using z
    lia
  ·have g:b=S.length:=by simpa using hb
   have:=h.rows.lt a ha
   lia
def Tab.eq{n:Nat}(h:Tab S n rs T)(h':Tab S m qs U):vJ S 12 (.ref n) (.ref m)=some (decide<|T=U):=by
 show(jI S n).bind (λxs=>(jI S m).bind λys=>sF (vJ S 11) xs ys)=_;rw[h.top,cH,h'.top,cH];exact Ca h.rows h'.rows
def Tab.nil{n:Nat}(h:jI S n=some []):Tab S n [] []:=⟨h,trivial,by simp⟩
def eq_nil{a:Nat}{xs:ae}(h:jI S a=some xs)(h':jI S b=some []):vJ S 12 (.ref a) (.ref b)=some xs.isEmpty:=by
 show(jI S a).bind (λxs=>(jI S b).bind λys=>sF (vJ S 11) xs ys)=_;rw[h,cH,h',cH]
 cases xs<;>rfl
def F9{a:A}{k:Bool}(h:vJ S 12 a b=some k):uc false a b S=.ok (.bl k) S:=by unfold uc;rw[h];rfl
def Wv{a:A}{k:Bool}(h:vJ S 12 a b=some k):uc true a b S=.ok (.bl<|!k) S:=by unfold uc;rw[h];rfl
def Fb{xs:ae}{n:Nat}{src:Ic}{t:Te}{e:Ex}{S:jK}(hs:src τ S=.ok (lD n xs.length) S)(hx:jI S n=some xs)(p:A->Bool)(f:A->A)
  (ht:∀x∈xs,t (x::lX cap τ) S=.ok (p x) S) (he:∀x∈xs,p x=true->e (x::lX cap τ) S=.ok (f x) S) (hl:xs.length<=16777216) :
  kH (none::cap) src (j_ 0) t e τ S=.ok (.ref S.length) (S++[.lst<|(xs.filter p).map f]):=by
 have g:∀i,i<xs.length->xs.getD i .unb∈xs:=λi d=>by
  rw[aL,aI d];exact eG d
 rw[yj hs (λi=>xs.getD i .unb) (λi=>p<|xs.getD i .unb) (λi=>f<|xs.getD i .unb) (λi d=>by
  have d:i<xs.length:=d;show(jI S n).bind _=_;rw[hx,cH,aL,aI d];rfl) (by
   show(match jI S n with
    | some ys=>decide (ys.length<=xs.length)
    | none=>false)=true
   rw[hx];simp) (λi d=>ht _<|g i d) (λi d=>he _<|g i d) hl]
 have:=nk xs p f .unb;show R.ok _ (S++[O.lst<|((List.range xs.length).filter _).map _])=_;rw[this]
def getD_at{r:ag}{k:Nat}(h:k<r.length):r[k]?=some (r.getD k 0):=by rw[aL,aI h];rfl
def OD{r:ag}{i:Int}{k:Nat}(h:i=k)(hk:k<r.length):t8 (r.map A.int) i=some (.int<|r.getD k 0):=C6 h<|getD_at hk
end Am
namespace Am
open PySem L2 Po
meta abbrev g01:Tg:=yC 2<|qa (j_ 0)<|qa (j_ 1) yw
def Gw{s:Src}{src:Ic}{e:Ex}{S1:jK}(hs:src τ S=.ok s S1)(a b f:Nat->A)(hget:∀i,i<s.k->s.get i S1=some (.tup [a i,b i]))(hfin:s.fin S1=true)
  (he:∀i,i<s.k->e (a i::b i::lX cap τ) S1=.ok (f i) S1) (hl:s.k<=16777216) :
  kH (none::none::cap) src g01 t9 e τ S=.ok (.ref S1.length) (S1++[.lst<|(List.range s.k).map f]):=by
 unfold kH;rw[hs,R.mU];obtain⟨q,h1,h2⟩:=vq (s:=s) (g:=g01) (t:=t9) (e:=e) (P:=λS=>S=S1) (T:=λd=>∃y z,d=y::z::lX cap τ) (λi=>.tup [a i,b i]) (λ_=>true) f (λi S j h=>by subst h;exact hget i j) (λS h=>by subst h;exact hfin)
  (λi d S j ⟨y,z,hy⟩ h=>by
   subst h hy;exact⟨a i::b i::lX cap τ,S,S,rfl,rfl,⟨_,_,rfl⟩,λh=>(nomatch h),λp=>⟨S,he i j,rfl⟩⟩) s.k 0 (lX (none::none::cap) τ) S1 rfl ⟨_,_,rfl⟩ rfl
 subst h2;rw[h1,R.lA,fj,gA.mpr λ_ _=>rfl];refine l_ ?_;rw[aG,List.length_range'];exact hl
def MJ(l:Pl):(pl l).length=l.length:=aG ..
def LS{xs:ae}{n:Nat}{src:Ic}{t:Te}{e:Ex}{S1:jK}(hs:src τ S=.ok (lD n xs.length) S1)(hx:jI S1 n=some xs)(p:A->Bool)(f:A->A)
  (ht:∀x∈xs,t (x::lX cap τ) S1=.ok (p x) S1) (he:∀x∈xs,p x=true->e (x::lX cap τ) S1=.ok (f x) S1) (hl:xs.length<=16777216) :
  kH (none::cap) src (j_ 0) t e τ S=.ok (.ref S1.length) (S1++[.lst<|(xs.filter p).map f]):=by
 have:=Fb (S:=S1) (src:=λ_ _=>.ok (lD n xs.length) S1) (τ:=τ) rfl hx p f ht he hl;unfold kH at this ⊢;rw[hs];exact this
def Ho{S:jK}{d:List<|Int×A}:l8 (S++[.qc d]) S.length=some d:=DA DQ
def VB{o:O}{n:Nat}{d:List<|Int×A}(h:l8 S n=some d):l8 (S++[o]) n=some d:=by
 have h':=qg h;exact DA<|by rw[bw (aJ.mp h').1];exact h'
def UK{S:jK}{n:Nat}{d:List<|Int×A}(h:l8 S n=some d):n<S.length:=(aJ.mp<|qg h).1
def OM{S:jK}{n:Nat}{d:List<|Int×A}(h:n<S.length):l8 (S.set n<|.qc d) n=some d:=DA<|bJ h
def Ji{n:Nat}{d:List<|Int×A}(h:l8 S n=some d)(h':jI S m=some xs):n≠m:=λz=>by
 subst z;have e1:=qg h;rw[jW h']at e1
 cases e1
def CJ{f:A->ae->jK->R A}{co:Ex}{d:rR}:Gu f co d τ S=(co τ S).bind λx S1=>opt (dk? x S1) λ_=>(d τ S1).bind λas S2=>f x as S2:=rfl
def GQ{n:Nat}:dk? (.ref n) S=(l8 S n).map λ_=>Unit.unit:=rfl
def Ak{n:Nat}{k:Int}:wM (.ref n) [.int k,y] S=opt (l8 S n) λkvs=>.ok ((ny kvs k).getD y) S:=rfl
def JL{co ci:Ex}{a:A}:Ky co ci a τ S=(co τ S).bind λo S1=>(ci τ S1).bind λi S2=>(BS o i a S2).bind λ_ S3=>.ok τ S3:=rfl
def Fq{n:Nat}{k:Int}{v:A}{S:jK}:BS (.ref n) (.int k) v S=opt (l8 S n) λkvs=>gd (kvs.length<sizeLine) (.ok Unit.unit<|S.set n<|.qc<|xZ kvs k v):=rfl
def HV{n:Nat}{k:Int}:zB (.ref n) (.int k) S=opt (l8 S n) λkvs=>opt (ny kvs k) λv=>.ok v S:=rfl
def Ln{S:jK}:F7 τ S=.ok (.ref S.length) (S++[.qc []]):=rfl
def Lz{n:Nat}{S:jK}:zO (.ref n) S=opt (l8 S n) λkvs=>.ok (.ref S.length) (S++[.lst<|(sortI<|kvs.map Prod.fst).map .int]):=rfl
def BV{n:Nat}{S:jK}:DL (.ref n) S=opt (jI S n) λxs=>opt (RH xs) λps=>.ok (.ref S.length) (S++[.qc<|RO ps]):=rfl
def acf{i j:Int}(h:i.natAbs<big)(h':j.natAbs<big):Ht (.int i) (.int j) S=.ok (.int<|i * j) S:=oO ⟨h,h'⟩
def PD(d:Pl):(iv d).length=d.length:=aG ..
meta abbrev Xn:Sm:=ku (jO mC (Gu wM (jG 2)<|jH (jG 3)<|jH (eC<|.int 0)<|jR)<|jG 4)<|Ky (jG 2)<|jG 3
def acc_step{S:jK}{d:Nat}{D:Pl}{k v:Int}(hd:l8 S d=some (iv D))(hl:D.length<16777216):Xn [x0,x1,.ref d,.int k,.int v] S=.nx [x0,x1,.ref d,.int k,.int v] (S.set d<|.qc<|iv<|acc D k v):=by
 unfold Xn;dsimp[kg,bools,CJ,GQ,hd,eY,Ak,GN,JL,Fq,pI<|show(iv D).length<16777216 by rw[PD];exact hl,GF];rfl
meta abbrev LV:Tg:=yC 2<|qa (j_ 3)<|qa (j_ 4) yw
def Sk{d n:Nat}{D l:Pl}{src:Ic}(hs:src [x0,x1,.ref d,x3,x4] S=.ok (lD n (pl l).length) S1)(hn:jI S1 n=some (pl l))(hd:l8 S1 d=some (iv D))(hl:D.length+l.length<16777216) :
  ∃y3 y4 S',lV src LV Xn [x0,x1,.ref d,x3,x4] S=.nx [x0,x1,.ref d,y3,y4] S'/\l8 S' d=some (iv<|q_ D l)/\Kp (·=d) S1 S':=by
 have nd:=Ji hd hn;refine nJ (n:=n) (xs:=pl l) hs (λi τ T=>(∃y3 y4,τ=[x0,x1,.ref d,y3,y4])/\l8 T d=some (iv<|q_ D<|l.take i)/\Kp (·=d) S1 T)
  (λr=>∃y3 y4 S',r=.nx [x0,x1,.ref d,y3,y4] S'/\l8 S' d=some (iv<|q_ D l)/\Kp (·=d) S1 S') ⟨⟨_,_,rfl⟩,hd,Kp.refl⟩ (λi τ T h=>h.2.2.lst _ _ (cR nd) hn) ?_ ?_
 ·rintro i z τ T j ⟨⟨y3,y4,rfl⟩,f,kp⟩;unfold pl at j;rw[aX]at j;obtain⟨p,k,rfl⟩:=aY.mp j;refine⟨[x0,x1,.ref d,.int p.1,.int p.2],T,rfl,.inl ?_⟩;have g:=qW (l.take i) D;have q:=(aJ.mp k).1;rw[bP]at g;refine⟨_,_,acc_step f<|by omega,⟨_,_,rfl⟩,?_,kp.qR<|.inl rfl⟩;rw[OM<|UK f,bZ,k,AA];rfl
 ·rintro τ T ⟨⟨y3,y4,rfl⟩,f,kp⟩;rw[MJ,b7]at f;exact⟨y3,y4,T,rfl,f,kp⟩
meta abbrev SA:Sm:=ku (jO mC (Gu wM (jG 2)<|jH (jO mC (jG 3)<|jG 5)<|jH (eC<|.int 0)<|jR)<|jO Ht (jG 4)<|jG 6)<|Ky (jG 2)<|jO mC (jG 3)<|jG 5
meta abbrev g56:Tg:=yC 2<|qa (j_ 5)<|qa (j_ 6) yw
def Ql{S:jK}{d:Nat}{D:Pl}{k v j u:Int}(hd:l8 S d=some (iv D))(hl:D.length<16777216)(hv:v.natAbs<big)(hu:u.natAbs<big):SA [x0,x1,.ref d,.int k,.int v,.int j,.int u] S=.nx [x0,x1,.ref d,.int k,.int v,.int j,.int u] (S.set d<|.qc<|iv<|acc D (k+j)<|v * u):=by
 unfold SA;dsimp[kg,bools,CJ,GQ,hd,eY,Ak,GN,acf hv hu,JL,Fq,pI<|show(iv D).length<16777216 by rw[PD];exact hl,GF];rfl
def Ue{d n:Nat}{D l:Pl}{k v:Int}(hn:jI S n=some (pl l))(hd:l8 S d=some (iv D))(hl:D.length+l.length<16777216)(hv:v.natAbs<big)(hu:∀p∈l,p.2.natAbs<big) :
  ∃y5 y6 S',lV (mP<|jG 1) g56 SA [x0,.ref n,.ref d,.int k,.int v,x5,x6] S=.nx [x0,.ref n,.ref d,.int k,.int v,y5,y6] S'/\l8 S' d=some (iv<|q_ D<|l.map λq=>(k+q.1,v * q.2))/\Kp (·=d) S S':=by
 have nd:=Ji hd hn;refine nJ (n:=n) (xs:=pl l) (S1:=S) (mw (by dsimp[kg,bools]) hn) (λi τ T=>(∃y5 y6,τ=[x0,.ref n,.ref d,.int k,.int v,y5,y6])/\l8 T d=some (iv<|q_ D<|(l.take i).map λq=>(k+q.1,v * q.2))/\Kp (·=d) S T)
  (λr=>∃y5 y6 S',r=.nx [x0,.ref n,.ref d,.int k,.int v,y5,y6] S'/\l8 S' d=some (iv<|q_ D<|l.map λq=>(k+q.1,v * q.2))/\Kp (·=d) S S') ⟨⟨_,_,rfl⟩,hd,Kp.refl⟩ (λi τ T h=>h.2.2.lst _ _ (cR nd) hn) ?_ ?_
 ·rintro i z τ T t ⟨⟨y5,y6,rfl⟩,g,kp⟩;unfold pl at t;rw[aX]at t;obtain⟨p,j,rfl⟩:=aY.mp t;refine⟨[x0,.ref n,.ref d,.int k,.int v,.int p.1,.int p.2],T,rfl,.inl ?_⟩;have f:=qW ((l.take i).map λq=>(k+q.1,v * q.2)) D;have B:=(aJ.mp j).1;rw[aG,bP]at f;refine⟨_,_,Ql g (by omega) hv<|hu p<|aS j,⟨_,_,rfl⟩,?_,kp.qR<|.inl rfl⟩;rw[OM<|UK g,bZ,j,bC,AA];rfl
 ·rintro τ T ⟨⟨y5,y6,rfl⟩,g,kp⟩;rw[MJ,b7]at g;exact⟨y5,y6,T,rfl,g,kp⟩
meta abbrev WX:Sm:=lV (mP<|jG 1) g56 SA
def GB(f:Int×Int->A)(hf:∀p τ S,LV (f p) τ S=LV (pA p) τ S){d n:Nat}{a b:Pl}(hn:jI S n=some (a.map f))(hm:jI S m=some (pl b))(hd:l8 S d=some [])(hl:a.length * b.length<16777216)(ha:∀p∈a,p.2.natAbs<big)(hb:∀p∈b,p.2.natAbs<big) :
  ∃y3 y4 y5 y6 S',lV (mP<|jG 0) LV WX [.ref n,.ref m,.ref d,x3,x4,x5,x6] S=.nx [.ref n,.ref m,.ref d,y3,y4,y5,y6] S'/\l8 S' d=some (iv<|q_ []<|Iq a b)/\Kp (·=d) S S':=by
 have nd:=Ji hd hn;have J:=Ji hd hm;refine nJ (n:=n) (xs:=a.map f) (S1:=S) (mw (by dsimp[kg,bools]) hn) (λi τ T=>(∃y3 y4 y5 y6,τ=[.ref n,.ref m,.ref d,y3,y4,y5,y6])/\l8 T d=some (iv<|q_ []<|Iq (a.take i) b)/\Kp (·=d) S T)
  (λr=>∃y3 y4 y5 y6 S',r=.nx [.ref n,.ref m,.ref d,y3,y4,y5,y6] S'/\l8 S' d=some (iv<|q_ []<|Iq a b)/\Kp (·=d) S S') ⟨⟨_,_,_,_,rfl⟩,hd,Kp.refl⟩ (λi τ T h=>h.2.2.lst _ _ (cR nd) hn) ?_ ?_
 ·rintro i z τ T F ⟨⟨y3,y4,y5,y6,rfl⟩,j,kp⟩;rw[aX]at F;obtain⟨p,t,rfl⟩:=aY.mp F;refine⟨[.ref n,.ref m,.ref d,.int p.1,.int p.2,y5,y6],T,hf _ _ _,.inl ?_⟩;have g:=qW (Iq (a.take i) b) [];have C:=(aJ.mp t).1;rw[C8,bP,Nat.min_eq_left<|dR C,dB,cI]at g;have G:i * b.length+b.length<=a.length * b.length:=by rw[<- fL];exact cQ _ C
  obtain⟨K,L,M,e,q,B⟩:=Ue (x0:=.ref n) (x5:=y5) (x6:=y6) (k:=p.1) (v:=p.2) (kp.lst _ _ (cR J) hm) j () (ha p<|aS t) hb;refine⟨_,_,e,⟨_,_,_,_,rfl⟩,?_,kp.trans B⟩;rw[q,bZ,t,Option.toList_some,M5,AA]
 ·rintro τ T ⟨⟨y3,y4,y5,y6,rfl⟩,j,kp⟩;rw[aG,b7]at j;exact⟨y3,y4,y5,y6,T,rfl,j,kp⟩
meta abbrev ab8:Ex:=kH [none,some 0] (mP<|kC (f1 zO)<|jH (jG 0)<|jR) (j_ 0) (qm<|jO (uc true) (jO zB (jG 1)<|jG 0)<|eC<|.int 0)<|pL<|jH (jG 0)<|jH (jO zB (jG 1)<|jG 0)<|jR
def Ye{S:jK}{d:Nat}{D:Pl}(hd:l8 S d=some (iv D))(hl:D.length<=16777216):∃S',ab8 [.ref d] S=.ok (.ref<|S.length+1) S'/\jI S' (S.length+1)=some (pl<|Hq D)/\ly S S':=by
 have g:l8 (S++[.lst<|(sortI<|D.map Prod.fst).map .int]) d=some (iv D):=VB hd;have p:(S++[O.lst<|(sortI<|D.map Prod.fst).map A.int]).length=S.length+1:=by simp
 have q:=LS (n:=S.length) (xs:=(sortI<|D.map Prod.fst).map A.int) (cap:=[some 0]) (src:=mP<|kC (f1 zO)<|jH (jG 0)<|jR) (t:=qm<|jO (uc true) (jO zB (jG 1)<|jG 0)<|eC<|.int 0) (e:=pL<|jH (jG 0)<|jH (jO zB (jG 1)<|jG 0)<|jR) (τ:=[.ref d]) (S:=S) (S1:=S++[.lst<|(sortI<|D.map Prod.fst).map .int])
  (mw (by dsimp[kg,bools,Lz,hd,Uc]) jX) jX (λx=>match x with | .int k=>val D k != 0|_=>false) (λx=>match x with | .int k=>pA (k,val D k)|_=>.non) (λx j=>by
   obtain⟨k,f,rfl⟩:=bu.mp j;have f:=(sortI_perm _).mem_iff.mp f;dsimp[kg,bools,HV,g,FZ f];rfl) (λx j _=>by
   obtain⟨k,f,rfl⟩:=bu.mp j;have f:=(sortI_perm _).mem_iff.mp f;dsimp[kg,bools,HV,g,FZ f];exact pX<|show 2<=16777216 by decide) (by rw[aG,(sortI_perm _).length_eq,aG];exact hl)
 refine⟨_,q.trans<|by rw[p],?_,Kp.refl.lay.lay⟩;rw[<- p,jX];congr 1;unfold pl Hq;rw[bz,dI,bz];rfl
end Am
namespace Su
open Am Po PySem L2
meta abbrev En:=ag×Nat×Pl
meta abbrev Es:=List En
abbrev ent (e:En):A:=.tup [.tup<|e.1.map .int,.ref e.2.1]
abbrev kv (e:En):ag×A:=(e.1,.ref e.2.1)
abbrev At (S:jK)(es:Es):Prop:=∀e∈es,jI S e.2.1=some (pl e.2.2)
meta abbrev Ps:=List<|ag×Pl
abbrev sm (es:Es):Ps:=es.map λe=>(e.1,e.2.2)
def Ac(es:Es):(sm es).length=es.length:=aG ..
def GU(a b:Es):sm (a++b)=sm a++sm b:=bC
abbrev vS (D:Ps)(o:ag):Pl:=((D.find? λe=>decide<|e.1=o).map (·.2)).getD []
abbrev hS (D:Ps)(o:ag):Bool:=D.any λe=>decide<|e.1=o
abbrev An (D:Ps)(o:ag)(p:Pl):Ps:=if hS D o=true then D.map (λe=>if e.1=o then(e.1,p)else e)else D++[(o,p)]
abbrev Ar (D:Ps)(o:ag)(p:Pl):Ps:=An D o<|o_ (vS D o) p
abbrev adds (D l:Ps):Ps:=l.foldl (λD e=>Ar D e.1 e.2) D
def Pc(D a b:Ps):adds D (a++b)=adds (adds D a) b:=by unfold adds;rw[dF]
abbrev toS (D:Ps):Ps:=((kB<|D.map Prod.fst).filter λo=>!(vS D o).isEmpty).map λo=>(o,vS D o)
abbrev fE (D:Es)(o:ag):Option En:=D.find? λe=>decide<|e.1=o
abbrev qY (D:Es)(o:ag)(r:Nat)(p:Pl):Es:=if (fE D o).isSome=true then D.map (λe=>if e.1=o then(e.1,r,p)else e)else D++[(o,r,p)]
def Rf(D:Es)(o:ag):(sm D).find? (λe=>decide<|e.1=o)=(fE D o).map λe=>(e.1,e.2.2):=by
 unfold sm fE;rw[h_];rfl
def P8(D:Es)(o:ag):vS (sm D) o=((fE D o).map λe=>e.2.2).getD []:=by
 unfold vS;rw[Rf,eU];rfl
def abc(D:Es)(o:ag):hS (sm D) o=(fE D o).isSome:=by
 unfold hS sm fE;rw[any_map,Bool.eq_iff_iff,jf,gq];rfl
def MS(D:Es)(o:ag)(r:Nat)(p:Pl):sm (qY D o r p)=An (sm D) o p:=by
 unfold qY An;rw[abc];unfold sm;split
 ·rw[bz,bz];apply cB;intro e _;show((if e.1=o then(e.1,r,p)else e).1,(if e.1=o then(e.1,r,p)else e).2.2)=if e.1=o then(e.1,p)else(e.1,e.2.2)
  split<;>rfl
 ·rw[bC];rfl
def vA(D:Es)(o:ag):kN (D.map kv) o=(fE D o).map λe=>.ref e.2.1:=by
 unfold kN fE;rw[h_,eU];rfl
def PY(D:Es)(o:ag)(r:Nat)(p:Pl):putD (D.map kv) o (.ref r)=(qY D o r p).map kv:=by
 unfold putD qY;rw[vA,d7];split
 ·rw[bz,bz];apply cB;intro e _;show(if e.1=o then(e.1,A.ref r)else(e.1,.ref e.2.1))=kv (if e.1=o then(e.1,r,p)else e);split<;>rfl
 ·rw[bC];rfl
def vf{D:Es}{r:Nat}{p:Pl}{e:En}(h:e∈qY D o r p):e∈D\/e=(o,r,p):=by
 unfold qY at h;split at h
 ·obtain⟨d,h1,rfl⟩:=bu.mp h;split
  ·rename_i c;exact .inr (by rw[c])
  ·exact .inl h1
 ·rcases bq.mp h with z|z
  ·exact .inl z
  ·exact .inr<|aP.mp z
def JG{D:Es}{r:Nat}{p:Pl}:(qY D o r p).length<=D.length+1:=by
 unfold qY;split
 ·rw[aG];lia
 ·rw[aW];exact aK _
def uG{D:Es}{e:En}(h:fE D o=some e):e∈D/\e.1=o:=⟨dg h,by
 unfold fE at h;have:=fS h;simpa using this⟩
def At.put{D:Es}{r:Nat}{p:Pl}(h:At S D)(hr:jI S r=some (pl p)):At S (qY D o r p):=λe d=>by
 rcases vf d with z|z
 ·exact h e z
 ·rw[z];exact hr
def At.kp{D:Es}{b:Nat->Prop}(h:At S D)(k:Kp b S S')(hb:∀e∈D,¬b e.2.1):At S' D:=λe d=>k.lst _ _ (hb e d)<|h e d
def At.wC{D:Es}(h:At S D)(k:ly S S'):At S' D:=h.kp k λ_ _ z=>z
def At.app{a:Es}(h:At S a)(h':At S b):At S (a++b):=λe d=>(bq.mp d).elim (h e)<|h' e
def nu{n:Nat}{d:List<|ag×A}(h:jZ S n=some d)(h':jI S m=some xs):n≠m:=λz=>by
 subst z;have e1:=lC h;rw[jW h']at e1
 cases e1
def At.Le{D:Es}{d:Nat}(h:At S D)(k:Kp (·=d) S S')(hd:jZ S d=some kvs):At S' D:=h.kp k λe f z=>nu hd (h e f) z.symm
abbrev Vl (k b:Nat)(D:Es):Prop:=∀e∈D,Ok e.2.2/\e.2.2.length<=k/\b<=e.2.1
def Vl.mono{k:Nat}{D:Es}(h:Vl k b D)(hk:k<=k'):Vl k' b D:=λe d=>⟨(h e d).1,bH (h e d).2.1 hk,(h e d).2.2⟩
def Vl.v{k:Nat}{D:Es}(h:Vl k b D)(o:ag):Ok (vS (sm D) o)/\(vS (sm D) o).length<=k:=by
 rw[P8]
 cases e:fE D o with
 | none=>exact⟨⟨List.Pairwise.nil,nofun⟩,bK _⟩
 | some d=>exact⟨(h d (uG e).1).1,(h d (uG e).1).2.1⟩
def LL(a b:Pl):(o_ a b).length<=a.length+b.length:=by
 refine bH (JQ _)<|bH (qW _ _) ?_;rw[aW,dB];lia
def BY(a b:Pl):(times a b).length<=a.length * b.length:=by
 refine bH (JQ _)<|bH (qW _ _) ?_;rw[C8,dB];lia
def Vl.add{k r:Nat}{D:Es}{p:Pl}(h:Vl k b D)(hp:p.length<=j)(hr:b<=r):Vl (k+j) b (qY D o r<|o_ (vS (sm D) o) p):=λe d=>by
 rcases vf d with z|z
 ·exact(h.mono<|iH _ _) e z
 ·rw[z];refine⟨Fv _ _,?_,hr⟩;have:=LL (vS (sm D) o) p;have:=(h.v o).2;show(o_ (vS (sm D) o) p).length<=_
  lia
def o8{S:jK}:jZ (S++[.dct xs]) S.length=some xs:=qI DQ
def HA{o:O}{n:Nat}(h:jZ S n=some xs):jZ (S++[o]) n=some xs:=by
 have h':=lC h;exact qI<|by rw[bw (aJ.mp h').1];exact h'
def tV{S:jK}{n:Nat}(h:jZ S n=some xs):n<S.length:=(aJ.mp<|lC h).1
def J9{S:jK}{n:Nat}(h:n<S.length):jZ (S.set n<|.dct ys) n=some ys:=qI<|bJ h
def S9{f:A->ae->jK->R A}{co:Ex}{d:rR}:VC f co d τ S=(co τ S).bind λx S1=>opt (dct? x S1) λ_=>(d τ S1).bind λas S2=>f x as S2:=rfl
def Ug{n:Nat}:dct? (.ref n) S=(jZ S n).map λ_=>Unit.unit:=rfl
def xC{S:jK}:Bo τ S=.ok (.ref S.length) (S++[.dct []]):=rfl
def zd{co ci:Ex}{a:A}:Ly co ci a τ S=(co τ S).bind λo S1=>(ci τ S1).bind λi S2=>(qd o i a S2).bind λ_ S3=>.ok τ S3:=rfl
def RW{n:Nat}{o:ag}:Yz (.ref n) [.tup<|o.map .int,y] S=opt (jZ S n) λkvs=>.ok ((kN kvs o).getD y) S:=by
 show opt (jZ S n) (λkvs=>opt (A.ints<|o.map .int) λk=>.ok ((kN kvs k).getD y) S)=_;rw[ints_map];rfl
def uF{n:Nat}{o:ag}{v:A}{S:jK}:qd (.ref n) (.tup<|o.map .int) v S=opt (jZ S n) λkvs=>gd (kvs.length<sizeLine) (.ok Unit.unit<|S.set n<|.dct<|putD kvs o v):=by
 show opt (jZ S n) (λkvs=>opt (A.ints<|o.map .int) λd=>gd (kvs.length<sizeLine)<|.ok Unit.unit<|S.set n<|.dct<|putD kvs d v)=_;rw[ints_map];rfl
def zk{n:Nat}{o:ag}:sX (.ref n) (.tup<|o.map .int) S=opt (jZ S n) λkvs=>opt (kN kvs o) λv=>.ok v S:=by
 show opt (jZ S n) (λkvs=>opt (A.ints<|o.map .int) λd=>opt (kN kvs d) λv=>.ok v S)=_;rw[ints_map];rfl
def get_or{S:jK}{d:Nat}{D:Es}(hd:jZ S d=some (D.map kv))(hA:At S D):∃x:Nat,(kN (D.map kv) o).getD (.ref S.length)=.ref x/\jI (S++[.lst []]) x=some (pl<|vS (sm D) o):=by
 rw[vA,P8]
 cases e:fE D o with
 | none=>exact⟨S.length,rfl,jX⟩
 | some f=>exact⟨f.2.1,rfl,kM<|hA f (uG e).1⟩
def zc{α:Type}{xs:List α}(g:α->A){n:Nat}{src:Ic}{t:Te}{e:Ex}(hs:src τ S=.ok (lD n (xs.map g).length) S1)(hx:jI S1 n=some (xs.map g))(d:α)(p:α->Bool)(f:α->A)
  (step:∀x∈xs,∀T,ly S1 T->∃T1,t (g x::lX cap τ) T=.ok (p x) T1/\ly S1 T1/\(p x=true->∃T2,e (g x::lX cap τ) T1=.ok (f x) T2/\ly S1 T2)) (hl:xs.length<=16777216) :
  ∃S',kH (none::cap) src (j_ 0) t e τ S=.ok (.ref S'.length) (S'++[.lst<|(xs.filter p).map f])/\ly S1 S':=by
 have B:∀i,i<xs.length->xs.getD i d∈xs:=λi j=>by
  rw[aL,aI j];exact eG j
 have C:(xs.map g).length=xs.length:=aG ..;obtain⟨S',h1,h2⟩:=vq (s:=lD n (xs.map g).length) (g:=j_ 0) (t:=t) (e:=e) (P:=λT=>ly S1 T) (T:=λk=>∃y,k=y::lX cap τ) (λi=>g<|xs.getD i d) (λi=>p<|xs.getD i d) (λi=>f<|xs.getD i d) (λi T j h=>by
   have j:i<(xs.map g).length:=j;show(jI T n).bind _=_;rw[h.lst _ _ (λz=>z) hx,cH,aX,aI (),aL,aI ()];rfl) (λT h=>by
   show(match jI T n with
    | some ys=>decide (ys.length<=(xs.map g).length)
    | none=>false)=true
   rw[h.lst _ _ (λz=>z) hx];simp)
  (λi k T j ⟨y,hy⟩ h=>by
   have j:i<(xs.map g).length:=j;subst hy;obtain⟨T1,e1,q,e2⟩:=step _ (B i ()) T h;exact⟨g (xs.getD i d)::lX cap τ,T,T1,rfl,e1,⟨_,rfl⟩,λ_=>q,e2⟩) (xs.map g).length 0 (lX (none::cap) τ) S1 rfl ⟨_,rfl⟩ Kp.refl
 refine⟨S',?_,h2⟩;unfold kH;rw[hs,R.mU];show(qQ (lD n (xs.map g).length) (j_ 0) t e (xs.map g).length 0 (lX (none::cap) τ) S1).oN _=_;rw[h1,R.lA,<- fj,C,nk xs p f d];refine l_ ?_;rw[aG];exact bH (cM _ _) hl
def Iz{D:Es}{o:ag}(h:o∈D.map Prod.fst):∃e,fE D o=some e:=by
 unfold fE
 cases e:D.find? λe=>decide (e.1=o)with
 | some x=>exact⟨x,rfl⟩
 | none=>
  obtain⟨x,d,rfl⟩:=bu.mp h;exact absurd (bg rfl)<|fP.mp e x d
abbrev A_ (k:ag):A:=.tup<|k.map .int
def Ot{S:jK}{d:Nat}{D:Es}(hd:jZ S d=some (D.map kv))(hne:∀e∈D,e.1≠[]):DH (.ref d) S=.ok (.ref S.length) (S++[.lst<|(kB<|D.map Prod.fst).map A_]):=by
 have ek:(D.map kv).map Prod.fst=D.map Prod.fst:=by rw[bz];rfl
 show opt (jZ S d) _=_;rw[hd,jY];have:((D.map kv).map Prod.fst).all (λks=>!ks.isEmpty)=true:=by
  rw[ek,jw,dO];intro e f;have:=hne e f;show(!(e.1).isEmpty)=true
  cases h:e.1 with
  | nil=>exact absurd h this
  | cons=>rfl
 rw[ek]at this ⊢;rw[this];rfl
abbrev wG (D:Es)(p:Pl->Bool):Es:=((kB<|D.map Prod.fst).filter λo=>p<|vS (sm D) o).map λo=>(o,((fE D o).map λe=>e.2.1).getD 0,vS (sm D) o)
def C9(D:Es):sm (wG D λp=>!p.isEmpty)=toS (sm D):=by
 unfold wG toS sm;rw[bz,bz];rfl
def DX{D:Es}{p:Pl->Bool}{e:En}(h:e∈wG D p):e∈D/\p e.2.2=true:=by
 obtain⟨o,f,rfl⟩:=bu.mp h;obtain⟨h1,h2⟩:=cg.mp f;obtain⟨e,d⟩:=Iz<|(j8 _).mem_iff.mp h1;rw[P8,d]at h2;rw[P8,d];obtain⟨m,rfl⟩:=uG d;exact⟨m,h2⟩
def Qz{S:jK}{d:Nat}{D:Es}{src:Ic}{t:Te}{e:Ex}(hd:jZ S d=some (D.map kv))(hA:At S D)(hs:src τ S=.ok (lD S.length ((kB<|D.map Prod.fst).map A_).length) (S++[.lst<|(kB<|D.map Prod.fst).map A_]))(p:Pl->Bool)
  (ht:∀(o:ag) (r:Nat) (q:Pl) (T:jK),jZ T d=some (D.map kv)->kN (D.map kv) o=some (.ref r)->jI T r=some (pl q)->∃T1,t (A_ o::lX cap τ) T=.ok (p q) T1/\ly T T1)
  (he:∀(o:ag) (r:Nat) (T:jK),jZ T d=some (D.map kv)->kN (D.map kv) o=some (.ref r)->e (A_ o::lX cap τ) T=.ok (.tup [A_ o,.ref r]) T) (hl:D.length<=16777216) :
  ∃(n:Nat) (S':jK),kH (none::cap) src (j_ 0) t e τ S=.ok (.ref n) S'/\jI S' n=some ((wG D p).map ent)/\At S' (wG D p)/\S.length<n/\ly S S':=by
 have G:ly S (S++[.lst<|(kB<|D.map Prod.fst).map A_]):=Kp.refl.lay;obtain⟨S',e1,C⟩:=zc A_ (t:=t) (e:=e) (cap:=cap) hs jX [] (λo=>p<|vS (sm D) o) (λo=>ent (o,((fE D o).map λe=>e.2.1).getD 0,vS (sm D) o)) (λo K T k=>by
  obtain⟨g,f⟩:=Iz<|(j8 _).mem_iff.mp K;have F:kN (D.map kv) o=some (.ref g.2.1):=by rw[vA,f];rfl
  have j:=G.trans k;have dT:=j.dct _ _ (λz=>z) hd;have J:=j.lst _ _ (λz=>z)<|hA g (uG f).1;obtain⟨T1,h1,h2⟩:=ht o g.2.1 g.2.2 T dT F J;rw[P8,f];exact⟨T1,h1,k.trans h2,λ_=>⟨T1,he o g.2.1 T1 (h2.dct _ _ (λz=>z) dT) F,k.trans h2⟩⟩) (by
  rw[(j8 _).length_eq,aG];exact hl)
 have B:=G.trans C;refine⟨S'.length,_,e1,?_,(?_:At S'<|wG D p).wC Kp.refl.lay,?_,B.lay⟩
 ·rw[jX];unfold wG;rw[bz];rfl
 ·exact λe h=>B.lst _ _ (λz=>z) (hA e (DX h).1)
 ·have:=C.len;rw[aW]at this;exact this
abbrev DK (F:ae->jK->R A):Prop:=∀{S:jK}{d r:Nat}{D:Es}{o:ag}{p:Pl}{k b:Nat},jZ S d=some (D.map kv)->At S D->Vl k b D->jI S r=some (pl p)->D.length<16777216->k+p.length<16777216 ->
  ∃(L:Nat) (f:jK),F [.ref d,.tup<|o.map .int,.ref r] S=.ok .non f/\jZ f d=some ((qY D o L<|o_ (vS (sm D) o) p).map kv)/\At f (qY D o L<|o_ (vS (sm D) o) p)/\S.length<=L/\Kp (·=d) S f
abbrev Ap (D:Es):Prop:=D.Pairwise λe f=>e.1≠f.1/\e.2.1≠f.2.1
def Ap.put{D:Es}{r:Nat}{p:Pl}(h:Ap D)(hr:∀e∈D,e.2.1≠r):Ap (qY D o r p):=by
 unfold qY;split
 ·unfold Ap;rw[cJ];refine List.Pairwise.imp_of_mem (λ{e f} d hf z=>?_) h;by_cases c1:e.1=o
  ·have c2:¬f.1=o:=λg=>z.1<|c1.trans g.symm;rw[aN c1,aM c2];exact⟨z.1,λy=>hr f hf y.symm⟩
  ·rw[aM c1];by_cases c2:f.1=o
   ·rw[aN c2];exact⟨z.1,hr e d⟩
   ·rw[aM c2];exact z
 ·rename_i c;unfold Ap;rw[cC];refine⟨h,cP _ _,λe d f hf=>?_⟩;rw[aP.mp hf];refine⟨λz=>c ?_,hr e d⟩;unfold fE;rw[jf];exact⟨e,d,bg z⟩
theorem Ap.at{D:Es}(h:Ap D):∀e∈D,∀f∈D,e.1≠f.1->e.2.1≠f.2.1:=by
 unfold Ap at h
 induction h with
 | nil=>exact λe d=>nomatch d
 | @cons a D ha _ g=>
  intro e d f hf z
  rcases bF.mp d with h1|h1<;>rcases bF.mp hf with h2|h2
  ·exact absurd (by rw[h1,h2]) z
  ·rw[h1];exact(ha f h2).2
  ·rw[h2];exact(ha e h1).2.symm
  ·exact g e h1 f h2 z
def Ap.nd{D:Es}(h:Ap D):(D.map Prod.fst).Nodup:=by
 unfold List.Nodup;rw[cJ];exact h.imp λz=>z.1
def Ap.out{D:Es}(h:Ap D)(p:Pl->Bool):Ap (wG D p):=by
 unfold Ap wG;rw[cJ];have n:(kB<|D.map Prod.fst).Pairwise (·≠·):=(j8 _).nodup_iff.mpr h.nd;refine List.Pairwise.imp_of_mem (λ{a b} ha hb z=>?_)<|n.filter _;obtain⟨e,d⟩:=Iz<|(j8 _).mem_iff.mp (cg.mp ha).1;obtain⟨f,hf⟩:=Iz<|(j8 _).mem_iff.mp (cg.mp hb).1;obtain⟨g,e1⟩:=uG d;obtain⟨j,e2⟩:=uG hf;refine⟨z,?_⟩;rw[d,hf];exact h.at e g f j<|by rw[e1,e2];exact z
structure Fil (T:jK)(d b i j:Nat)(P:Ps)(D:Es):Prop where
 dd:jZ T d=some (D.map kv)
 aa:At T D
 ss:sm D=P
 vv:Vl (i * j) b D
 kk:∀e∈D,e.1≠[]
 ll:D.length<=i
 pw:Ap D
def Fil.mono{d:Nat}{P:Ps}{D:Es}(h:Fil T d b i j P D)(hi:i<=i'):Fil T d b i' j P D:=⟨h.dd,h.aa,h.ss,h.vv.mono<|cQ _ hi,h.kk,bH h.ll hi,h.pw⟩
def Fil.new{d:Nat}(hd:jZ S d=some []):Fil S d b 0 j [] []:=⟨hd,(nofun),rfl,(nofun),(nofun),aK _,List.Pairwise.nil⟩
def Fil.wC{d:Nat}{P:Ps}{D:Es}(h:Fil S d b i j P D)(k:ly S T):Fil T d b i j P D:=⟨k.dct _ _ (λz=>z) h.dd,h.aa.wC k,h.ss,h.vv,h.kk,h.ll,h.pw⟩
def Fil.add{F:ae->jK->R A}(hF:DK F){T:jK}{d r:Nat}{P:Ps}{D:Es}{o:ag}{p:Pl}(h:Fil T d b i j P D)(hr:jI T r=some (pl p))(hp:p.length<=j)(ho:o≠[])(hb:b<=T.length)(hl:i * j+j<16777216)(hi:i<16777216) :
  ∃(D':Es) (T':jK),F [.ref d,.tup<|o.map .int,.ref r] T=.ok .non T'/\Fil T' d b (i+1) j (Ar P o p) D'/\Kp (·=d) T T':=by
 have g:=h.ll;obtain⟨L,T',e,h1,h2,h3,k⟩:=hF (o:=o) h.dd h.aa h.vv hr () ();refine⟨_,T',e,⟨h1,h2,by rw[MS,h.ss];rfl,?_,λe f=>?_,?_,h.pw.put λe f z=>by have:=lB<|h.aa e f;lia⟩,k⟩
 ·have:=h.vv.add (o:=o) (p:=p) (j:=j) hp (show b<=L by lia);rw[fL];exact this
 ·rcases vf f with z|z
  ·exact h.kk e z
  ·rw[z];exact ho
 ·have:=JG (D:=D) (o:=o) (r:=L) (p:=o_ (vS (sm D) o) p)
  lia
def SN{d n w:Nat}{P:Ps}{es:Es}{src:Ic}{c:Sm}(G:En->Ps->Ps)(hs:src (x0::x1::.ref d::x3::x4::xs) S=.ok (lD n (es.map ent).length) S1)(hn:jI S1 n=some (es.map ent))(hd:Fil S1 d b i0 j P D0)
  (step:∀(i:Nat) (e:En) (T:jK) (Q:Ps) (D:Es),i<es.length->e∈es->Kp (·=d) S1 T->Fil T d b (i0+w * i) j Q D->∃(D':Es) (T':jK),c (x0::x1::.ref d::.tup (e.1.map .int)::.ref e.2.1::xs) T=.nx (x0::x1::.ref d::.tup (e.1.map .int)::.ref e.2.1::xs) T'/\Fil T' d b (i0+w * (i+1)) j (G e Q) D'/\Kp (·=d) T T') :
  ∃(y3 y4:A) (D:Es) (S':jK),lV src LV c (x0::x1::.ref d::x3::x4::xs) S=.nx (x0::x1::.ref d::y3::y4::xs) S'/\Fil S' d b (i0+w * es.length) j (es.foldl (λQ e=>G e Q) P) D/\Kp (·=d) S1 S':=by
 have k:(es.map ent).length=es.length:=aG ..;refine nJ (n:=n) (xs:=es.map ent) (S1:=S1) hs (λi τ T=>(∃y3 y4,τ=x0::x1::.ref d::y3::y4::xs)/\(∃D,Fil T d b (i0+w * i) j ((es.take i).foldl (λQ e=>G e Q) P) D)/\Kp (·=d) S1 T)
  (λr=>∃(y3 y4:A) (D:Es) (S':jK),r=.nx (x0::x1::.ref d::y3::y4::xs) S'/\Fil S' d b (i0+w * es.length) j (es.foldl (λQ e=>G e Q) P) D/\Kp (·=d) S1 S') ⟨⟨_,_,rfl⟩,⟨D0,hd⟩,Kp.refl⟩ (λi τ T h=>h.2.2.lst _ _ (cR<|nu hd.dd hn) hn) ?_ ?_
 ·rintro i z τ T p ⟨⟨y3,y4,rfl⟩,⟨D,f⟩,kp⟩;rw[aX]at p;obtain⟨e,g,rfl⟩:=aY.mp p;refine⟨x0::x1::.ref d::.tup (e.1.map .int)::.ref e.2.1::xs,T,rfl,.inl ?_⟩;obtain⟨D',T',e1,t,q⟩:=step i e T _ D (aJ.mp g).1 (aS g) kp f;refine⟨_,T',e1,⟨_,_,rfl⟩,⟨D',?_⟩,kp.trans q⟩;rw[bZ,g,dF];exact t
 ·rintro τ T ⟨⟨y3,y4,rfl⟩,⟨D,f⟩,kp⟩;rw[k,b7]at f;exact⟨y3,y4,D,T,rfl,f,kp⟩
def KY(P:Ps)(es:Es):es.foldl (λQ e=>Ar Q e.1 e.2.2) P=adds P (sm es):=by
 unfold adds sm;rw[jC]
def KU(q:Pl)(P:Ps)(es:Es):es.foldl (λQ e=>Ar Q e.1<|times q e.2.2) P=adds P ((sm es).map λe=>(e.1,times q e.2)):=by
 unfold adds sm;rw[jC,jC]
def Q4{F:ae->jK->R A}(hF:DK F){S1:jK}{d n:Nat}{P:Ps}{es:Es}{src:Ic}(hs:src (x0::x1::.ref d::x3::x4::xs) S=.ok (lD n (es.map ent).length) S1)(hn:jI S1 n=some (es.map ent))(hA:At S1 es)(hd:Fil S1 d b i0 j P D0)(hb:b<=S1.length)
  (hj:∀e∈es,e.2.2.length<=j/\e.1≠[]) (hl:(i0+es.length) * j+j<16777216) (hl':i0+es.length<16777216) :
  ∃(y3 y4:A) (D:Es) (S':jK),lV src LV (m5<|eFn F<|jH (jG 2)<|jH (jG 3)<|jH (jG 4) jR) (x0::x1::.ref d::x3::x4::xs) S=.nx (x0::x1::.ref d::y3::y4::xs) S'/\Fil S' d b (i0+es.length) j (adds P<|sm es) D/\Kp (·=d) S1 S':=by
 have:=SN (w:=1) (c:=m5<|eFn F<|jH (jG 2)<|jH (jG 3)<|jH (jG 4) jR) (λe Q=>Ar Q e.1 e.2.2) hs hn hd λi e T Q D C g kp f=>by
  have k:=kp.len;rw[gg]at f ⊢;have p:(i0+i) * j<=(i0+es.length) * j:=cQ _ ();obtain⟨z,q,e1,t,B⟩:=f.add hF (o:=e.1) ((hA.Le kp hd.dd) e g) (hj e g).1 (hj e g).2 () () ();exact⟨z,q,by dsimp[kg,bools,e1],t,B⟩
 rw[gg,KY]at this;exact this
def F2{d n w:Nat}{P:Ps}{es:Es}{src:Ic}{c:Sm}{g:Tg}(Fm:A->A->ae->ae)(Z:ae->Prop)(G:En->Ps->Ps)(hg:∀(e:En) (y z:A) (xs:ae) (T:jK),g (ent e) (Fm y z xs) T=.ok (Fm (.tup<|e.1.map .int) (.ref e.2.1) xs) T)
  {x3 x4:A} {xs0:ae} (hz:Z xs0) (hs:src (Fm x3 x4 xs0) S=.ok (lD n (es.map ent).length) S1) (hn:jI S1 n=some (es.map ent)) (hd:Fil S1 d b i0 j P D0)
  (step:∀(i:Nat) (e:En) (T:jK) (Q:Ps) (D:Es) (xs:ae),i<es.length->e∈es->Z xs->Kp (·=d) S1 T->Fil T d b (i0+w * i) j Q D->∃(D':Es) (T':jK) (xs':ae),Z xs'/\c (Fm (.tup<|e.1.map .int) (.ref e.2.1) xs) T=.nx (Fm (.tup<|e.1.map .int) (.ref e.2.1) xs') T'/\Fil T' d b (i0+w * (i+1)) j (G e Q) D'/\Kp (·=d) T T') :
  ∃(y3 y4:A) (xs:ae) (D:Es) (S':jK),Z xs/\lV src g c (Fm x3 x4 xs0) S=.nx (Fm y3 y4 xs) S'/\Fil S' d b (i0+w * es.length) j (es.foldl (λQ e=>G e Q) P) D/\Kp (·=d) S1 S':=by
 have t:(es.map ent).length=es.length:=aG ..;refine nJ (n:=n) (xs:=es.map ent) (S1:=S1) hs (λi τ T=>(∃y3 y4 xs,τ=Fm y3 y4 xs/\Z xs)/\(∃D,Fil T d b (i0+w * i) j ((es.take i).foldl (λQ e=>G e Q) P) D)/\Kp (·=d) S1 T)
  (λr=>∃(y3 y4:A) (xs:ae) (D:Es) (S':jK),Z xs/\r=.nx (Fm y3 y4 xs) S'/\Fil S' d b (i0+w * es.length) j (es.foldl (λQ e=>G e Q) P) D/\Kp (·=d) S1 S') ⟨⟨_,_,_,rfl,hz⟩,⟨D0,hd⟩,Kp.refl⟩ (λi τ T h=>h.2.2.lst _ _ (cR<|nu hd.dd hn) hn) ?_ ?_
 ·rintro i z τ T hz ⟨⟨y3,y4,xs,rfl,p⟩,⟨D,f⟩,kp⟩;rw[aX]at hz;obtain⟨e,q,rfl⟩:=aY.mp hz;refine⟨Fm (.tup<|e.1.map .int) (.ref e.2.1) xs,T,hg _ _ _ _ _,.inl ?_⟩;obtain⟨D',T',xs',k,e1,C,B⟩:=step i e T _ D xs (aJ.mp q).1 (aS q) p kp f;refine⟨_,T',e1,⟨_,_,_,rfl,k⟩,⟨D',?_⟩,kp.trans B⟩;rw[bZ,q,dF];exact C
 ·rintro τ T ⟨⟨y3,y4,xs,rfl,p⟩,⟨D,f⟩,kp⟩;rw[t,b7]at f;exact⟨y3,y4,xs,D,T,p,rfl,f,kp⟩
end Su
namespace Bl
open L2
abbrev cnt:ag->Int->Int
 | [],_=>0
 | x::l,j=>(if j<=x then 1 else 0)+cnt l j
abbrev Below (xs ys:ag):Prop:=∀(i:Nat) (j:Int),cnt (xs.take i) j<=cnt (ys.take i) j
def cnt_append(a b:ag)(j:Int):cnt (a++b) j=cnt a j+cnt b j:=by
 induction a with
 | nil=>simp[cnt]
 | cons x a d=>rw[iD,cnt,cnt,d];lia
def take_snoc{l:ag}{i:Nat}(h:i<l.length):l.take (i+1)=l.take i++[l[i]]:=by
 rw[List.take_succ,aI h];rfl
def aao{l:ag}{i:Nat}(h:i<l.length)(j:Int):cnt (l.take<|i+1) j=cnt (l.take i) j+(if j<=l[i]then 1 else 0):=by
 rw[take_snoc h,cnt_append,cnt,cnt];lia
def yK{l:ag}{p:Nat}(h:p<l.length)(v:Int)(i:Nat)(j:Int) :
  cnt ((l.set p v).take i) j=cnt (l.take i) j+(if p<i then(if j<=v then 1 else 0)-(if j<=l[p]then 1 else 0)else 0):=by
 induction l generalizing p i with
 | nil=>cases h
 | cons x l f=>
  cases i with
  | zero=>simp[cnt]
  | succ i=>
   cases p with
   | zero=>
    show(if j<=v then 1 else 0)+cnt (l.take i) j=(if j<=x then 1 else 0)+cnt (l.take i) j+_;rw[aN<|succ_pos _];show _=(if j<=x then 1 else 0)+cnt (l.take i) j+((if j<=v then 1 else 0)-(if j<=x then 1 else 0))
    lia
   | succ p=>
    show(if j<=x then 1 else 0)+cnt ((l.set p v).take i) j=(if j<=x then 1 else 0)+cnt (l.take i) j+_;have d:p<l.length:=ie h;rw[f d];by_cases z:p<i
    ·rw[aN z,aN<|Nat.succ_lt_succ z];show _=(if j<=x then 1 else 0)+cnt (l.take i) j+((if j<=v then 1 else 0)-(if j<=l[p]then 1 else 0))
     lia
    ·rw[aM z,aM λy=>z<|ie y]
     lia
def Fi{l:ag}{p q:Nat}(hp:p<l.length)(hq:q<l.length)(hpq:p<q)(h:l[p]<l[q]):Below l ((l.set p l[q]).set q l[p]):=by
 intro i j;have d:q<(l.set p l[q]).length:=by rw[bV];exact hq
 rw[yK d,yK hp];have e:(l.set p l[q])[q]=l[q]:=by rw[List.getElem_set_ne<|bE hpq]
 rw[e]
 (repeat' split)<;>lia
abbrev MP (a b:ag):Prop:=a.length=b.length/\∀(p:Nat) (h:p<a.length),b[(a[p]-1).toNat]?=some ((p:Int)+1)
end Bl
namespace Wd
open Bl L2
abbrev ex (l:ag)(k:Nat):ag:=(l.set (k-1)<|l.getD k 0).set k<|l.getD (k-1) 0
abbrev led (l:ag)(w:am):ag:=w.foldl ex l
def vp{l:ag}{k:Nat}(h:k<l.length):l.getD k 0=l[k]:=by rw[aL,aI h];rfl
def Hz{l:ag}{k:Nat}(h0:1<=k)(h:k<l.length):ex l k=(l.set (k-1) l[k]).set k (l[k-1]'()):=by
 unfold ex;rw[vp h,vp<|show k-1<l.length by lia]
def CH(l:ag)(k:Nat):(ex l k).length=l.length:=by unfold ex;rw[bV,bV]
def RP{l:ag}{k:Nat}(h0:1<=k)(h:k<l.length):(ex l k).Perm l:=by
 rw[Hz h0 h];exact List.set_set_perm () h
def aaT(a b:am)(l:ag):led l (a++b)=led (led l a) b:=dF
def Xc{l:ag}{k:Nat}(h0:1<=k)(h:k<l.length)(i:Nat)(j:Int) :
  cnt ((ex l k).take i) j=cnt (l.take i) j+(if i=k then(if j<=l[k]then 1 else 0)-(if j<=l[k-1]'()then 1 else 0)else 0):=by
 rw[Hz h0 h];have d:k<(l.set (k-1) l[k]).length:=by rw[bV];exact h
 rw[yK d,yK<|show k-1<l.length by lia];have e:(l.set (k-1) l[k])[k]=l[k]:=by rw[List.getElem_set_ne ()]
 rw[e];by_cases h1:i=k
 ·rw[aN h1,aN<|show k-1<i by lia,aM<|show ¬k<i by lia];lia
 ·by_cases h2:k<i
  ·rw[aM h1,aN<|show k-1<i by lia,aN h2];lia
  ·rw[aM h1,aM<|show ¬k-1<i by lia,aM h2];lia
def up{l:ag}{k:Nat}(h0:1<=k)(h:k<l.length)(hr:l[k-1]'()<l[k]):Below l (ex l k):=by
 rw[Hz h0 h];exact Fi () h () hr
abbrev xK:ag->am->Prop
 | _,[]=>True
 | l,k::w=>1<=k/\k<l.length/\l.getD (k-1) 0<l.getD k 0/\xK (ex l k) w
theorem xK.snoc:∀{w:am}{l:ag}{k:Nat},xK l w->1<=k->k<l.length->(led l w).getD (k-1) 0<(led l w).getD k 0->xK l (w++[k])
 | [],l,k,_,h0,h1,h2=>⟨h0,h1,h2,trivial⟩
 | m::w,l,k,h,h0,h1,h2=>⟨h.1,h.2.1,h.2.2.1,xK.snoc h.2.2.2 h0 (by rw[CH];exact h1) h2⟩
abbrev sw (k:Nat)(x:Int):Int:=if x=k then(k:Int)+1 else if x=(k:Int)+1 then k else x
def m_(n:Nat):(lU 1<|(n:Int)+1).length=n:=by rw[sE];lia
def wz{l:ag}{k:Nat}(h0:1<=k)(h:k<l.length)(p:Nat):(ex l k)[p]?=if p=k then l[k-1]? else if p=k-1 then l[k]? else l[p]?:=by
 rw[Hz h0 h,List.getElem?_set];by_cases h1:k=p
 ·rw[aN h1,aN h1.symm,aN<|by rw[bV];lia,aI]
 ·rw[aM h1,aM λz=>h1 z.symm,List.getElem?_set];by_cases h2:k-1=p
  ·rw[aN h2,aN h2.symm,aN (),aI]
  ·rw[aM h2,aM λz=>h2 z.symm]
end Wd
namespace Iv
open L2 Bl
abbrev inv:ag->Nat
 | []=>0
 | x::l=>l.countP (λy=>decide<|y<x)+inv l
abbrev oM (a b:ag):Nat:=(a.map λx=>b.countP λy=>decide<|y<x).sum
def wD(x:Int)(a b:ag):oM (x::a) b=b.countP (λy=>decide<|y<x)+oM a b:=rfl
theorem mF:∀(a b:ag),inv (a++b)=inv a+inv b+oM a b
 | [],b=>by show inv b=0+inv b+0;lia
 | x::a,b=>by
  show(a++b).countP _+inv (a++b)=(a.countP _+inv a)+inv b+oM (x::a) b;rw[List.countP_append,mF a b,wD];lia
theorem xq:∀{a b:am},a.Perm b->a.sum=b.sum
 | _,_,.nil=>rfl
 | _,_,.cons x h=>by rw[gG,gG,xq h]
 | _,_,.swap x y l=>by rw[gG,gG,gG,gG];lia
 | _,_,.trans h k=>(xq h).trans<|xq k
def SH{a:ag}(b:ag)(h:a.Perm a'):oM a b=oM a' b:=xq<|h.map _
def T9(a:ag){b:ag}(h:b.Perm b'):oM a b=oM a b':=by
 unfold oM;congr 1;refine cB λx _=>h.countP_eq _
def CF{M:ag}{x y:Int}(h:∀m∈M,m<x\/y<m)(hxy:x<y):M.countP (λm=>decide<|m<x)=M.countP (λm=>decide<|m<y):=by
 refine List.countP_congr λm d=>?_;rw[decide_eq_true_iff,decide_eq_true_iff]
 rcases h m d with z|z<;>omega
theorem yt:∀{M:ag}{x y:Int},(∀m∈M,m<x\/y<m)->x<y->oM M [x]=oM M [y]
 | [],_,_,_,_=>rfl
 | m::M,x,y,h,hxy=>by
  rw[wD,wD,yt (λf d=>h f<|aQ _ d) hxy];congr 1;have:=h m<|aO ..;dsimp[jm,List.countP_nil];by_cases c:x<m
  ·rw[bg c,bg<|show y<m by omega]
  ·rw[bB c,bB<|show ¬y<m by omega]
def mid{M:ag}{x y:Int}(h:∀m∈M,m<x\/y<m)(hxy:x<y):inv ([y]++M++[x])=inv ([x]++M++[y])+1:=by
 rw[mF,mF,mF<|[x]++M,mF [x]];have e1:oM [y] M=oM [x] M:=by
  show M.countP _+0=M.countP _+0;rw[CF h hxy]
 have e2:oM ([y]++M) [x]=1+oM M [x]:=by
  show[x].countP _+oM M [x]=_;rw[jm,bg hxy];rfl
 have e3:oM ([x]++M) [y]=oM M [y]:=by
  show[y].countP _+oM M [y]=_;rw[jm,bB (by lia:¬y<x)];simp
 rw[e1,e2,e3,yt h hxy]
 skip
 lia
def Ng(M:ag)(x y:Int):([y]++M++[x]).Perm ([x]++M++[y]):=by
 refine(List.perm_append_comm (l₁:=[y]++M) (l₂:=[x])).trans ?_
 skip
 exact .cons x<|List.perm_append_comm (l₁:=[y]) (l₂:=M)
def step{P M R:ag}{x y:Int}(h:∀m∈M,m<x\/y<m)(hxy:x<y):inv (P++([y]++M++[x])++R)=inv (P++([x]++M++[y])++R)+1:=by
 have p:=Ng M x y;rw[mF,mF P,mF<|P++([x]++M++[y]),mF P,mid h hxy,T9 P p,SH R<|p.append_left P]
 lia
abbrev sw (a:ag)(i j:Nat):ag:=(a.set i<|a.getD j 0).set j<|a.getD i 0
def split{a:ag}(hij:i<j)(hj:j<a.length):∃P M R:ag,a=P++([a.getD i 0]++M++[a.getD j 0])++R/\P=a.take i/\(∀m∈M,∃k,i<k/\k<j/\a[k]?=some m)/\sw a i j=P++([a.getD j 0]++M++[a.getD i 0])++R:=by
 have G:a.getD i 0=a[i]:=by rw[aL,aI ()];rfl
 have J:a.getD j 0=a[j]:=by rw[aL,aI hj];rfl
 obtain⟨M,q⟩:∃M,M=(a.drop<|i+1).take (j-i-1):=⟨_,rfl⟩;have F:M.length=j-i-1:=by rw[q,bP,eF];lia
 have z:a=a.take i++([a.getD i 0]++M++[a.getD j 0])++a.drop (j+1):=by
  have h1:a.drop i=a[i]::a.drop (i+1):=dc ();have h2:a.drop (i+1)=M++a.drop j:=by
   rw[q];have:=eW (j-i-1)<|a.drop<|i+1;rw[List.drop_drop,show i+1+(j-i-1)=j by lia]at this;exact this.symm
  have h3:a.drop j=a[j]::a.drop (j+1):=dc hj
  conv=>lhs;rw[<- eW i a,h1,h2,h3]
  rw[G,J];simp
 refine⟨a.take i,M,a.drop<|j+1,z,rfl,λm B=>?_,?_⟩
 ·rw[q]at B;obtain⟨k,p⟩:=gf B;have t:k<j-i-1:=by
   have:=(aJ.mp p).1;rw[bP]at this;lia
  rw[gB t,ja]at p;exact⟨i+1+k,(),(),p⟩
 ·have g:∀(P R:ag) (x y d f:Int),P.length=i->((P++([x]++M++[y])++R).set i f).set j d=P++([f]++M++[d])++R:=λP R x y d f C=>by
   rw[bX,f6 _ _ (),C,jv];show(P++(f::((M++[y])++R))).set j d=_;rw[f6 _ _ (),C,show j-i=(j-i-1)+1 by lia,List.set_cons_succ,bX,f6 _ _ (),F,jv];simp
  have:=g (a.take i) (a.drop<|j+1) (a.getD i 0) (a.getD j 0) (a.getD i 0) (a.getD j 0) (by rw[bP];lia);rw[<- z]at this;exact this
def JP{a:ag}{i:Nat}(h:i<a.length):a[i]?=some (a.getD i 0):=by rw[aL,aI h];rfl
end Iv
namespace Fw
open PySem L2 Bl
open Wd (ex led)
meta abbrev rg (n:Nat):ag:=lU 1<|(n:Int)+1
def N2{l:ag}{k:Nat}(h0:1<=k)(h:k<l.length):ex (ex l k) k=l:=by
 apply fu;intro p;have h':k<(ex l k).length:=by rw[Wd.CH];exact h
 rw[Wd.wz h0 h',Wd.wz h0 h,Wd.wz h0 h,Wd.wz h0 h];by_cases c3:p=k
 ·rw[aN c3,aM (),aN rfl,c3]
 ·rw[aM c3];by_cases c2:p=k-1
  ·rw[aN c2,aN rfl,c2]
  ·rw[aM c2,aM c3,aM c2]
def Vj{l:ag}{k:Nat}(h0:1<=k)(h:k<l.length):(ex l k).getD k 0=l.getD (k-1) 0:=by
 rw[aL,Wd.wz h0 h,aN rfl,aL]
def Vk{l:ag}{k:Nat}(h0:1<=k)(h:k<l.length):(ex l k).getD (k-1) 0=l.getD k 0:=by
 rw[aL,Wd.wz h0 h,aM (),aN rfl,aL]
theorem Na{l:ag}{k:Nat}(h0:1<=k)(h:k<l.length)(hr:l.getD (k-1) 0<l.getD k 0):Iv.inv (ex l k)=Iv.inv l+1:=by
 obtain⟨P,M,R,e,_,f,es⟩:=Iv.split (a:=l) (i:=k-1) (j:=k) () h;have:=Iv.step (P:=P) (M:=M) (R:=R) (x:=l.getD (k-1) 0) (y:=l.getD k 0) (λm d=>by obtain⟨_,_,_,_⟩:=f m d;lia) hr;rw[<- es,<- e]at this;exact this
def Mw{l:ag}{k:Nat}(h0:1<=k)(h:k<l.length)(hr:l.getD k 0<l.getD (k-1) 0):Iv.inv l=Iv.inv (ex l k)+1:=by
 have:=Na (l:=ex l k) h0 (by rw[Wd.CH];exact h) (by rw[Vj h0 h,Vk h0 h];exact hr);rw[N2 h0 h]at this;exact this
def Sy{l:ag}{k:Nat}(h0:1<=k)(h:k<l.length):Iv.inv (ex l k)<=Iv.inv l+1:=by
 rcases Int.lt_trichotomy (l.getD (k-1) 0) (l.getD k 0)with c|c|c
 ·exact Nat.le_of_eq (Na h0 h c)
 ·have:ex l k=l:=by
   apply fu;intro p;have e1:l[k]?=some (l.getD k 0):=Iv.JP h;have e2:l[k-1]?=some (l.getD (k-1) 0):=Iv.JP ();rw[Wd.wz h0 h];by_cases c3:p=k
   ·rw[aN c3,c3,e1,e2,c]
   ·rw[aM c3];by_cases c2:p=k-1
    ·rw[aN c2,c2,e1,e2,c]
    ·rw[aM c2]
  rw[this];lia
 ·have:=Mw h0 h c;lia
abbrev Nk (l:ag)(k:Nat):Prop:=1<=k/\k<l.length/\l.getD k 0<l.getD (k-1) 0
abbrev Dn:ag->am->Prop
 | l,[]=>∀k,¬Nk l k
 | l,k::ks=>(Nk l k/\∀j,Nk l j->k<=j)/\Dn (ex l k) ks
def Q8{l:ag}{n k:Nat}(p:l.Perm<|rg n)(h0:1<=k)(h:k<l.length):l.getD (k-1) 0≠l.getD k 0:=λz=>by
 have nd:l.Nodup:=p.nodup_iff.mpr<|wB _ _;rw[Wd.vp h,Wd.vp<|show k-1<l.length by lia]at z;have:=(cX nd).mp z
 lia
structure Two (n:Nat)(o u:ag):Prop where
 po:o.Perm (rg n)
 pu:u.Perm (rg n)
 ou:MP o u
end Fw
namespace Su
open Am Po PySem L2
abbrev cS (l:Ps)(o:ag)(t:Int):Int:=match l with
 | []=>0
 | e::l=>(if e.1=o then cf e.2 t else 0)+cS l o t
def Qp(a b:Ps)(o:ag)(t:Int):cS (a++b) o t=cS a o t+cS b o t:=by
 induction a with
 | nil=>exact(c_ _).symm
 | cons e a d=>
  show _+cS (a++b) o t=_+_+_;rw[d,iK]
def qB(a b:Pl)(k:Int):cf (a++b) k=cf a k+cf b k:=by
 induction a with
 | nil=>exact(c_ _).symm
 | cons p a d=>
  show _+cf (a++b) k=_+_+_;rw[d,iK]
def PC(a b:Pl)(k:Int):cf (o_ a b) k=cf a k+cf b k:=by
 unfold o_;rw[CD<|xB _ (d:=[]) dz,wW,qB];show 0+_=_;rw[c_]
def E1(a b:Pl)(k:Int):cf (times a b) k=cf (Iq a b) k:=by
 unfold times;rw[CD<|xB _ (d:=[]) dz,wW];show 0+_=_;rw[c_]
theorem IZ(s:Int):∀(b:Pl) (k c:Int),cf (b.map λq=>(c+q.1,s * q.2)) k=s * cf b (k-c)
 | [],k,c=>(jx s).symm
 | q::b,k,c=>by
  show(if c+q.1=k then s * q.2 else 0)+cf (b.map λq=>(c+q.1,s * q.2)) k=s * ((if q.1=k-c then q.2 else 0)+cf b (k-c));rw[IZ s b k c,Int.mul_add];by_cases h:c+q.1=k
  ·rw[aN h,aN ()]
  ·rw[aM h,aM (),jx]
meta abbrev AF:Pl:=[((-1:Int),(1:Int)),((1:Int),(-1:Int))]
def YT(b:Pl)(k:Int):cf (times AF b) k=cf b (k+1)-cf b (k-1):=by
 rw[E1];show cf ((b.map λq=>((-1:Int)+q.1,(1:Int) * q.2))++((b.map λq=>((1:Int)+q.1,(-1:Int) * q.2))++[])) k=_;rw[b8,qB,IZ,IZ,Int.one_mul,show k - -1=k+1 by lia]
 lia
def Xs{D:Ps}{p:Pl}:vS (An D o p) o'=if o'=o then p else vS D o':=by
 have cons:∀(e:ag×Pl) (D:Ps) (x:ag),vS (e::D) x=if e.1=x then e.2 else vS D x:=λe D x=>by
  unfold vS;rw[b9];by_cases h:e.1=x
  ·rw[bg h,aN h];rfl
  ·rw[bB h,aM h]
 unfold An
 cases h:hS D o with
 | true=>
  rw[aN rfl]
  induction D with
  | nil=>cases h
  | cons e D d=>
   rw[bI,cons,cons];have hc:hS (e::D) o=(decide (e.1=o) || hS D o):=rfl;rw[hc]at h;by_cases c:e.1=o
   ·rw[aN c]
    skip
    by_cases c2:o'=o
    ·rw[aN<|c.trans c2.symm,aN c2]
    ·rw[aM λz=>c2<|z.symm.trans c,aM c2,aM λz=>c2<|z.symm.trans c];clear d h hc
     induction D with
     | nil=>rfl
     | cons f D g=>
      rw[bI,cons,cons,g];by_cases c3:f.1=o
      ·rw[aN c3]
       skip
       rw[aM λz=>c2<|z.symm.trans c3,aM λz=>c2<|z.symm.trans c3]
      ·rw[aM c3]
   ·rw[aM c];rw[bB c,fY]at h;rw[d h];by_cases c2:e.1=o'
    ·rw[aN c2,aM λz=>c<|c2.trans z,aN c2]
    ·rw[aM c2,aM c2]
 | false=>
  rw[aM<|by simp]
  induction D with
  | nil=>
   show vS [(o,p)] o'=_;rw[cons];by_cases c:o=o'
   ·rw[aN c,aN c.symm]
   ·rw[aM c,aM λz=>c z.symm]
  | cons e D d=>
   have hc:hS (e::D) o=(decide (e.1=o) || hS D o):=rfl;rw[hc,iL]at h;rw[iD,cons,cons,d h.2];have:=eO h.1;by_cases c:e.1=o'
   ·rw[aN c,aN c,aM λz=>this<|c.trans z]
   ·rw[aM c,aM c]
def PK(l:Ps):∀(D:Ps) (o:ag) (t:Int),cf (vS (adds D l) o) t=cf (vS D o) t+cS l o t:=by
 induction l with
 | nil=>intro D o t;exact(fO _).symm
 | cons e l d=>
  intro D o t;show cf (vS (adds (Ar D e.1 e.2) l) o) t=_+((if e.1=o then cf e.2 t else 0)+cS l o t);rw[d];unfold Ar;rw[Xs];by_cases h:o=e.1
  ·rw[aN h,aN h.symm,PC,h,iK]
  ·rw[aM h,aM λz=>h z.symm,c_]
structure Gd (D:Ps):Prop where
 nd:(D.map Prod.fst).Nodup
 ok:∀e∈D,Ok e.2
def VX{D:Ps}{o:ag}:hS D o=true ↔ o∈D.map Prod.fst:=by
 unfold hS;rw[gq,bu];constructor
 ·rintro⟨p,h1,h2⟩;exact⟨p,h1,bY h2⟩
 ·rintro⟨p,h1,h2⟩;exact⟨p,h1,bg h2⟩
def K5{D:Ps}{o:ag}{p:Pl}:(An D o p).map Prod.fst=if hS D o=true then D.map Prod.fst else D.map Prod.fst++[o]:=by
 unfold An;split
 ·rw[bz];apply cB;intro e _;show(if e.1=o then(e.1,p)else e).1=e.1;split<;>rfl
 ·rw[bC];rfl
def Gd.put{D:Ps}{p:Pl}(h:Gd D)(hp:Ok p):Gd (An D o p):=by
 refine⟨?_,λe d=>?_⟩
 ·rw[K5];split
  ·exact h.nd
  ·rename_i c;rw[cE];refine⟨h.nd,cP _ _,λa ha b hb z=>c ?_⟩;rw[aP]at hb;rw[VX,<- hb,<- z];exact ha
 ·unfold An at d;split at d
  ·obtain⟨f,hf,rfl⟩:=bu.mp d;split
   ·exact hp
   ·exact h.ok f hf
  ·rcases bq.mp d with z|z
   ·exact h.ok e z
   ·rw[aP.mp z];exact hp
theorem Gd.adds(l:Ps):∀{D:Ps},Gd D->Gd (adds D l):=by
 induction l with
 | nil=>intro D h;exact h
 | cons e l d=>intro D h;exact d<|h.put<|Fv _ _
def Gd.nil:Gd []:=⟨dz,nofun⟩
def vR{D:Ps}:(∃e∈D,e.1=o/\vS D o=e.2)\/(o∉D.map Prod.fst/\vS D o=[]):=by
 unfold vS
 cases h:D.find? λe=>decide (e.1=o)with
 | some e=>
  have h1:=fS h;exact .inl ⟨e,dg h,by simpa using h1,rfl⟩
 | none=>
  refine .inr ⟨λz=>?_,rfl⟩;obtain⟨e,f,d⟩:=bu.mp z;exact fP.mp h e f<|bg d
def Gd.v{D:Ps}(h:Gd D)(o:ag):Ok (vS D o):=by
 rcases vR (D:=D) (o:=o)with⟨e,h1,_,h2⟩|⟨_,h2⟩
 ·rw[h2];exact h.ok e h1
 ·rw[h2];exact⟨List.Pairwise.nil,nofun⟩
def CP.anti{a:ag}(h1:CP a b)(h2:CP b a):a=b:=(Sx.xr h1 h2).symm
def TL{D:Ps}(h:Gd D)(h':Gd E)(hv:∀o,vS D o=vS E o):toS D=toS E:=by
 have d:∀(D:Ps),Gd D->∀o,o∈(kB<|D.map Prod.fst).filter (λo=>!(vS D o).isEmpty) ↔ (vS D o)≠[]:=λD h o=>by
  rw[cg,(j8 _).mem_iff];constructor
  ·rintro⟨_,h2⟩ z;rw[z]at h2;cases h2
  ·intro z;refine⟨?_,by cases e:vS D o with|nil=>exact absurd e z|cons=>rfl⟩
   rcases vR (D:=D) (o:=o)with⟨e,h1,h2,_⟩|⟨_,h2⟩
   ·exact bu.mpr ⟨e,h1,h2⟩
   ·exact absurd h2 z
 have f:∀(D:Ps),((kB<|D.map Prod.fst).filter λo=>!(vS D o).isEmpty).Pairwise CP:=λD=>(uL _).filter _;have nd:∀(D:Ps),Gd D->((kB<|D.map Prod.fst).filter λo=>!(vS D o).isEmpty).Nodup:=λD h=>((j8 _).nodup_iff.mpr h.nd).filter _;have e:(kB<|D.map Prod.fst).filter (λo=>!(vS D o).isEmpty)=(kB<|E.map Prod.fst).filter (λo=>!(vS E o).isEmpty):=by
  refine fy (λa b _ _ h1 h2=>CP.anti h1 h2) (f D) (f E)<|(jb (nd D h)<|nd E h').mpr λo=>?_;rw[d D h,d E h',hv]
 unfold toS;rw[e];apply cB;intro o _;rw[hv]
def PN{D:Ps}(h:Gd D)(h':Gd E)(hc:∀o t,cf (vS D o) t=cf (vS E o) t):toS D=toS E:=TL h h' λo=>uniq (h.v o) (h'.v o)<|hc o
theorem GP{f:ag->Pl}{o:ag}{t:Int}:∀{ks:List<|ag},ks.Nodup->cS (ks.map λk=>(k,f k)) o t=if o∈ks then cf (f o) t else 0
 | [],_=>by rw[aM<|by simp];rfl
 | j::ks,h=>by
  obtain⟨h1,h2⟩:=bU.mp h;show(if j=o then cf (f j) t else 0)+cS (ks.map λk=>(k,f k)) o t=_;rw[GP h2];by_cases c:j=o
  ·subst c;rw[aN rfl,aM h1,aN<|aO ..,fO]
  ·rw[aM c,c_];by_cases e:o∈ks
   ·rw[aN e,aN<|aQ _ e]
   ·rw[aM e,aM λz=>(bF.mp z).elim (λz=>c z.symm) e]
def Gk{D:Ps}(h:Gd D)(o:ag)(t:Int):cS (toS D) o t=cf (vS D o) t:=by
 unfold toS;rw[GP<|((j8 _).nodup_iff.mpr h.nd).filter _];split
 ·rfl
 ·rename_i c
  rcases vR (D:=D) (o:=o)with⟨e,h1,h2,h3⟩|⟨_,h2⟩
  ·by_cases z:vS D o=[]
   ·rw[z];rfl
   ·refine absurd (cg.mpr ⟨(j8 _).mem_iff.mpr<|bu.mpr ⟨e,h1,h2⟩,?_⟩) c
    cases e:vS D o with|nil=>exact absurd e z|cons=>rfl
  ·rw[h2];rfl
abbrev sM (o:ag)(k:Nat):Bool:=decide<|o.getD (k-1) 0>o.getD k 0
abbrev YS (k:Nat)(l:Ps):Ps:=l.flatMap λe=>(Wd.ex e.1 k,e.2)::(if sM e.1 k=true then[(e.1,times AF e.2)]else[])
abbrev bx (k:Nat)(l:Ps):Ps:=toS<|adds []<|YS k l
abbrev Go (N k:Nat)(o:ag):Prop:=o.length=N/\o.getD (k-1) 0≠o.getD k 0
def NH{N k:Nat}{o:ag}(h:o.length=N)(h1:1<=k)(h2:k<N):Wd.ex (Wd.ex o k) k=o:=Fw.N2 h1 ()
def Rp{l:Ps}{t:Int}(h:∀e∈l,e.1≠o):cS l o t=0:=by
 induction l with
 | nil=>rfl
 | cons e l d=>
  show(if e.1=o then _ else 0)+cS l o t=0;rw[aM<|h e<|aO ..,d λf hf=>h f<|aQ _ hf];rfl
theorem UB{N k:Nat}(h1:1<=k)(h2:k<N):∀{l:Ps},(∀e∈l,Go N k e.1)->∀{o:ag}(t:Int),Go N k o->cS (YS k l) o t=cS l (Wd.ex o k) t+(if sM o k=true then cS l o (t+1)-cS l o (t-1)else 0)
 | [],_,o,t,_=>by show(0:Int)=0+if _ then(0:Int)-0 else 0;split<;>rfl
 | e::l,h,o,t,ho=>by
  have g:=h e<|aO ..;have j:=UB h1 h2 (l:=l) (λf hf=>h f<|aQ _ hf) t ho;have d:(Wd.ex e.1 k=o) ↔ (e.1=Wd.ex o k):=⟨λz=>by rw[<- z,NH g.1 h1 h2],λz=>by rw[z,NH ho.1 h1 h2]⟩;show cS (((Wd.ex e.1 k,e.2)::(if sM e.1 k=true then[(e.1,times AF e.2)]else[]))++YS k l) o t=_;rw[Qp,j];show(if Wd.ex e.1 k=o then cf e.2 t else 0)+cS (if sM e.1 k=true then[(e.1,times AF e.2)]else[]) o t+_=((if e.1=Wd.ex o k then cf e.2 t else 0)+cS l (Wd.ex o k) t)+(if sM o k=true then((if e.1=o then cf e.2 (t+1)else 0)+cS l o (t+1))-((if e.1=o then cf e.2 (t-1)else 0)+cS l o (t-1))else 0);have h3:cS (if sM e.1 k=true then[(e.1,times AF e.2)]else[]) o t=if sM o k=true then((if e.1=o then cf e.2 (t+1)else 0)-(if e.1=o then cf e.2 (t-1)else 0))else 0:=by
   by_cases c:e.1=o
   ·rw[c,aN rfl,aN rfl]
    cases sM o k with
    | false=>rfl
    | true=>
     rw[aN rfl,aN rfl];show(if o=o then cf (times AF e.2) t else 0)+0=_;rw[aN rfl,YT,fO]
   ·rw[aM c,aM c];have:cS (if sM e.1 k=true then[(e.1,times AF e.2)]else[]) o t=0:=Rp λf hf=>by
     split at hf
     ·rw[aP.mp hf];exact c
     ·cases hf
    rw[this];split<;>rfl
  rw[h3];by_cases c:Wd.ex e.1 k=o
  ·rw[aN c,aN<|d.mp c];split<;>lia
  ·rw[aM c,aM λz=>c<|d.mpr z];split<;>lia
def qx{P:ag->Prop}(l:Ps):∀{D:Ps},(∀e∈D,P e.1)->(∀e∈l,P e.1)->∀e∈adds D l,P e.1:=by
 induction l with
 | nil=>intro D h _;exact h
 | cons f l j=>
  intro D h h';refine j (λe d=>?_) λe d=>h' e<|aQ _ d;have d:e∈An D f.1 (o_ (vS D f.1) f.2):=d;unfold An at d;split at d
  ·obtain⟨g,hg,rfl⟩:=bu.mp d;split
   ·exact h g hg
   ·exact h g hg
  ·rcases bq.mp d with z|z
   ·exact h e z
   ·rw[aP.mp z];exact h' f<|aO ..
def sD{P:ag->Prop}{D:Ps}(h:∀e∈D,P e.1):∀e∈toS D,P e.1:=λe d=>by
 obtain⟨o,g,rfl⟩:=bu.mp d;obtain⟨f,hf,e⟩:=bu.mp ((j8 _).mem_iff.mp (cg.mp g).1)
 skip
 rw[<- e];exact h f hf
abbrev gX (k:Nat)(e:En)(Q:Ps):Ps:=if sM e.1 k=true then Ar (Ar Q (Wd.ex e.1 k) e.2.2) e.1 (times AF e.2.2)else Ar Q (Wd.ex e.1 k) e.2.2
theorem IB(k:Nat):∀(es:Es) (P:Ps),es.foldl (λQ e=>gX k e Q) P=adds P (YS k<|sm es)
 | [],P=>rfl
 | e::es,P=>by
  show es.foldl (λQ e=>gX k e Q) (gX k e P)=adds P (((Wd.ex e.1 k,e.2.2)::(if sM e.1 k=true then[(e.1,times AF e.2.2)]else[]))++YS k (sm es));rw[IB k es,Pc];congr 1;unfold gX
  cases sM e.1 k<;>rfl
def Zv{p:Pl}(h:Ok p)(hb:Bd C p)(t:Int):(cf p t).natAbs<=C:=by
 rw[<- Pu h.nd];exact hb.val t
def Ok.zM{l:Pl}(h:Ok l){p:Int×Int}(hp:p∈l):cf l p.1=p.2:=by
 induction l with
 | nil=>cases hp
 | cons q l d=>
  rcases bF.mp hp with z|z
  ·rw[z];exact h.head
  ·show(if q.1=p.1 then q.2 else 0)+cf l p.1=p.2;have:=(cj.mp h.up).1 p z;rw[aM (),d h.tail z,c_]
end Su
namespace He
open PySem L2 Am
open Fw (Two rg Nk)
open Bl (MP)
open Su (sM)
meta abbrev Fn:=ag->Int->Int
abbrev dl (g:Int->Int)(t:Int):Int:=g (t+1)-g (t-1)
abbrev X (k:Nat)(f:Fn):Fn:=λo t=>f (Wd.ex o k) t+if sM o k=true then dl (f o) t else 0
abbrev bk (o:ag):ag:=(List.range o.length).map λi:Nat=>((o.idxOf ((i:Int)+1):Nat):Int)+1
def nb{n k:Nat}{o:ag}(h:o.Perm<|rg n)(h0:1<=k)(h1:k<n):o.getD (k-1) 0≠o.getD k 0:=λz=>by
 have d:o.length=n:=by rw[h.length_eq,Wd.m_]
 have nd:o.Nodup:=h.nodup_iff.mpr<|wB _ _;rw[Wd.vp (),Wd.vp ()]at z;have:=(cX nd).mp z
 lia
abbrev L (j:Nat)(f:Fn):Fn:=λo t=>f (o.map<|Wd.sw j) t+if sM (bk o) j=true then dl (f o) t else 0
abbrev EqP (n:Nat)(f g:Fn):Prop:=∀o:ag,o.Perm (rg n)->∀t,f o t=g o t
def E4{n k:Nat}{o:ag}(h:o.Perm<|rg n)(h0:1<=k)(h1:k<n):(Wd.ex o k).Perm (rg n):=(Wd.RP h0<|by rw[h.length_eq,Wd.m_];exact h1).trans h
abbrev Xw (w:am)(f:Fn):Fn:=w.foldl (λf k=>X k f) f
abbrev D (u:ag)(g:Int->Int):Fn:=λo t=>if o=u then g t else 0
abbrev add (f g:Fn):Fn:=λo t=>f o t+g o t
def abZ{n k:Nat}{l:Su.Ps}(h:∀x∈l,x.1.Perm<|rg n)(h0:1<=k)(h1:k<n):EqP n (Su.cS<|Su.bx k l) (X k<|Su.cS l):=λo p t=>by
 have d:∀{x:ag},x.Perm (rg n)->Su.Go n k x:=λ{x} hx=>⟨by rw[hx.length_eq,Wd.m_],nb hx h0 h1⟩;unfold Su.bx;rw[Su.Gk<|Su.Gd.nil.adds _,Su.PK];show 0+_=_;rw[c_,Su.UB h0 h1 (λe f=>d<|h e f) t<|d p];rfl
end He
namespace He
open PySem L2 Am Po
open Fw (Two rg Nk)
open Su (sM Ps cS)
abbrev cv:Pl->(Int->Int)->Int->Int
 | [],_,_=>0
 | q::p,g,t=>q.2 * g (t-q.1)+cv p g t
def VM(p:Pl)(g h:Int->Int)(t:Int):cv p (λt=>g t+h t) t=cv p g t+cv p h t:=by
 induction p with
 | nil=>rfl
 | cons q p d=>
  show q.2 * (g (t-q.1)+h (t-q.1))+cv p _ t=(q.2 * g (t-q.1)+cv p g t)+(q.2 * h (t-q.1)+cv p h t);rw[d,Int.mul_add];lia
def Hx(p:Pl)(t:Int):cv p (λ_=>0) t=0:=by
 induction p with
 | nil=>rfl
 | cons q p d=>
  show q.2 * 0+cv p _ t=0;rw[d,jx];rfl
def aae(p q:Pl)(t:Int):cf (times p q) t=cv p (cf q) t:=by
 rw[Su.E1]
 induction p with
 | nil=>rfl
 | cons a p d=>
  show cf ((q.map λb=>(a.1+b.1,a.2 * b.2))++Iq p q) t=_;rw[Su.qB,Su.IZ,d];rfl
abbrev KS (p:Pl)(f:Fn):Fn:=λo t=>cv p (f o) t
abbrev RG (G:ag->Fn):Ps->Fn
 | []=>λ_ _=>0
 | e::m=>add (KS e.2<|G e.1)<|RG G m
def ZI{n k:Nat}{m:Ps}(h0:1<=k)(h1:k<n)(hm:∀x∈m,x.1.Perm<|rg n):∀x∈Su.bx k m,x.1.Perm (rg n):=Su.sD (P:=λo=>o.Perm<|rg n) (Su.qx (P:=λo=>o.Perm<|rg n) _ (nofun) λx d=>by
 obtain⟨f,hf,d⟩:=iI.mp d
 rcases bF.mp d with z|z
 ·rw[z];exact E4 (hm f hf) h0 h1
 ·split at z
  ·rw[aP.mp z];exact hm f hf
  ·cases z)
abbrev scl (p:Pl)(l:Ps):Ps:=l.map λx=>(x.1,times p x.2)
def Xi(p:Pl)(l:Ps):cS (scl p l)=KS p (cS l):=by
 funext o t
 induction l with
 | nil=>exact(Hx p t).symm
 | cons e l d=>
  show(if e.1=o then cf (times p e.2) t else 0)+cS (scl p l) o t=cv p (λt=>(if e.1=o then cf e.2 t else 0)+cS l o t) t;rw[VM,d];congr 1;by_cases c:e.1=o
  ·rw[aN c,aae,show(λt=>if e.1=o then cf e.2 t else 0)=cf e.2 from funext λt=>aN c]
  ·rw[aM c,show(λt=>if e.1=o then cf e.2 t else(0:Int))=λ_=>0 from funext λt=>aM c,Hx]
abbrev B (f:Fn):Fn:=λo=>f<|bk o
abbrev d0:Int->Int:=λt=>if t=0 then 1 else 0
end He
namespace He
open PySem L2 Am Po
open Fw (Two rg Nk)
open Su (sM Ps cS Gd vS toS adds bx)
def Nm{D:Ps}(h:Gd D){e:ag×Pl}(he:e∈D):vS D e.1=e.2:=by
 rcases Su.vR (D:=D) (o:=e.1)with⟨d,h1,h2,h3⟩|⟨h1,_⟩
 ·rw[h3,C4 h.nd d h1 e he h2]
 ·exact absurd (fF he) h1
def E5{D:Ps}(h:Gd D):(D.map Prod.fst).map (λk=>(k,vS D k))=D:=by
 rw[bz]
 conv=>rhs;rw[<- gQ D]
 exact cB λe d=>by
  show(e.1,vS D e.1)=e;rw[Nm h d]
def HX{D:Ps}(h:Gd D)(o:ag)(t:Int):cS D o t=cf (vS D o) t:=by
 conv=>lhs;rw[<- E5 h]
 rw[Su.GP h.nd];split
 ·rfl
 ·rename_i c
  rcases Su.vR (D:=D) (o:=o)with⟨e,h1,h2,_⟩|⟨_,h2⟩
  ·exact absurd (h2 ▸ fF h1) c
  ·rw[h2];rfl
def Gn{D:Ps}(h:Gd D):Gd (toS D):=by
 refine⟨?_,λe d=>?_⟩
 ·unfold toS;rw[bz,show(Prod.fst ∘ λo=>(o,vS D o))=id from rfl,gQ];exact((j8 _).nodup_iff.mpr h.nd).filter _
 ·obtain⟨o,_,rfl⟩:=bu.mp d;exact h.v o
structure Cn (l:Ps):Prop where
 gd:Gd l
 eq:toS l=l
theorem Cn.toS{D:Ps}(h:Gd D):Cn (toS D):=⟨Gn h,Su.PN (Gn h) h λo t=>by rw[<- HX (Gn h),Su.Gk h]⟩
def Oj{P:Ps}(h:Gd P)(hn:∀e∈P,e.2≠[]):zW P=toS P:=by
 symm
 have all:(kB<|P.map Prod.fst).filter (λo=>!(vS P o).isEmpty)=kB (P.map Prod.fst):=by
  rw[gA];intro o f;obtain⟨e,d,rfl⟩:=bu.mp<|(j8 _).mem_iff.mp f;rw[Nm h d]
  cases g:e.2 with
  | nil=>exact absurd g (hn e d)
  | cons=>rfl
 have ts:toS P=(kB<|P.map Prod.fst).map λo=>(o,vS P o):=by unfold toS;rw[all]
 refine Gr h.nd ?_ ?_
 ·rw[ts];have:=(j8<|P.map Prod.fst).map λo=>(o,vS P o)
  rwa [E5 h]at this
 ·rw[ts,bz,show(Prod.fst ∘ λo=>(o,vS P o))=id from rfl,gQ];exact uL _
abbrev ff (o:ag):bj:=((List.range<|o.length-1).find? λi=>sM o<|i+1).map (·+1)
def Rg{o:ag}{k:Nat}(h:ff o=some k):1<=k/\k<o.length/\sM o k=true:=by
 obtain⟨i,d,rfl⟩:=aY.mp h;have h1:=cO.mp<|dg d;have h2:sM o (i+1)=true:=fS (p:=λi=>sM o<|i+1) d;exact⟨(),(),h2⟩
abbrev boF:Nat->Ps->ag->Ps
 | 0,l,_=>l
 | m+1,l,o=>match ff o with
  | none=>l
  | some k=>bx k<|boF m l<|Wd.ex o k
def aad(k:Nat)(l:Ps):Cn (bx k l):=.toS<|Gd.nil.adds _
abbrev bo (l:Ps)(o:ag):Ps:=boF (Iv.inv o) l o
def JB(l:Ps)(o:ag)(t:Int):cS (toS<|adds [] l) o t=cS l o t:=by
 rw[Su.Gk<|Gd.nil.adds _,Su.PK];exact c_ _
abbrev zG (l m:Ps):Ps:=toS<|adds []<|l++m
def RY{n:Nat}{l m:Ps}(pl:∀x∈l,x.1.Perm<|rg n)(pm:∀x∈m,x.1.Perm<|rg n):Cn (zG l m)/\(∀x∈zG l m,x.1.Perm<|rg n)/\cS (zG l m)=add (cS l) (cS m):=
 ⟨.toS<|Gd.nil.adds _,Su.sD (P:=λo=>o.Perm<|rg n)<|Su.qx (P:=λo=>o.Perm<|rg n) _ (nofun) λx d=>(bq.mp d).elim (pl x)<|pm x,funext λo=>funext λt=>by
  show cS (toS<|adds []<|l++m) o t=_;rw[JB,Su.Qp];rfl⟩
abbrev one (n:Nat):Ps:=[(rg n,[((0:Int),(1:Int))])]
def Ww(o:ag){p:Pl}(hp:Ok p)(h0:p≠[]):Cn [(o,p)]:=by
 have g:Gd [(o,p)]:=⟨bU.mpr ⟨(λz=>nomatch z),dz⟩,λe d=>by rw[aP.mp d];exact hp⟩;exact⟨g,(Oj g λe d=>by rw[aP.mp d];exact h0).symm⟩
def WL:Ok [((0:Int),(1:Int))]:=⟨cP _ _,λp d=>by rw[aP.mp d];decide⟩
end He
namespace He
open PySem L2 Am Po
open Fw (Two rg Nk)
open Su (sM Ps cS Gd vS toS adds bx)
abbrev arr:Nat->ag->List (ag)
 | 0,_=>[[]]
 | m+1,l=>l.flatMap λx=>(arr m<|l.erase x).map (x::·)
theorem Jk:∀{m:Nat}{l o:ag},o.Perm l->l.length=m->o∈arr m l
 | 0,l,o,p,h=>by
  have:l=[]:=dZ.mp h;subst this;rw[p.eq_nil];exact aP.mpr rfl
 | m+1,l,[],p,h=>by rw[<- p.length_eq]at h;cases h
 | m+1,l,x::o,p,h=>by
  obtain⟨h1,h2⟩:=List.cons_perm_iff_perm_erase.mp p;refine iI.mpr ⟨x,h1,bu.mpr ⟨o,Jk h2 ?_,rfl⟩⟩;rw[List.length_erase_of_mem h1,h];rfl
def Lw{α:Type}[DecidableEq α]{ks L:List α}(nd:ks.Nodup)(h:∀x∈ks,x∈L):ks.length<=L.length:=by
 have:=pig L.length (ks.map λx=>L.idxOf x) ?_ λi f=>?_
 ·rwa [aG]at this
 ·refine cJ.mpr<|nd.imp_of_mem λ{a b} ha hb hab z=>hab ?_;have e1:=List.getElem_idxOf<|gH.mpr<|h a ha;have e2:=List.getElem_idxOf<|gH.mpr<|h b hb;rw[<- e1,<- e2];congr 1
 ·obtain⟨x,d,rfl⟩:=bu.mp f;exact gH.mpr<|h x d
def Rz:∀n,n<6->(arr n<|rg n).length<=120:=by decide +kernel
def many{n:Nat}(hn:n<6){ks:List<|ag}(nd:ks.Nodup)(h:∀o∈ks,o.Perm<|rg n):ks.length<=120:=
 bH (Lw nd λo d=>Jk (h o d)<|Wd.m_ n) (Rz n hn)
structure FB (n P C:Nat)(f:Fn):Prop where
 c:∀o,o.Perm (rg n)->∀t,(f o t).natAbs<=C
 p:∀o,o.Perm (rg n)->∀t:Int,P<t.natAbs->f o t=0
def FB.mono{n P:Nat}{f:Fn}(h:FB n P C f)(hp:P<=P')(hc:C<=C'):FB n P' C' f:=⟨λo d t=>bH (h.c o d t) hc,λo d t g=>h.p o d t ()⟩
def FB.eq{n P:Nat}{f g:Fn}(h:FB n P C f)(e:EqP n g f):FB n P C g:=⟨λo d t=>by rw[e o d t];exact h.c o d t,λo d t j=>by rw[e o d t];exact h.p o d t j⟩
theorem FB.X{n P k:Nat}{f:Fn}(h:FB n P C f)(h0:1<=k)(h1:k<n):FB n (P+1) (3 * C) (X k f):=by
 refine⟨λo g t=>?_,λo g t j=>?_⟩
 ·have a:=h.c _ (E4 g h0 h1) t;have b:=h.c o g<|t+1;have d:=h.c o g<|t-1;unfold He.X dl;split<;>omega
 ·have a:=h.p _ (E4 g h0 h1) t (by omega);have b:=h.p o g (t+1) (by omega);have d:=h.p o g (t-1) (by omega);unfold He.X dl;split<;>omega
theorem FB.add{n P:Nat}{f g:Fn}(h:FB n P C f)(h':FB n P C' g):FB n P (C+C') (add f g):=by
 refine⟨λo d t=>?_,λo d t j=>?_⟩
 ·have a:=h.c o d t;have b:=h'.c o d t;show(f o t+g o t).natAbs<=_;omega
 ·show f o t+g o t=0;rw[h.p o d t j,h'.p o d t j];rfl
structure PB (Q c:Nat)(p:Pl):Prop where
 c:∀q∈p,q.2.natAbs<=c
 p:∀q∈p,q.1.natAbs<=Q
theorem YB{n P c:Nat}{f:Fn}(h:FB n P C f){o:ag}(po:o.Perm<|rg n):∀{p:Pl},PB Q c p->(∀t,(cv p (f o) t).natAbs<=p.length * (c * C))/\∀t:Int,P+Q<t.natAbs->cv p (f o) t=0
 | [],_=>⟨λ_=>bK _,λ_ _=>rfl⟩
 | q::p,b=>by
  obtain⟨z,k⟩:=YB h po (p:=p) ⟨λx d=>b.c x<|aQ _ d,λx d=>b.p x<|aQ _ d⟩;have g:=b.c q<|aO ..;have B:=b.p q<|aO ..;refine⟨λt=>?_,λt j=>?_⟩
  ·show(q.2 * f o (t-q.1)+cv p (f o) t).natAbs<=(p.length+1) * (c * C);refine bH (Int.natAbs_add_le _ _) ?_;rw[Int.natAbs_mul,fL,Nat.add_comm];exact Nat.add_le_add (z t) (jD g<|h.c o po _)
  ·show q.2 * f o (t-q.1)+cv p (f o) t=0;rw[k t j,h.p o po _<|by omega,jx];rfl
theorem FB.KS{n P c:Nat}{f:Fn}(h:FB n P C f){p:Pl}(b:PB Q c p):FB n (P+Q) (p.length * (c * C)) (KS p f):=⟨λo d t=>(YB h d b).1 t,λo d t g=>(YB h d b).2 t g⟩
theorem Ow:∀{l:Pl}{a b:Int},l.Pairwise (λp q=>p.1<q.1)->(∀p∈l,a<=p.1/\p.1<=b)->l.length<=(b-a+1).toNat
 | [],_,_,_,_=>bK _
 | p::l,a,b,h,hb=>by
  obtain⟨h1,h2⟩:=cj.mp h;have p1:=hb p<|aO ..;have i:=Ow (l:=l) (a:=a+1) (b:=b) h2 λq hq=>by
   have:=h1 q hq;have:=hb q (aQ _ hq)
   lia
  rw[bG]
  lia
def W7{p:Pl}{P c:Nat}(h:Ok p)(b:PB P c p):p.length<=2 * P+1:=by
 have:=Ow (a:=-(P:Int)) (b:=P) h.up λq hq=>by have:=b.p q hq;omega
 omega
def FB.pb{n P:Nat}{l:Ps}(h:FB n P C<|cS l)(hc:Gd l)(pl:∀x∈l,x.1.Perm<|rg n){e:ag×Pl}(he:e∈l):PB P C e.2/\e.2.length<=2 * P+1:=by
 have ok:=hc.ok e he;have d:∀q∈e.2,cS l e.1 q.1=q.2:=λq hq=>by
  rw[HX hc,Nm hc he];exact Su.Ok.zM ok hq
 have b:PB P C e.2:=⟨λq hq=>by rw[<- d q hq];exact h.c _ (pl e he) _,λq hq=>by
  refine Nat.le_of_not_lt λz=>ok.nz q hq ?_;rw[<- d q hq];exact h.p _ (pl e he) _ z⟩
 exact⟨b,W7 ok b⟩
structure Sz (n P C:Nat)(l:Ps):Prop where
 cn:Cn l
 pm:∀x∈l,x.1.Perm (rg n)
 fb:FB n P C<|cS l
def Sz.pb{n P:Nat}{l:Ps}(h:Sz n P C l){e:ag×Pl}(he:e∈l):PB P C e.2/\e.2.length<=2 * P+1:=h.fb.pb h.cn.gd h.pm he
def Sz.many{n P:Nat}{l:Ps}(hn:n<6)(h:Sz n P C l):l.length<=120:=by
 have:=He.many hn h.cn.gd.nd λo f=>by obtain⟨e,d,rfl⟩:=bu.mp f;exact h.pm e d
 rwa [aG]at this
def Sz.mono{n P:Nat}{l:Ps}(h:Sz n P C l)(hp:P<=P')(hc:C<=C'):Sz n P' C' l:=⟨h.cn,h.pm,h.fb.mono hp hc⟩
theorem Sz.bx{n P k:Nat}{l:Ps}(h:Sz n P C l)(h0:1<=k)(h1:k<n):Sz n (P+1) (3 * C) (bx k l):=⟨aad _ _,ZI h0 h1 h.pm,(h.fb.X h0 h1).eq<|abZ h.pm h0 h1⟩
def Sz.sum{n P c:Nat}{l:Ps}(h:Sz n P C l)(h':Sz n P c m):Sz n P (C+c) (zG l m):=by
 obtain⟨a,b,d⟩:=RY h.pm h'.pm;exact⟨a,b,by rw[d];exact h.fb.add h'.fb⟩
end He
namespace Su
open Am Po PySem L2
def KL{D:Es}{r:Nat}{p:Pl}:∃e,fE (qY D o r p) o=some e/\e.2.1=r:=by
 unfold qY;by_cases c:(fE D o).isSome=true
 ·rw[aN c];obtain⟨e,d⟩:=cY.mp c;unfold fE at d ⊢;rw[h_];have eq:((λe:En=>decide<|e.1=o) ∘ λe:En=>if e.1=o then(e.1,r,p)else e)=λe:En=>decide (e.1=o):=by
   funext x
   show decide ((if x.1=o then(x.1,r,p)else x).1=o)=_;by_cases z:x.1=o
   ·rw[aN z]
   ·rw[aM z]
  rw[eq,d];have:=fS d;have:=bY this;exact⟨_,rfl,by show(if e.1=o then(e.1,r,p)else e).2.1=r;rw[aN this]⟩
 ·rw[aM c];have c:fE D o=none:=Option.not_isSome_iff_eq_none.mp c;unfold fE at c ⊢;rw[List.find?_append,c];exact⟨(o,r,p),by rw[b9,bg rfl];rfl,rfl⟩
end Su
namespace He
open PySem L2 Am Po
open Fw (Two rg Nk)
open Su (sM Ps cS Gd vS toS adds bx)
def Sz.of{n P:Nat}{l:Ps}(h:Cn l)(pm:∀x∈l,x.1.Perm<|rg n)(pb:∀e∈l,PB P C e.2):Sz n P C l:=by
 refine⟨h,pm,⟨λo f t=>?_,λo f t j=>?_⟩⟩
 ·rw[HX h.gd]
  rcases Su.vR (D:=l) (o:=o)with⟨e,h1,_,h3⟩|⟨_,h2⟩
  ·rw[h3];exact Su.Zv (h.gd.ok e h1) (λq hq=>(pb e h1).c q hq) t
  ·rw[h2];exact bK _
 ·rw[HX h.gd]
  rcases Su.vR (D:=l) (o:=o)with⟨e,h1,_,h3⟩|⟨_,h2⟩
  ·rw[h3];have:∀q∈e.2,q.1≠t:=λq hq z=>by have:=(pb e h1).p q hq;rw[z]at this;lia
   clear h3;revert this;generalize e.2=p0;intro this
   induction p0 with
   | nil=>rfl
   | cons q p d=>
    have z:=this q<|aO ..;have i:=d λx g=>this x<|aQ _ g;show(if q.1=t then q.2 else 0)+cf p t=0;rw[aM z,i];rfl
  ·rw[h2];rfl
def TV{o:ag}:((lU 1 (o.length:Int)).filter λk=>decide<|o.getD (k-1).toNat 0>o.getD k.toNat 0).head?=(ff o).map λk:Nat=>(k:Int):=by
 rw[List.head?_filter];unfold lU ff;rw[h_,show((o.length:Int)-1).toNat=o.length-1 by lia,eU];have:((λk:Int=>decide<|o.getD (k-1).toNat 0>o.getD k.toNat 0) ∘ λk:Nat=>(1:Int)+(k:Int))=λi:Nat=>sM o (i+1):=by
  funext i
  show decide (o.getD ((1:Int)+(i:Int)-1).toNat 0>o.getD ((1:Int)+(i:Int)).toNat 0)=decide _;rw[show((1:Int)+(i:Int)-1).toNat=i+1-1 by lia,show((1:Int)+(i:Int)).toNat=i+1 by lia]
 rw[this];congr 1
 funext i
 show(1:Int)+(i:Int)=((i+1:Nat):Int)
 lia
end He
namespace He
open PySem L2 Am Po
open Fw (Two rg Nk)
open Su (sM Ps cS Gd vS toS adds bx)
abbrev Y (k:Nat)(f:Fn):Fn:=λo t=>X k f o t-dl (f o) t
abbrev F5 (p:Pl)(l:Ps):Ps:=toS<|adds []<|scl p l
def WD(p:Pl)(l:Ps):cS (F5 p l)=KS p (cS l):=by
 funext o t
 unfold F5;rw[JB,Xi]
def Xp{n:Nat}{p:Pl}{l:Ps}(pl:∀x∈l,x.1.Perm<|rg n):Cn (F5 p l)/\∀x∈F5 p l,x.1.Perm (rg n):=
 ⟨.toS<|Gd.nil.adds _,Su.sD (P:=λo=>o.Perm<|rg n) (Su.qx (P:=λo=>o.Perm<|rg n) _ (nofun) λx d=>by
  obtain⟨y,hy,rfl⟩:=bu.mp d;exact pl y hy)⟩
structure Fwd (n:Nat)(W:ag->am):Prop where
 r:∀o,o.Perm (rg n)->Wd.xK (rg n) (W o)
 e:∀o,o.Perm (rg n)->Wd.led (rg n) (W o)=o
end He
namespace He
open PySem L2 Am Po
open Fw (Two rg Nk Dn)
open Su (sM Ps cS Gd vS toS adds bx)
theorem Sz.F5{n P c:Nat}{l:Ps}(h:Sz n P C l){p:Pl}(b:PB Q c p):Sz n (P+Q) (p.length * (c * C)) (F5 p l):=by
 obtain⟨f,d⟩:=Xp (p:=p) h.pm;exact⟨f,d,by rw[WD];exact h.fb.KS b⟩
end He
namespace K66
open PySem L2 Am
abbrev Od (S:jK)(b:Nat):Prop:=∃g st:Int,jI S b=some [.int g,.int st]/\0<=g/\0<=st/\st<4294967296
def Od.kp{c:Nat->Prop}(h:Od S b)(k:Kp c S S')(hb:¬c b):Od S' b:=by
 obtain⟨g,st,e,q⟩:=h;exact⟨g,st,k.lst b _ hb e,q⟩
def Jo{ns:ag}{k:Int}(h0:0<=k):∃c,oU [.frz<|ns.map .int,.int k] S=.ok (.int c) S:=by
 unfold oU wH wo;dsimp[kg,bools,mW,Nat.reduceAdd,Nat.reduceSub,aG];by_cases d:k<(ns.length:Int)
 ·have hn:k.toNat<ns.length:=()
  have ha:t8 (ns.map A.int) k=some (.int ns[k.toNat]):=C6 (k:=k.toNat) ()<|aI hn;rw[bg d];dsimp[kg,bools,ha];exact⟨_,rfl⟩
 ·rw[bB d];dsimp[kg,bools];exact⟨_,rfl⟩
def HH{S:jK}{c k:Int}(h0:0<=k)(h1:k<=100):∃S',qy [.int c,.int k] S=.ok (.ref S.length) S'/\Od S' S.length/\ly S S':=by
 have e3:VA (.int 10) (.int 18)=λS=>R.ok (.int 1000000000000000000) S:=by
  funext S;exact oO ⟨by decide,by decide,by decide⟩
 have d:∀x:Int,CO (.int x) (.int 2147483647)=λS=>R.ok (.int<|x % 2147483647) S:=λx=>by funext S;exact ET ⋯
 have f:∀x:Int,zV (.int x) (.int 69621)=λS=>R.ok (.int<|x * 69621) S:=λx=>by funext S;exact mul_r ⋯ ⋯
 have g:∀x:Int,zV (.int 7919) (.int x)=λS=>R.ok (.int<|7919 * x) S:=λx=>by funext S;exact Mz ⋯ ⋯
 have j:∀x:Int,0<=x % 2147483647:=λx=>iP _ ⋯;have q:∀x:Int,x % 2147483647<4294967296:=λx=>by have:=gM x (show(0:Int)<2147483647 by decide);lia
 have t:0<=(if c<0 then -c else c):=by split<;>lia
 unfold qy xR xS;dsimp[kg,bools,mW,Nat.reduceAdd,Nat.reduceSub,e3,d,f,g];by_cases p:(if c<0 then -c else c)<1000000000000000000
 ·rw[bg p];dsimp[kg,bools,e3,d,f,g];exact⟨_,rfl,⟨_,_,jX,Int.le_refl 0,j _,q _⟩,Kp.refl.lay⟩
 ·rw[bB p];dsimp[kg,bools,e3,d,f,g];exact⟨_,rfl,⟨_,_,jX,t,j _,q _⟩,Kp.refl.lay⟩
def Mv{S:jK}{g st:Int}(hl:jI S b=some [.int g,.int st])(hs:0<=st)(hs2:st<4294967296):∃d st',nV [.ref b] S=.ok (.int d) (S.set b<|.lst [.int g,.int st'])/\0<=st'/\st'<4294967296:=by
 have hb:=lB hl;have f:EK 2 1=some 1:=zN rfl ⋯;have e1:0<=(st * 48271+11) % 2147483647:=iP _ ⋯;have e2:(st * 48271+11) % 2147483647<2147483647:=gM _ ⋯;refine⟨(st * 48271+11) % 2147483647 * 16807 % 2147483629 / 8,(st * 48271+11) % 2147483647,?_,e1,()⟩;unfold nV vc ug;rw[xh];simp[hl,xx,P0,f,Mz (show -18446744073709551616<st by lia) (),ET<|show(0:Int)<2147483647 by decide,oz hb,OI (show(0:Int)<8 by decide) ⋯,Mz (show -18446744073709551616<(st * 48271+11) % 2147483647 by lia) (),ET<|show(0:Int)<2147483629 by decide]
def digit{m:Int}(h:Od S b)(h1:1<=m)(h2:m<=1000):∃d S',lu [.ref b,.int m] S=.ok (.int d) S'/\0<=d/\d<m/\Od S' b/\Kp (·=b) S S':=by
 obtain⟨g,st,p,hg,hs,j⟩:=h;have hb:=lB p;have F:EK 2 0=some 0:=zN rfl ⋯;have fin:∀d q f:Int,0<=d->d<m->0<=q->0<=f->f<4294967296->lu [.ref b,.int m] S=.ok (.int d) (S.set b<|.lst [.int q,.int f])->∃d S',lu [.ref b,.int m] S=.ok (.int d) S'/\0<=d/\d<m/\Od S' b/\Kp (·=b) S S':=
  λd q f K C B G z e=>⟨d,_,e,K,C,⟨q,f,oz hb,B,G,z⟩,Kp.refl.set<|.inl rfl⟩
 by_cases k:0<g
 ·refine fin (g % m) (g / m) st (iP _ ()) (gM _ ()) (Int.ediv_nonneg hg ()) hs j ?_;unfold lu rG rD;rw[xh];simp[p,xx,P0,k,ET<|show 0<m by lia,OI (show 0<m by lia)<|show m<1073741824 by lia,F]
 ·obtain⟨d,f,e1,t,J⟩:=Mv p hs j;refine fin (d % m) g f (iP _ ()) (gM _ ()) hg t J ?_;unfold lu rG rD;rw[xh];simp[p,xx,P0,k,ET<|show 0<m by lia,e1,show ¬(1000<m)by lia]
theorem AM:∀(l:ag) (j:Nat) (h:j<l.length),(l[j]::l.eraseIdx j).Perm l
 | x::l,0,_=>eS _
 | x::l,j+1,h=>(List.Perm.swap x _ _).trans<|List.Perm.cons x<|AM l j<|ie h
def KZ{ls fs:ag}{j:Nat}(h:j<ls.length):((fs++[ls[j]])++ls.eraseIdx j).Perm (fs++ls):=by
 rw[bX];refine List.Perm.append_left fs ?_
 skip
 exact AM ls j h
def QX{d:Int}{n:Nat}(h0:0<=d)(h:d.toNat<n):seqIndex? d n=some d.toNat:=by
 unfold seqIndex?;simp
 lia
theorem B6{α β:Type}(f:α->β):∀(l:List α) (k:Nat),(l.map f).eraseIdx k=(l.eraseIdx k).map f
 | [],_=>rfl
 | _::_,0=>rfl
 | x::l,k+1=>c7 (f x::·)<|B6 f l k
def E2{n:Int}(h:Od S b)(h1:1<=n)(h2:n<=20):∃(xs:ag) (S':jK),mD [.ref b,.int n] S=.ok (.tup<|xs.map .int) S'/\xs.Perm (lU 1<|n+1)/\Od S' b/\Kp (·=b) S S':=by
 have U:b<S.length:=by obtain⟨_,_,e,_⟩:=h;exact lB e
 unfold mD vd uw;dsimp[kg,bools,mW,Nat.reduceAdd,Nat.reduceSub,B0<|FO (show(-1000000:Int)<=1 by decide) ⋯ (show -1000000<=n+1 by lia) () (),aW];refine zg (lo:=0) (hi:=n) (S1:=S++[.lst<|(lU 1<|n+1).map .int]++[.lst []]) (uh (by dsimp[kg,bools])<|qz () ())
  (λi τ S1=>∃(K:A) (f fs:ag),τ=[.ref b,.int n,.ref S.length,.ref<|S.length+1,K]/\jI S1 S.length=some (f.map .int)/\jI S1 (S.length+1)=some (fs.map .int)/\(f.length:Int)+i=n/\(fs++f).Perm (lU 1<|n+1)/\Od S1 b/\Kp (·=b) S S1)
  (λr=>∃(xs:ag) (S':jK),RS.end (RS.seq r _)=.ok (.tup<|xs.map .int) S'/\xs.Perm (lU 1<|n+1)/\Od S' b/\Kp (·=b) S S') ?_ ?_ ?_
 ·refine⟨.unb,lU 1<|n+1,[],rfl,kM jX,?_,by rw[sE];lia,eS _,h.kp (c:=λ_=>False) (Kp.refl.lay.lay) λz=>z,Kp.refl.lay.lay⟩;have:jI (S++[.lst<|(lU 1<|n+1).map .int]++[.lst []]) (S++[O.lst<|(lU 1<|n+1).map .int]).length=some []:=jX;simpa using this
 ·rintro i τ S1 hi ⟨K,f,fs,rfl,F,B,hn,t,hb,L⟩;left;obtain⟨d,S2,e2,d0,V,G,j⟩:=digit (m:=(f.length:Int)) hb () ();have p:=j.lst S.length _ () F;have k:=j.lst (S.length+1) _ () B;have C:d.toNat<f.length:=()
  have T:=lB k;have N:=lB p;have P:fs.length<=20:=by
   have:=t.length_eq;rw[aW,sE]at this
   lia
  have J:seqIndex? d f.length=some d.toNat:=QX d0 C;have M:jI (S2.set S.length<|.lst<|(f.map A.int).eraseIdx d.toNat) (S.length+1)=some (fs.map .int):=by rw[k9 ()];exact k
  unfold vK;dsimp[kg,bools,F,B,aG,e2,p,zX,oO<|show -(2 ^ 63:Int)<=d/\d<2 ^ 63 by lia,J,aX,aI C,eY,M,pI<|show fs.length<16777216 by lia];refine⟨_,_,rfl,_,f.eraseIdx d.toNat,fs++[f[d.toNat]],rfl,?_,?_,?_,(KZ C).trans t,?_,?_⟩
  ·rw[k9 (),oz N,B6]
  ·rw[oz<|by rw[bV];exact T,bC];rfl
  ·rw[List.length_eraseIdx_of_lt C];lia
  ·obtain⟨g,st,e,q⟩:=G;exact⟨g,st,by rw[k9 (),k9 ()];exact e,q⟩
  ·exact((L.trans j).set<|.inr<|aK _).set (.inr ())
 ·rintro τ S1 ⟨K,f,fs,rfl,F,B,hn,t,hb,L⟩;have:f=[]:=dZ.mp ();subst this;exact⟨fs,S1,by dsimp[kg,bools,B],by simpa using t,hb,L⟩
open Po (Pl Ok Bd)
def QL{S:jK}{d:Nat}{D:Pl}(hd:l8 S d=some (Po.iv D))(hl:D.length<=16777216):∃S',kZ [.ref d] S=.ok (.ref<|S.length+1) S'/\jI S' (S.length+1)=some (Po.pl<|Po.Hq D)/\ly S S':=by
 obtain⟨S',e,h1,h2⟩:=Ye hd hl;refine⟨S',?_,h1,h2⟩;unfold kZ pW pV;dsimp[kg,bools,mW,Nat.reduceAdd,Nat.reduceSub];rw[show kH [none,some 0] _ _ _ _ _ _=_ from e];rfl
def Sq{S:jK}{n:Nat}{a b:Pl}(hn:jI S n=some (Po.pl a))(hm:jI S m=some (Po.pl b))(ha:Ok a)(hl:a.length+b.length<16777216) :
  ∃(L:Nat) (S':jK),zz [.ref n,.ref m] S=.ok (.ref L) S'/\jI S' L=some (Po.pl<|Po.o_ a b)/\S.length<=L/\ly S S':=by
 have g:l8 (S++[.qc<|Po.iv a]) S.length=some (Po.iv a):=Ho;obtain⟨j,k,T,e,f,kp⟩:=Sk (S:=S++[.qc<|Po.iv a]) (S1:=S++[.qc<|Po.iv a]) (x0:=.ref n) (x1:=.ref m) (x3:=.unb) (x4:=.unb) (src:=w9) (l:=b) (show w9 _ _=_ from mw (by dsimp[kg,bools])<|kM hm) (kM hm) g hl;have ln:=Po.qW b a;obtain⟨S',e2,h1,h2⟩:=QL f ();have d:ly S T:=(Kp.refl.lay (o:=.qc<|Po.iv a)).old kp λq hq _ z=>()
 refine⟨T.length+1,S',?_,by rw[h1,<- Po.Tr ha];rfl,by have:=d.len;lia,d.trans h2⟩;unfold zz G7 Gj;dsimp[kg,bools,mW,Nat.reduceAdd,Nat.reduceSub,BV,hn,Po.MY,Po.Ie,Po.Iw ha];rw[show lV w9 _ ES _ _=_ from e];dsimp[kg,bools,e2]
def Bm(f:Int×Int->A)(hf:∀p τ S,LV (f p) τ S=LV (Po.pA p) τ S){S:jK}{n:Nat}{a b:Pl}(hn:jI S n=some (a.map f))(hm:jI S m=some (Po.pl b))(hl:a.length * b.length<16777216)(ha:∀p∈a,p.2.natAbs<big)(hb:∀p∈b,p.2.natAbs<big) :
  ∃(L:Nat) (S':jK),tW [.ref n,.ref m] S=.ok (.ref L) S'/\jI S' L=some (Po.pl<|Po.times a b)/\S.length<=L/\ly S S':=by
 have j:l8 (S++[.qc []]) S.length=some []:=Ho;obtain⟨k,t,C,B,T,e,g,kp⟩:=GB f hf (S:=S++[.qc []]) (x3:=.unb) (x4:=.unb) (x5:=.unb) (x6:=.unb) (kM hn) (kM hm) j hl ha hb;have ln:=Po.qW (Po.Iq a b) [];rw[Po.C8,dB,cI]at ln;obtain⟨S',e2,h1,h2⟩:=QL g ();have d:ly S T:=(Kp.refl.lay (o:=.qc [])).old kp λq hq _ z=>()
 refine⟨T.length+1,S',?_,h1,by have:=d.len;lia,d.trans h2⟩;unfold tW C_ Cy;dsimp[kg,bools,mW,Nat.reduceAdd,Nat.reduceSub,Ln];rw[show lV Bx _ BK _ _=_ from e];dsimp[kg,bools,e2]
end K66
namespace K66
open PySem L2 Am
open Po (Pl Ok Bd)
open Su (Es At Vl)
def Wi{S:jK}{d r:Nat}{D:Es}{o:ag}{p:Pl}{k:Nat}(hd:jZ S d=some (D.map Su.kv))(hA:At S D)(hv:Vl k b D)(hr:jI S r=some (Po.pl p))(hl:D.length<16777216)(hk:k+p.length<16777216) :
  ∃(L:Nat) (S':jK),kL [.ref d,.tup<|o.map .int,.ref r] S=.ok .non S'/\jZ S' d=some ((Su.qY D o L<|Po.o_ (Su.vS (Su.sm D) o) p).map Su.kv)/\At S' (Su.qY D o L<|Po.o_ (Su.vS (Su.sm D) o) p)/\S.length<=L/\Kp (·=d) S S':=by
 obtain⟨x,ex,C⟩:=Su.get_or (o:=o) hd hA;have q:=hv.v o;obtain⟨L,S2,e2,h1,h2,t⟩:=Sq C (kM (o:=.lst []) hr) q.1 ();have g:ly S S2:=(Kp.refl.lay).trans t;have f:=g.dct _ _ (λz=>z) hd;have j:jZ (S++[.lst []]) d=some (D.map Su.kv):=Su.HA hd;refine⟨L,S2.set d<|.dct<|(Su.qY D o L<|Po.o_ (Su.vS (Su.sm D) o) p).map Su.kv,?_,Su.J9<|Su.tV f,?_,by simp at h2;lia,g.of0.qR<|.inl rfl⟩
 ·unfold kL sS sZ;have B:newL [] S=.ok (.ref S.length) (S++[.lst []]):=l_ (show 0<=16777216 by decide);dsimp[kg,bools,mW,Nat.reduceAdd,Nat.reduceSub,Su.S9,Su.Ug,hd,eY,B,Su.RW,j,ex,e2,Su.zd,Su.uF,f,pI<|show(D.map Su.kv).length<16777216 by rw[aG];exact hl,Su.PY (p:=Po.o_ (Su.vS (Su.sm D) o) p)]
 ·refine(Su.At.put (hA.wC g) h1).kp (Kp.refl.qR<|.inl rfl) λe F z=>?_
  rcases Su.vf F with y|y
  ·exact Su.nu hd (hA e y) z
  ·rw[y]at z;exact Su.nu f h1 z
def GJ{S:jK}{d:Nat}{D:Es}(hd:jZ S d=some (D.map Su.kv))(hA:At S D)(hne:∀e∈D,e.1≠[])(hl:D.length<=16777216) :
  ∃(n:Nat) (S':jK),oF [.ref d] S=.ok (.ref n) S'/\jI S' n=some ((Su.wG D λp=>!p.isEmpty).map Su.ent)/\At S' (Su.wG D λp=>!p.isEmpty)/\S.length<n/\ly S S':=by
 have j:=Su.Ot hd hne;obtain⟨n,S',e,h1,h2,h3,B⟩:=Su.Qz (cap:=[some 0]) (τ:=[.ref d]) (src:=mP<|kC (f1 DH)<|jH (jG 0)<|jR) (t:=sI<|jO sX (jG 1)<|jG 0) (e:=pL<|jH (jG 0)<|jH (jO sX (jG 1)<|jG 0)<|jR) hd hA (mw (by dsimp[kg,bools,j]) jX) (λp=>!p.isEmpty)
  (λo r q T f g z=>⟨T,by
   have k:A.Vc (.ref r) T=some (!q.isEmpty):=by
    show(jI T r).map _=_;rw[z]
    cases q<;>rfl
   dsimp[kg,bools,Su.A_,Su.zk,f,g,k],Kp.refl⟩)
  (λo r T f g=>by
   dsimp[kg,bools,Su.A_,Su.zk,f,g];exact pX<|show 2<=16777216 by decide) hl
 refine⟨n,S',?_,h1,h2,h3,B⟩;unfold oF zp Ad;dsimp[kg,bools,mW,Nat.reduceAdd,Nat.reduceSub,e]
def xE:Su.DK kL:=λh1 h2 h3 g f d=>Wi h1 h2 h3 g f d
open Po (Pl Ok Bd)
open Su (Es At Vl)
structure Sm (S:jK)(n:Nat)(es:Es):Prop where
 l:jI S n=some (es.map Su.ent)
 a:At S es
def Sm.kp{n:Nat}(h:Sm S n es)(k:ly S S'):Sm S' n es:=⟨k.lst _ _ (λz=>z) h.l,h.a.wC k⟩
def DY{a b:ag}(h:a.length=b.length):pB [.tup<|a.map .int,.tup<|b.map .int] S=.ok .non S:=by
 unfold pB ur uB;have:((a.length:Int) == (b.length:Int))=true:=by rw[h];exact bT _
 dsimp[kg,mz,bools,mW,Nat.reduceAdd,Nat.reduceSub,aG,this,bW]
def Bs{n:Nat}{xs:ae}(h:jI S n=some xs):A.Vc (.ref n) S=some (!xs.isEmpty):=by
 show(jI S n).map _=_;rw[h];rfl
def Cg{n N:Nat}{es fs:Es}(h:Sm S n es)(h':Sm S m fs)(h1:∀e∈es,e.1.length=N)(h2:∀e∈fs,e.1.length=N):pM [.ref n,.ref m] S=.ok .non S:=by
 unfold pM uT uA;dsimp[kg,mz,bools,mW,Nat.reduceAdd,Nat.reduceSub,Bs h.l,Bs h'.l]
 cases es with
 | nil=>dsimp[kg,mz,bools,fK,jn,bW]
 | cons e es=>cases fs with
  | nil=>dsimp[kg,mz,bools,fK,jn,bW,bI,jh,cV,Bs h'.l]
  | cons f fs=>
   have q:=DY (S:=S)<|(h1 e<|aO ..).trans (h2 f<|aO ..).symm;have g:=h.l;have d:=h'.l;rw[bI]at g d;dsimp[kg,mz,bools,bI,jh,cV,Bs d,g,d,xx,Su.ent,q]
def ixD{l:ag}{k:Nat}{i:Int}(h:i=k)(hk:k<l.length):t8 (l.map A.int) i=some (.int<|l.getD k 0):=C6 h<|by rw[aL,aI hk];rfl
def Td{l:ag}{k:Nat}:((l.map A.int).set (k-1)<|.int<|l.getD k 0).set k (.int<|l.getD (k-1) 0)=(Wd.ex l k).map A.int:=by
 unfold Wd.ex;rw[map_set,map_set]
def abf{f g:A->A->jK->R A}{ca cb cc:Ex}{a c:A}(h1:ca τ S=.ok a S)(h2:cb τ S=.ok b S)(h3:f a b S=.ok (.bl true) S)(h4:cc τ S=.ok c S):YF f g ca cb cc τ S=g b c S:=by
 unfold YF;rw[h1,R.mU,h2,R.mU,h3,R.mU];unfold kCh;show(cc τ S).bind _=_;rw[h4];rfl
def OS{i:Int}:nN [.int i] S=.ok (.bl true) S:=by
 unfold nN vZ vP;dsimp[kg,bools,mW,Nat.reduceAdd,Nat.reduceSub,show Lx .int "int" = some true from rfl,show Lx .int "bool" = some false from rfl,cV]
def aa8{n k:Int}(h1:1<=k)(h2:k<n):nB [.int n,.int k] S=.ok (.bl true) S:=by
 unfold nB rY r8;have c:YF aLe VO (eC<|.int 1) (jG 1) (jG 0) [.int n,.int k] S=.ok (.bl true) S:=by
  rw[abf (a:=.int 1) (b:=.int k) (c:=.int n) rfl rfl (by dsimp[kg,bg h1]) rfl];dsimp[kg,bg h2]
 dsimp[kg,bools,mW,Nat.reduceAdd,Nat.reduceSub,OS,c]
def HK{xs:ag}{k:Nat}(h1:1<=k)(h2:k<xs.length)(hl:xs.length<=1000):∃S',m9 [.tup<|xs.map .int,.int k] S=.ok (.tup<|(Wd.ex xs k).map .int) S'/\ly S S':=by
 have e1:=aa8 (S:=S) (n:=(xs.length:Int)) (k:=(k:Int)) () ();have q:t8 (xs.map A.int) (k:Int)=some (.int<|xs.getD k 0):=ixD rfl ();have p:t8 (xs.map A.int) ((k:Int)-1)=some (.int<|xs.getD (k-1) 0):=ixD (k:=k-1) () ();have j:EK xs.length ((k:Int)-1)=some (k-1):=zN () ();have d:EK xs.length (k:Int)=some k:=zN rfl ();have f:jI (S++[O.lst<|xs.map .int]) S.length=some (xs.map .int):=jX;have g:∀ys,jI ((S++[O.lst<|xs.map .int]).set S.length<|.lst ys) S.length=some ys:=λys=>oz (by simp);have e2:lE [.tup<|xs.map .int,.int k,.int<|(k:Int)+1] S=.ok (.tup<|(Wd.ex xs k).map .int) (((S++[O.lst<|xs.map .int]).set S.length<|.lst<|(xs.map A.int).set (k-1)<|.int<|xs.getD k 0).set S.length<|.lst<|(Wd.ex xs k).map .int):=by
  unfold lE nQ nP;dsimp[kg,bools,mW,Nat.reduceAdd,Nat.reduceSub,f,show(k:Int)+1-1=k by lia,q,p,oO<|show 2<=sizeLine by decide,oO<|show 2=2 from rfl,aG,j,g,bV,d,Td];rw[oz<|by simp];dsimp[kg,bools]
 unfold m9 uM u5;dsimp[kg,mz,bools,mW,Nat.reduceAdd,Nat.reduceSub,aG,e1,bW,e2];exact⟨_,rfl,((Kp.refl.lay).set<|.inr<|aK _).set<|.inr<|aK _⟩
def ixG{xs:ag}{i:Int}(h1:0<=i)(h2:i<xs.length):t8 (xs.map A.int) i=some (.int<|xs.getD i.toNat 0):=ixD (k:=i.toNat) () ()
abbrev fl (xs:ag)(n:Nat):ag:=(lU 1 (n:Int)).filter λk=>decide<|xs.getD (k-1).toNat 0>xs.getD k.toNat 0
def uD{S:jK}{n:Nat}{xs:ag}(hlen:xs.length=n)(h2:n<=20):l9 [.tup<|xs.map .int] S=.ok (.ref S.length) (S++[.lst<|(fl xs n).map .int]):=by
 have d:=zy (lo:=1) (hi:=(n:Int)) (cap:=[some 0]) (src:=vL (eC<|.int 1)<|kC (f1 su)<|jH (jG 0)<|jR) (t:=qm<|jO LU (jO nY (jG 1)<|jO aSub (jG 0)<|eC<|.int 1)<|jO nY (jG 1)<|jG 0) (e:=jG 0) (τ:=[.tup<|xs.map .int]) (S:=S) (S1:=S)
  (AB (S1:=S) (by dsimp[kg,bools]) (by dsimp[kg,bools,aG,hlen]) (qz () ())<|qz () ())
  (λk=>decide<|xs.getD (k-1).toNat 0>xs.getD k.toNat 0) (λk=>.int k) (λk h1 h2=>by
   have g:t8 (xs.map A.int) (k-1)=some (.int<|xs.getD (k-1).toNat 0):=ixG () ();have f:t8 (xs.map A.int) k=some (.int<|xs.getD k.toNat 0):=ixG () ();dsimp[kg,bools,g,f]) (λk _ _ _=>by dsimp[kg,bools]) ()
 unfold l9 CB Du;dsimp[kg,bools,mW,Nat.reduceAdd,Nat.reduceSub,d];rfl
theorem xm{t:Int}:∀(p:ag),Us S (.int t) (p.map .int)=some (decide<|t∈p)
 | []=>rfl
 | x::p=>by
  show(vJ S 12 (.int x)<|.int t).bind (λa=>(Us S (.int t)<|p.map .int).map λb=>a || b)=_;rw[xm p];show some ((x == t) || decide (t∈p))=_;by_cases c:x=t
  ·subst c;rw[bT,bg (show x∈x::p from aO ..)];rfl
  ·rw[cZ.mpr c];congr 1;rw[fY,eK];constructor
   ·exact λz=>aQ _ z
   ·intro z
    rcases bF.mp z with z|z
    ·exact absurd z.symm c
    ·exact z
open Po (Pl Ok Bd)
open Su (Es At Vl AF)
def I_{o:ag}{N k:Nat}(hl:o.length=N)(h1:1<=k)(h2:k<N):decide ((k:Int)∈fl o N)=Su.sM o k:=by
 unfold fl Su.sM;rw[eK,cg,EH,g_,show((k:Int)-1).toNat=k-1 by lia,fm];constructor
 ·exact λh=>h.2
 ·exact λh=>⟨⟨(),()⟩,h⟩
def RI{S:jK}{n N k:Nat}{es:Es}(h:Sm S n es)(h1:∀e∈es,e.1.length=N/\2 * e.2.2.length<=j/\∀p∈e.2.2,p.2.natAbs<big)(k1:1<=k)(k2:k<N)(hN:N<=20)(hl:(2 * es.length+2) * j<16777216)(hl':es.length<=100000) :
  ∃(L:Nat) (S':jK) (rs:Es),mR [.ref n,.int k] S=.ok (.ref L) S'/\Sm S' L rs/\Su.sm rs=Su.bx k (Su.sm es)/\(∀e∈rs,Ok e.2.2/\e.2.2≠[]/\e.2.2.length<=2 * es.length * j/\S.length<=e.2.1/\e.2.1<L)/\Su.Ap rs/\rs.length<=2 * es.length/\S.length<=L/\ly S S':=by
 have k0:ly S (S++[.dct []]):=Kp.refl.lay;obtain⟨y3,y4,xs,D,T,hz,e1,f,kp⟩:=Su.F2 (w:=2) (j:=j) (b:=S.length) (i0:=0) (S:=S++[.dct []]) (S1:=S++[.dct []]) (d:=S.length) (n:=n) (es:=es) (src:=nE) (c:=mO) (g:=yC 2<|qa (j_ 3)<|qa (j_ 4)<|yw) (λy z _=>[.ref n,.int k,.ref S.length,y,z]) (λ_=>True) (Su.gX k) (λ_ _ _ _ _=>rfl) (x3:=.unb) (x4:=.unb) (xs0:=[]) trivial
  (show nE _ _=_ from mw (by dsimp[kg,bools])<|kM h.l) (kM h.l) (Su.Fil.new Su.o8) λi e T Q D xs hi G _ K f=>by
   obtain⟨P,b2,b3⟩:=h1 e G;have tl:=K.len;have hm:2 * i+2<=2 * es.length:=()
   have hm2:(2 * i+2) * j<=(2 * es.length) * j:=cQ _ hm;have hm3:(2 * es.length+2) * j=2 * es.length * j+2 * j:=by rw[jE]
   have hm4:(2 * i+2) * j=(2 * i+1) * j+j:=fL _ _;have hm5:(2 * i+1) * j=2 * i * j+j:=fL _ _;rw[aW]at tl;obtain⟨T0,e0,M⟩:=HK (S:=T) (xs:=e.1) (k:=k) k1 () ();have aT:=((h.a.wC k0).Le K Su.o8).wC M;have f0:=f.wC M;have qtl:=M.len;rw[cI]at f0;have Y:Wd.ex e.1 k≠[]:=λz=>by have:=Wd.CH e.1 k;rw[z]at this;simp at this;lia
   obtain⟨D1,T1,e1,f1,B⟩:=f0.add xE (o:=Wd.ex e.1 k) (aT e G) () Y () () ();have k1l:=B.len;have W:=uD (S:=T1) (xs:=e.1) (n:=N) P hN;have t:DZ false (.int k) (.ref T1.length) (T1++[.lst<|(fl e.1 N).map .int])=.ok (.bl<|Su.sM e.1 k) (T1++[.lst<|(fl e.1 N).map .int]):=by
    show opt (jI _ _) _=_;rw[jX,jY,xm,I_ P k1 k2];rfl
   have F:ly T1 (T1++[.lst<|(fl e.1 N).map .int]):=Kp.refl.lay;obtain⟨U,hU⟩:∃U,U=T1++[O.lst<|(fl e.1 N).map .int]:=⟨_,rfl⟩;rw[<- hU]at t F W;have fU:=f1.wC F;have J:Kp (·=S.length) T U:=(M.of0.trans B).trans F.of0
   cases hf:Su.sM e.1 k with
   | false=>
    refine⟨D1,U,[],trivial,?_,?_,J⟩
    ·rw[hf]at t;unfold mO;dsimp[kg,mz,bools,e0,e1,W,t]
    ·rw[cI];unfold Su.gX;rw[hf,aM<|by simp];exact fU.mono ()
   | true=>
    have aU:=(aT.Le B f0.dd).wC F;have n0:jI (U++[.lst<|AF.map kA]) U.length=some (AF.map kA):=jX;obtain⟨L,T2,e2,l1,l2,V⟩:=Bm kA (λ_ _ _=>rfl) n0 (kM (o:=.lst<|AF.map kA)<|aU e G) (show 2 * e.2.2.length<16777216 by lia) (λp hp=>by
     rw[yL]
     rcases bF.mp hp with z|z
     ·rw[z];exact show 1<2 ^ 4096 by decide +kernel
     ·rw[aP.mp z];exact show 1<2 ^ 4096 by decide +kernel) b3
    have C:ly U T2:=(Kp.refl.lay).trans V;have tl2:=C.len;have tle:=F.len;obtain⟨D2,T3,e3,f3,Z⟩:=(fU.wC C).add xE (o:=e.1) l1 (bH (Su.BY _ _)<|show 2 * e.2.2.length<=j from b2) (λz=>by rw[z]at P;simp at P;lia) () () ();refine⟨D2,T3,[],trivial,?_,?_,(J.trans C.of0).trans Z⟩
    ·rw[hf]at t;unfold mO;dsimp[kg,mz,bools,e0,e1,W,t];rw[show[((-1:Int),(1:Int)),((1:Int),(-1:Int))].map kA=AF.map kA from rfl];dsimp[kg,mz,bools,e2,e3]
    ·rw[cI];unfold Su.gX;rw[hf,aN rfl];exact f3
 have K:ly S T:=k0.old kp λq hq _ z=>()
 have fl:=f.ll;rw[cI]at fl;obtain⟨L,S',e2,r1,r2,r3,r4⟩:=GJ f.dd f.aa f.kk ();have tl:=K.len;have fs:=f.ss;rw[Su.IB]at fs;refine⟨L,S',_,?_,⟨r1,r2⟩,by rw[Su.C9,fs];rfl,λe G=>?_,f.pw.out _,?_,(),K.trans r4⟩
 ·unfold mR sd r6;dsimp[kg,mz,bools,mW,Nat.reduceAdd,Nat.reduceSub,Su.xC];rw[show lV nE _ mO _ _=_ from e1];dsimp[kg,mz,bools,e2]
 ·obtain⟨m1,m2⟩:=Su.DX G;obtain⟨v1,v2,v3⟩:=f.vv e m1;have lt:=lB<|f.aa e m1;rw[cI]at v2;exact⟨v1,λz=>(by rw[z]at m2;cases m2),v2,v3,()⟩
 ·unfold Su.wG;rw[aG];refine bH (cM _ _) ?_;rw[(j8 _).length_eq,aG];exact fl
end K66
namespace K66
open PySem L2 Am
open Po (Pl Ok Bd)
open Su (Es At Vl AF)
open He (Sz)
open Fw (rg)
def Sm.Le{n d:Nat}(h:Sm S n es)(k:Kp (·=d) S S')(hd:jZ S d=some kvs):Sm S' n es:=⟨k.lst _ _ (λz=>Su.nu hd h.l z.symm) h.l,h.a.Le k hd⟩
def oS{N:Nat}{o:ag}(h:o.Perm<|rg N):o.length=N:=by rw[h.length_eq,Wd.m_]
def pS{es:Es}{l:Su.Ps}(h:Su.sm es=l){e:Su.En}(he:e∈es):(e.1,e.2.2)∈l:=by rw[<- h];exact bu.mpr ⟨e,he,rfl⟩
structure Kn (N:Nat)(Φ:ag->Su.Ps)(T:jK)(d:Nat)(K:Es):Prop where
 dd:jZ T d=some (K.map Su.kv)
 gd:Su.Gd (Su.sm K)
 pm:∀e∈K,e.1.Perm (rg N)
 at_:∀e∈K,∃es:Es,Sm T e.2.1 es/\Su.sm es=Φ e.1
def Kn.wC{N d:Nat}{Φ:ag->Su.Ps}{K:Es}(h:Kn N Φ T d K)(k:ly T T'):Kn N Φ T' d K:=⟨k.dct _ _ (λz=>z) h.dd,h.gd,h.pm,λe f=>by obtain⟨es,a,b⟩:=h.at_ e f;exact⟨es,a.kp k,b⟩⟩
def Kn.many{N d:Nat}{Φ:ag->Su.Ps}{K:Es}(hN:N<6)(h:Kn N Φ T d K):K.length<=120:=by
 have:=He.many hN h.gd.nd λo j=>by
  obtain⟨e,g,rfl⟩:=bu.mp j;obtain⟨f,hf,rfl⟩:=bu.mp g;exact h.pm f hf
 rwa [aG,Su.Ac]at this
def XR:Ok []:=⟨List.Pairwise.nil,nofun⟩
def Kn.put{N d r:Nat}{Φ:ag->Su.Ps}{K:Es}{o:ag}(hN:N<6)(h:Kn N Φ T d K)(po:o.Perm<|rg N)(hr:Sm T r es)(he:Su.sm es=Φ o) :
  ∃T' K',qd (.ref d) (.tup<|o.map .int) (.ref r) T=.ok Unit.unit T'/\Kn N Φ T' d K'/\sX (.ref d) (.tup<|o.map .int) T'=.ok (.ref r) T'/\Sm T' r es/\Kp (·=d) T T':=by
 have k:Kp (·=d) T (T.set d<|.dct<|(Su.qY K o r []).map Su.kv):=Kp.refl.qR<|.inl rfl;have dd:jZ (T.set d<|.dct<|(Su.qY K o r []).map Su.kv) d=some ((Su.qY K o r []).map Su.kv):=Su.J9<|Su.tV h.dd;obtain⟨e,e1,e2⟩:=Su.KL (D:=K) (o:=o) (r:=r) (p:=[]);have g:=h.many hN;refine⟨_,Su.qY K o r [],?_,⟨dd,?_,λe he=>?_,λe f=>?_⟩,?_,hr.Le k h.dd,k⟩
 ·rw[Su.uF,h.dd,jY,Su.PY (p:=[])];exact pI (show(K.map Su.kv).length<16777216 by rw[aG];lia)
 ·rw[Su.MS];exact h.gd.put XR
 ·rcases Su.vf he with z|z
  ·exact h.pm e z
  ·rw[z];exact po
 ·rcases Su.vf f with z|z
  ·obtain⟨fs,a,b⟩:=h.at_ e z;exact⟨fs,a.Le k h.dd,b⟩
  ·rw[z];exact⟨es,hr.Le k h.dd,he⟩
 ·rw[Su.zk,dd,jY,Su.vA,e1,eY,jY,e2]
def QO{d:Nat}{o:ag}:Lr true (.tup<|o.map .int) (.ref d) S=opt (jZ S d) λkvs=>.ok (.bl<|!(kN kvs o).isSome) S:=by
 show opt (jZ S d) (λkvs=>opt (A.ints<|o.map .int) λf=>_)=_;rw[ints_map];rfl
open Po (Pl Ok Bd)
open Su (Es At Vl)
open He (Sz)
structure Nw (b L:Nat)(rs:Es):Prop where
 ap:Su.Ap rs
 nw:∀e∈rs,b<=e.2.1/\e.2.1<L
def Wq{S:jK}{n N P c:Nat}{fs:Es}(hN:N<6)(h0:1<=N)(h:Sm S n es)(h':Sm S m fs)(hz:Sz N P C<|Su.sm es)(hz':Sz N P c<|Su.sm fs)(hP:P<=10000) :
  ∃(L:Nat) (S':jK) (rs:Es),sW [.ref n,.ref m] S=.ok (.ref L) S'/\Sm S' L rs/\Su.sm rs=He.zG (Su.sm es) (Su.sm fs)/\Nw S.length L rs/\S.length<=L/\ly S S':=by
 have K:=Cg h h' (λe g=>oS<|hz.pm _<|pS rfl g) λe g=>oS<|hz'.pm _<|pS rfl g;have k:=hz.many hN;have F:=hz'.many hN;rw[Su.Ac]at k F;have W:(es++fs).length=es.length+fs.length:=aW ..;have U:jI (S++[.dct []]) n=some (es.map Su.ent):=kM h.l;have M:jI (S++[.dct []]) m=some (fs.map Su.ent):=kM h'.l;have G:=Uu U M (by rw[aG,aG];lia);rw[<- bC]at G;have p:ly S (S++[.dct []]++[.lst<|(es++fs).map Su.ent]):=Kp.refl.lay.lay;have J:∀e∈es++fs,e.2.2.length<=2 * P+1/\e.1≠[]:=λe g=>by
  have:e.1.length=N/\e.2.2.length<=2 * P+1:=(bq.mp g).elim (λz=>⟨oS<|hz.pm _<|pS rfl z,(hz.pb<|pS rfl z).2⟩) λz=>⟨oS<|hz'.pm _<|pS rfl z,(hz'.pb<|pS rfl z).2⟩;exact⟨this.2,λz=>by rw[z]at this;have:=this.1;simp at this;lia⟩
 obtain⟨j,t⟩:∃j,j=2 * P+1:=⟨_,rfl⟩;rw[<- t]at J;have hb:(0+(es++fs).length) * j+j<16777216:=by
  have:(0+(es++fs).length) * j<=240 * j:=cQ _ ()
  lia
 obtain⟨Y,Z,D,T,e1,f,kp⟩:=Su.Q4 xE (j:=j) (b:=S.length) (i0:=0) (S:=S++[.dct []]) (S1:=S++[.dct []]++[.lst<|(es++fs).map Su.ent]) (d:=S.length) (x0:=.ref n) (x1:=.ref m) (x3:=.unb) (x4:=.unb) (xs:=[]) (src:=vt) (es:=es++fs)
  (show vt _ _=_ from mw (by dsimp[kg,bools,G]) jX) jX ((h.a.app h'.a).wC p) (Su.Fil.new<|Su.HA Su.o8) p.len J hb ()
 have B:ly S T:=p.old kp λq hq _ z=>()
 have fl:=f.ll;obtain⟨L,S',e2,r1,r2,r3,O⟩:=GJ f.dd f.aa f.kk ();have tl:=B.len;refine⟨L,S',_,?_,⟨r1,r2⟩,by rw[Su.C9,f.ss,Su.GU];rfl,⟨f.pw.out _,λe g=>?_⟩,(),B.trans O⟩
 ·unfold sW Cj Cs;dsimp[kg,mz,bools,mW,Nat.reduceAdd,Nat.reduceSub,K,Su.xC];rw[show lV vt _ BU _ _=_ from e1];dsimp[kg,mz,bools,e2]
 ·obtain⟨k,F⟩:=Su.DX g;obtain⟨v1,v2,V⟩:=f.vv e k;have lt:=lB<|f.aa e k;exact⟨V,()⟩
abbrev Sn (N P C:Nat)(S:jK)(n:Nat)(l:Su.Ps):Prop:=Sz N P C l/\∃es,Sm S n es/\Su.sm es=l
def Sn.kp{N P n:Nat}{l:Su.Ps}(h:Sn N P C S n l)(k:ly S S'):Sn N P C S' n l:=by
 obtain⟨a,es,b,c⟩:=h;exact⟨a,es,b.kp k,c⟩
def Sn.add{N P c n:Nat}{l k:Su.Ps}(h:Sn N P C S n l)(h':Sn N P c S m k)(hN:N<6)(h0:1<=N)(hP:P<=10000) :
  ∃(L:Nat) (S':jK),sW [.ref n,.ref m] S=.ok (.ref L) S'/\Sn N P (C+c) S' L (He.zG l k)/\ly S S':=by
 obtain⟨a,es,b,rfl⟩:=h;obtain⟨d,fs,p,rfl⟩:=h';obtain⟨L,S',g,e1,j,q,_,_,f⟩:=Wq hN h0 b p a d hP;exact⟨L,S',e1,⟨a.sum d,g,j,q⟩,f⟩
def Sn.mono{N P n:Nat}{l:Su.Ps}(h:Sn N P C S n l)(hp:P<=P')(hc:C<=C'):Sn N P' C' S n l:=⟨h.1.mono hp hc,h.2⟩
end K66
namespace K66
open PySem L2 Am
open Po (Pl Ok Bd)
open Su (Es At Vl AF)
open He (Sz PB)
open Fw (rg)
def Rl{S:jK}{n N P c:Nat}{q:Pl}(f:Int×Int->A)(hf:∀p τ S,LV (f p) τ S=LV (Po.pA p) τ S)(hN:N<6)(h0:1<=N)(h:Sm S n es)(hz:Sz N P C<|Su.sm es)(hq:jI S m=some (q.map f))(pq:PB Q c q)(lq:q.length<=2)(hP:P<=1000)(hC:C<big)(hc:c<big) :
  ∃(L:Nat) (S':jK) (rs:Es),qU [.ref m,.ref n] S=.ok (.ref L) S'/\Sm S' L rs/\Su.sm rs=He.F5 q (Su.sm es)/\S.length<=L/\ly S S':=by
 have K:ly S (S++[.dct []]):=Kp.refl.lay;have m1:=hz.many hN;rw[Su.Ac]at m1;obtain⟨j,hj⟩:∃j,j=2 * (2 * P+1):=⟨_,rfl⟩;obtain⟨y3,y4,_,D,T,_,e1,k,kp⟩:=Su.F2 (w:=1) (j:=j) (b:=S.length) (i0:=0) (S:=S++[.dct []]) (S1:=S++[.dct []]) (d:=S.length) (n:=n) (es:=es) (src:=sU) (c:=t6) (g:=yC 2<|qa (j_ 3)<|qa (j_ 4) yw) (λy z _=>[.ref m,.ref n,.ref S.length,y,z]) (λ_=>True) (λe Q=>Su.Ar Q e.1<|Po.times q e.2.2) (λ_ _ _ _ _=>rfl) (x3:=.unb) (x4:=.unb) (xs0:=[]) trivial
  (show sU _ _=_ from mw (by dsimp[kg,bools])<|kM h.l) (kM h.l) (Su.Fil.new Su.o8) λi e T Q1 D xs hi G _ t J=>by
   have b:=hz.pb<|pS rfl G;have M:=t.len;rw[aW]at M;rw[cI,gg]at J;rw[cI,gg];have hm1:i * j<=120 * j:=cQ _ ();have W:e.2.2.length<=2 * P+1:=b.2;have ll:q.length * e.2.2.length<=j:=by rw[hj];exact jD lq W
   obtain⟨L,T1,U,V,l2,B⟩:=Bm f hf (t.lst _ _ (λz=>Su.nu (Su.o8 (S:=S) (xs:=[])) (kM (o:=.dct []) hq) z.symm)<|kM hq) (((h.a.wC K).Le t Su.o8) e G) () (λp F=>fQ (pq.c p F) hc) λp F=>fQ (b.1.c p F) hC;have k1l:=B.len;obtain⟨D',T',O,f',Y⟩:=(J.wC B).add xE (o:=e.1) V (bH (Su.BY _ _) ll) (λz=>by
    have:=oS<|hz.pm _<|pS rfl G;rw[show((e.1,e.2.2):ag×Pl).1=e.1 from rfl,z]at this;simp at this;lia) () () ()
   exact⟨D',T',[],trivial,by unfold t6;dsimp[kg,bools,U,O],f',B.of0.trans Y⟩
 rw[cI,gg,Su.KU]at k;have t:ly S T:=K.old kp λq hq _ z=>()
 have fl:=k.ll;obtain⟨L,S',e2,r1,r2,r3,Z⟩:=GJ k.dd k.aa k.kk ();have M:=t.len;refine⟨L,S',_,?_,⟨r1,r2⟩,by rw[Su.C9,k.ss];rfl,(),t.trans Z⟩;unfold qU zC zP;dsimp[kg,bools,mW,Nat.reduceAdd,Nat.reduceSub,Su.xC];rw[show lV sU _ t6 _ _=_ from e1];dsimp[kg,bools,e2]
def Sn.X9{N P c n:Nat}{l:Su.Ps}{q:Pl}(h:Sn N P C S n l)(f:Int×Int->A)(hf:∀p τ S,LV (f p) τ S=LV (Po.pA p) τ S)(hN:N<6)(h0:1<=N)(hq:jI S m=some (q.map f))(pq:PB Q c q)(lq:q.length<=2)(hP:P<=1000)(hC:C<big)(hc:c<big) :
  ∃(L:Nat) (S':jK),qU [.ref m,.ref n] S=.ok (.ref L) S'/\Sn N (P+Q) (q.length * (c * C)) S' L (He.F5 q l)/\ly S S':=by
 obtain⟨z,es,s,rfl⟩:=h;obtain⟨L,S',g,e1,j,k,_,d⟩:=Rl f hf hN h0 s z hq pq lq hP hC hc;exact⟨L,S',e1,⟨z.F5 pq,g,j,k⟩,d⟩
end K66
namespace Kl
open Su Po He
open Fw (rg)
def WC{n k:Nat}{o:ag}(p:o.Perm<|rg n)(h0:1<=k)(h1:k<n):sM (Wd.ex o k) k=!sM o k:=by
 have d:o.length=n:=by rw[p.length_eq,Wd.m_]
 have ne:=Fw.Q8 p h0 ();unfold Su.sM;rw[Fw.Vj h0 (),Fw.Vk h0 (),<- decide_not];exact eK.mpr ⟨λz=>(),λz=>()⟩
theorem JZ:∀(l:ag),2 * Iv.inv l<=l.length * (l.length-1)
 | []=>aK _
 | x::l=>by
  have h1:l.countP (λy=>decide<|y<x)<=l.length:=List.countP_le_length;have h2:=JZ l;show 2 * (l.countP (λy=>decide<|y<x)+Iv.inv l)<=(l.length+1) * l.length
  cases d:l.length with
  | zero=>rw[d]at h1 h2;lia
  | succ m=>
   rw[d]at h1 h2;have:(m+1) * (m+1-1)+2 * (m+1)=(m+1+1) * (m+1):=by
    rw[Nat.add_sub_cancel,jE (m+1) 1<|m+1,gg,Nat.mul_add (m+1) m 1];lia
   lia
abbrev step (k:Nat)(low:ag->Ps)(told:Ps)(e:ag×Pl):Ps:=if val e.2 1≠0/\sM e.1 k=true then zG told (F5 [(0,-val e.2 1)]<|low e.1)else told
abbrev first (k:Nat)(less:Ps):Ps:=zG (Su.bx k less)<|F5 [(1,1)] less
abbrev kp:Nat->ag->Ps
 | 0,_=>[]
 | f+1,w=>match ff w with
  | none=>[(w,[(0,1)])]
  | some k=>(kp f<|Wd.ex w k).foldl (step k<|kp f)<|first k (kp f<|Wd.ex w k)
abbrev Lo (n:Nat)(w o:ag):Prop:=o.Perm (rg n)/\(o=w\/Iv.inv o<Iv.inv w)
def Lo.le{n:Nat}{w:ag}(h:Lo n w o):Iv.inv o<=Iv.inv w:=by
 rcases h.2 with z|z
 ·rw[z];exact aK _
 ·exact dR z
def BI{P:ag->Prop}{l m:Ps}(h:∀e∈l,P e.1)(h':∀e∈m,P e.1):∀e∈zG l m,P e.1:=
 sD (qx (P:=P) _ (nofun) λx d=>(bq.mp d).elim (h x)<|h' x)
def Ed{P:ag->Prop}{p:Pl}{l:Ps}(h:∀e∈l,P e.1):∀e∈F5 p l,P e.1:=
 sD (qx (P:=P) _ (nofun) λx f=>by
  obtain⟨e,d,rfl⟩:=bu.mp f;exact h e d)
def RE{P:ag->Prop}{k:Nat}{l:Ps}(h:∀e∈l,P e.1/\P (Wd.ex e.1 k)):∀e∈Su.bx k l,P e.1:=
 sD (qx (P:=P) _ (nofun) λx d=>by
  obtain⟨e,f,d⟩:=iI.mp d
  rcases bF.mp d with z|z
  ·rw[z];exact(h e f).2
  ·split at z
   ·rw[aP.mp z];exact(h e f).1
   ·exact nomatch z)
theorem BG{P:ag->Prop}{k:Nat}{low:ag->Ps}:∀{less told:Ps},(∀e∈told,P e.1)->(∀e∈less,∀g∈low e.1,P g.1)->∀e∈less.foldl (step k low) told,P e.1
 | [],_,h,_=>h
 | x::xs,told,h,h'=>BG (less:=xs) (by
   unfold step;split
   ·exact BI h (Ed λg hg=>h' x (aO ..) g hg)
   ·exact h) λe d=>h' e<|aQ _ d
structure Dn (n:Nat)(w:ag)(k:Nat):Prop where
 h0:1<=k
 h1:k<n
 fw:sM w k=true
 pe:(Wd.ex w k).Perm (rg n)
 iv:Iv.inv w=Iv.inv (Wd.ex w k)+1
 ee:Wd.ex (Wd.ex w k) k=w
 fe:sM (Wd.ex w k) k=false
def E7{n:Nat}{w:ag}{k:Nat}(pw:w.Perm<|rg n)(h:ff w=some k):Dn n w k:=by
 obtain⟨a,b,c⟩:=Rg h;have d:w.length=n:=by rw[pw.length_eq,Wd.m_]
 refine⟨a,(),c,E4 pw a (),Fw.Mw a b (by have:=bY c;lia),Fw.N2 a b,?_⟩;rw[WC pw a (),c];rfl
def Pj{n k:Nat}{w:ag}(d:Dn n w k)(h:Lo n (Wd.ex w k) o):Lo n w o:=⟨h.1,.inr (by have:=h.le;have:=d.iv;lia)⟩
def ZL{n k:Nat}{w:ag}(d:Dn n w k)(h:Lo n (Wd.ex w k) o):Lo n w (Wd.ex o k):=by
 refine⟨E4 h.1 d.h0 d.h1,?_⟩;have f:o.length=n:=by rw[h.1.length_eq,Wd.m_]
 rcases h.2 with z|z
 ·exact .inl (by rw[z];exact d.ee)
 ·have:=Fw.Sy (l:=o) d.h0 (by have:=d.h1;lia);have:=d.iv;exact .inr ()
def Y3{n:Nat}{w:ag}(h:Lo n w o)(h':Lo n o u):Lo n w u:=⟨h'.1,by
 rcases h'.2 with z|z
 ·rw[z];exact h.2
 ·exact .inr (by have:=h.le;lia)⟩
theorem wO{n:Nat}:∀(f:Nat) {w:ag},w.Perm (rg n)->∀e∈kp f w,Lo n w e.1
 | 0,_,_,e,j=>nomatch j
 | f+1,w,pw,e,j=>by
  revert e;unfold kp;split
  ·intro e j;rw[aP.mp j];exact⟨pw,.inl rfl⟩
  ·rename_i k q;have d:=E7 pw q;have p:=wO f d.pe;exact BG (BI (RE λe j=>⟨Pj d<|p e j,ZL d<|p e j⟩)<|Ed λe j=>Pj d<|p e j) λe j g hg=>Y3 (Pj d<|p e j)<|wO f (p e j).1 g hg
theorem fold_congr{k:Nat}{low low':ag->Ps}:∀{less told:Ps},(∀e∈less,low e.1=low' e.1)->less.foldl (step k low) told=less.foldl (step k low') told
 | [],_,_=>rfl
 | x::xs,told,h=>by
  rw[dH,dH,show step k low told x=step k low' told x from by unfold step;rw[h x<|aO ..]];exact fold_congr λe d=>h e<|aQ _ d
theorem M4{n:Nat}:∀(f g:Nat) {w:ag},w.Perm (rg n)->Iv.inv w<f->Iv.inv w<g->kp f w=kp g w
 | 0,_,_,_,h,_=>absurd h (fR _)
 | f+1,0,_,_,_,h=>absurd h (fR _)
 | f+1,g+1,w,pw,h,h'=>by
  unfold kp;split
  ·rfl
  ·rename_i k p;have d:=E7 pw p;have iv:=d.iv;rw[M4 f g d.pe () ()];exact fold_congr λe j=>by
    have l:=wO g d.pe e j;have:=l.le;exact M4 f g l.1 () ()
abbrev K (w:ag):Ps:=kp (Iv.inv w+1) w
def MW{w:ag}(h:ff w=none):K w=[(w,[(0,1)])]:=by
 unfold K kp;rw[h]
def M7{n k:Nat}{w:ag}(pw:w.Perm<|rg n)(h:ff w=some k):K w=(K<|Wd.ex w k).foldl (step k K) (first k (K<|Wd.ex w k)):=by
 have d:=E7 pw h;have iv:=d.iv;show kp (Iv.inv w+1) w=_;unfold kp;rw[h];show(kp (Iv.inv w)<|Wd.ex w k).foldl (step k<|kp<|Iv.inv w) _=_;rw[show kp (Iv.inv w) (Wd.ex w k)=K (Wd.ex w k)from by unfold K;rw[iv]];exact fold_congr λe f=>by
  have l:=wO _ d.pe e f;have:=l.le;exact M4 _ _ l.1 () ()
def MZ{n:Nat}{w:ag}(pw:w.Perm<|rg n):∀e∈K w,Lo n w e.1:=wO _ pw
abbrev Cb:Nat->Nat
 | 0=>1
 | 1=>124
 | i+2=>4 * Cb (i+1)+120 * (Cb (i+1) * Cb i)
def JC:∀i,4 * Cb i+120 * (Cb i * Cb (i-1))<=Cb (i+1)
 | 0=>by decide
 | i+1=>aK _
theorem yW:∀{j:Nat},i<=j->Cb i<=Cb j
 | 0,h=>by rw[Nat.le_zero.mp h];exact aK _
 | j+1,h=>by
  rcases Nat.lt_or_ge j i with z|z
  ·rw[show i=j+1 by lia];exact aK _
  ·have:=yW z;have:=JC j
   lia
def Vm{P:Nat}{p:Pl}(h:PB P C p)(t:Int):(val p t).natAbs<=C:=by
 unfold val
 cases hf:p.find? λq=>decide (q.1=t)with
 | none=>exact bK _
 | some q=>exact h.c q<|dg hf
def Se{n P A B L k:Nat}{low:ag->Ps}{e:ag×Pl}(h:Sz n P A told)(hl:sM e.1 k=true->Sz n P L (low e.1))(hb:(val e.2 1).natAbs<=B):Sz n P (A+B * L) (step k low told e):=by
 unfold step;split
 ·rename_i z;have:=(hl z.2).F5 (p:=[(0,-val e.2 1)]) (Q:=0) (c:=B) ⟨λq hq=>by rw[aP.mp hq];show(-val e.2 1).natAbs<=B;rw[Int.natAbs_neg];exact hb,λq hq=>by rw[aP.mp hq];exact aK _⟩;exact(h.sum this).mono (aK _) (by show A+1 * (B * L)<=_;lia)
 ·exact h.mono (aK _)<|iH _ _
theorem JS{n P B L k:Nat}{low:ag->Ps}:∀{less told:Ps}{A:Nat},Sz n P A told->(∀e∈less,sM e.1 k=true->Sz n P L (low e.1))->(∀e∈less,(val e.2 1).natAbs<=B)->Sz n P (A+less.length * (B * L)) (less.foldl (step k low) told)
 | [],_,_,h,_,_=>h.mono (aK _) (iH _ _)
 | x::xs,told,A,h,hl,hb=>by
  have:=JS (less:=xs) (Se (e:=x) h (hl x<|aO ..)<|hb x<|aO ..) (λe d=>hl e<|aQ _ d) λe d=>hb e<|aQ _ d;exact this.mono (aK _)<|by rw[bG,fL];lia
def Qt{n P k:Nat}{l:Ps}(h:Sz n P C l)(h0:1<=k)(h1:k<n):Sz n (P+1) (4 * C) (first k l):=by
 have:=h.F5 (p:=[(1,1)]) (Q:=1) (c:=1) ⟨λq hq=>by rw[aP.mp hq];exact aK _,λq hq=>by rw[aP.mp hq];exact aK _⟩;exact((h.bx h0 h1).sum this).mono (aK _) (by show 3 * C+1 * (1 * C)<=_;lia)
def VZ{n:Nat}{w:ag}(pw:w.Perm<|rg n):Sz n 0 1 [(w,[(0,1)])]:=by
 refine Sz.of (Ww w WL λz=>nomatch z) (λx f=>by rw[aP.mp f];exact pw) λe d=>by
  rw[aP.mp d];exact⟨λq hq=>by rw[aP.mp hq];exact aK _,λq hq=>by rw[aP.mp hq];exact aK _⟩
def abr{n:Nat}(hn:n<6)(i:Nat):∀{w:ag},w.Perm (rg n)->Iv.inv w=i->Sz n i (Cb i) (K w):=by
 induction i using Nat.strongRecOn with
 | ind i p=>
  intro w f C
  cases hf:ff w with
  | none=>rw[MW hf];exact(VZ f).mono (bK _) (yW (i:=0)<|bK _)
  | some k=>
   have d:=E7 f hf;have iv:=d.iv;obtain⟨j,rfl⟩:∃j,i=j+1:=⟨Iv.inv<|Wd.ex w k,()⟩;have t:Iv.inv (Wd.ex w k)=j:=()
   have z:=p j () d.pe t;have m:=z.many hn;rw[M7 f hf];refine(JS (Qt z d.h0 d.h1) (L:=Cb<|j-1) (B:=Cb j) (λe g fe=>?_) λe g=>Vm (z.pb g).1 1).mono (aK _) (bH ?_<|JC j)
   ·have l:=MZ d.pe e g;have:Iv.inv e.1<j:=by
     rcases l.2 with q|q
     ·rw[q,d.fe]at fe;exact nomatch fe
     ·lia
    exact(p (Iv.inv e.1) () l.1 rfl).mono () (yW ())
   ·exact Nat.add_le_add_left (cQ _ m) _
def WU{n:Nat}(hn:n<6){w:ag}(pw:w.Perm<|rg n):Sz n 10 (Cb 10) (K w):=by
 have:=JZ w;have d:w.length=n:=by rw[pw.length_eq,Wd.m_]
 have:Iv.inv w<=10:=by
  rw[d]at this;have:n * (n-1)<=5 * 4:=jD () ()
  lia
 exact(abr hn _ pw rfl).mono this (yW this)
end Kl
namespace K66
open PySem L2 Am
def Sn.bx{N P n k:Nat}{l:Su.Ps}(h:Sn N P C S n l)(hN:N<6)(k1:1<=k)(k2:k<N)(hP:P<=1000)(hC:C<big) :
  ∃(L:Nat) (S':jK),mR [.ref n,.int k] S=.ok (.ref L) S'/\Sn N (P+1) (3 * C) S' L (Su.bx k l)/\ly S S':=by
 obtain⟨z,es,s,rfl⟩:=h;have J:=z.many hN;rw[Su.Ac]at J;obtain⟨L,g,d,F,G,B,_,_,_,_,q⟩:=RI (j:=2 * (2 * P+1)) s (k:=k) (N:=N) (λe f=>by
  have b:=z.pb<|pS rfl f;exact⟨oS<|z.pm _<|pS rfl f,by have:=b.2;show 2 * e.2.2.length<=_;exact Nat.mul_le_mul_left _ this,λp t=>fQ (b.1.c p t) hC⟩) k1 k2 () (by
   have:(2 * es.length+2) * (2 * (2 * P+1))<=242 * (2 * (2 * P+1)):=cQ _ ()
   lia) ()
 exact⟨L,g,F,⟨z.bx k1 k2,d,G,B⟩,q⟩
open Po (Pl Ok)
open Su (Es)
open He (Sz PB)
open Fw (rg)
def O7{n:Nat}{p:Pl}(h:jI S n=some (Po.pl p))(hp:Ok p):k8 [.ref n] S=.ok (.int<|Po.val p 1) (S++[.qc<|Po.iv p]):=by
 unfold k8 pP pO;dsimp[kg,mz,bools,mW,Nat.reduceAdd,Nat.reduceSub,CJ,BV,h,Po.MY,Po.Ie,Po.Iw hp,GQ,Ho,eY,Ak,Po.GN]
def CW:Kl.Cb 10<big:=by rw[yL];decide +kernel
def Sn.Le{N P n d:Nat}{l:Su.Ps}(h:Sn N P C S n l)(k:Kp (·=d) S S')(hd:jZ S d=some kvs):Sn N P C S' n l:=by
 obtain⟨a,es,b,c⟩:=h;exact⟨a,es,b.Le k hd,c⟩
def UY{N n:Nat}{o:ag}(hN:N<6)(po:o.Perm<|rg N)(h:Sm S n es)(e:Su.sm es=Kl.K o):Sn N 10 (Kl.Cb 10) S n (Kl.K o):=⟨Kl.WU hN po,es,h,e⟩
def yv(x y:A):gd (([x,y]:ae).length<=sizeLine)=λr:Am.R A=>r:=by funext r;exact pX<|show 2<=16777216 by decide
def Jz(x:A)(S:jK):newL [x] S=.ok (.ref S.length) (S++[.lst [x]]):=pX<|show 1<=16777216 by decide
abbrev Fnd (N d f:Nat)(Fs:ae->jK->R A):Prop:=∀(T:jK) (K:Es) (o:ag),Iv.inv o<f->o.Perm (rg N)->Kn N Kl.K T d K ->
  ∃(r:Nat) (g:jK) (k j:Es),Fs [.tup<|o.map .int,.ref d] T=.ok (.ref r) g/\Kn N Kl.K g d k/\Sm g r j/\Su.sm j=Kl.K o/\Kp (·=d) T g
def Tu{Fs:ae->jK->R A}{N d f n L k:Nat}{K:Es}{e:Su.En}{x:A}(hN:N<6)(ih:Fnd N d f Fs)(hk:Kn N Kl.K T d K)(ht:Sn N 11 A' T L told)(pe:e.1.Perm<|rg N)(he:Iv.inv e.1<f)(le:jI T e.2.1=some (Po.pl e.2.2))(oe:Ok e.2.2)(be:(Po.val e.2.2 1).natAbs<big)(k1:1<=k)(k2:k<N) :
  ∃(v:A) (L' A'':Nat) (T':jK) (K':Es),ng Fs [x,.int k,.ref d,.ref n,.ref L,.tup<|e.1.map .int,.ref e.2.1,y] T=.nx [x,.int k,.ref d,.ref n,.ref L',.tup<|e.1.map .int,.ref e.2.1,v] T'/\Kn N Kl.K T' d K'/\Sn N 11 A'' T' L' (Kl.step k Kl.K told (e.1,e.2.2))/\Kp (·=d) T T':=by
 have h1:=O7 le oe;have V:=oS pe;obtain⟨T1,B⟩:∃T1,T1=T++[O.qc<|Po.iv e.2.2]:=⟨_,rfl⟩;have F:ly T T1:=by rw[B];kcf_m
 rw[<- B]at h1;unfold ng;by_cases h0:Po.val e.2.2 1=0
 ·have G:(Po.val e.2.2 1 == 0)=true:=beq_iff_eq.mpr h0;refine⟨.int<|Po.val e.2.2 1,L,A',T1,K,?_,hk.wC F,?_,F.of0⟩
  ·dsimp[kg,mz,bools,h1,G,bW]
  ·unfold Kl.step;rw[aM λz=>z.1 h0];exact ht.kp F
 ·have G:(Po.val e.2.2 1 == 0)=false:=cZ.mpr h0;have M:=uD (S:=T1) (xs:=e.1) (n:=N) V ();have g:DZ false (.int k) (.ref T1.length) (T1++[.lst<|(fl e.1 N).map .int])=.ok (.bl<|Su.sM e.1 k) (T1++[.lst<|(fl e.1 N).map .int]):=by
   show opt (jI _ _) _=_;rw[jX,jY,xm,I_ V k1 k2];rfl
  obtain⟨T2,C⟩:∃T2,T2=T1++[O.lst<|(fl e.1 N).map .int]:=⟨_,rfl⟩;have q2:ly T1 T2:=by rw[C];kcf_m
  rw[<- C]at g M;have p:=F.trans q2
  cases hf:Su.sM e.1 k with
  | false=>
   rw[hf]at g;refine⟨.int<|Po.val e.2.2 1,L,A',T2,K,?_,hk.wC p,?_,p.of0⟩
   ·dsimp[kg,mz,bools,h1,G,cV,M,g]
   ·unfold Kl.step;rw[aM λz=>by rw[hf]at z;exact nomatch z.2];exact ht.kp p
  | true=>
   rw[hf]at g;obtain⟨T3,t⟩:∃T3,T3=T2++[O.lst [.tup [.int 0,.int<|-Po.val e.2.2 1]]]:=⟨_,rfl⟩;have q3:ly T2 T3:=by rw[t];kcf_m
   have W:jI T3 T2.length=some (([(0,-Po.val e.2.2 1)]:Pl).map Po.pA):=by rw[t];exact jX
   have j:=p.trans q3;obtain⟨r,T4,K4,rs,x4,n4,s4,e4,P⟩:=ih T3 K e.1 he pe<|hk.wC j;have Y:=(hk.wC j).dd;have l4:=P.lst _ _ (λz=>Su.nu Y W z.symm) W;obtain⟨L5,T5,x5,s5,J⟩:=(UY hN pe s4 e4).X9 Po.pA (λ_ _ _=>rfl) hN () l4 (Q:=0) (c:=(Po.val e.2.2 1).natAbs) ⟨λq hq=>by rw[aP.mp hq];show(-_:Int).natAbs<=_;rw[Int.natAbs_neg];exact aK _,λq hq=>by rw[aP.mp hq];exact aK _⟩ (show 1<=2 by decide) ⋯ CW be;obtain⟨L6,T6,x6,Z,k6⟩:=(((ht.kp j).Le P Y).kp J).add (s5.mono ⋯ (aK _)) hN () ⋯;have st:Kl.step k Kl.K told (e.1,e.2.2)=He.zG told (He.F5 [(0,-Po.val e.2.2 1)]<|Kl.K e.1):=by unfold Kl.step;rw[aN ⟨h0,hf⟩]
   rw[<- st]at Z;refine⟨.int<|Po.val e.2.2 1,L6,_,T6,K4,?_,(n4.wC J).wC k6,Z,((j.of0.trans P).trans J.of0).trans k6.of0⟩;have U:M6 (.int<|Po.val e.2.2 1) T2=.ok (.int<|-Po.val e.2.2 1) T2:=rfl;dsimp[kg,mz,bools,h1,G,cV,M,g,U,yv,Jz,<- t,x4,x5,x6]
end K66
namespace K66
open PySem L2 Am
open Po (Pl Ok)
open Su (Es)
open He (Sz PB)
open Fw (rg)
def NF:gd (2<=sizeLine)=λr:Am.R A=>r:=by funext r;exact pX<|show 2<=16777216 by decide
def Rc{Fs:ae->jK->R A}{N d f n k:Nat}{x:A}{wl:ag}(hN:N<6)(ih:Fnd N d f Fs)(hk:Kn N Kl.K S d K0)(ht:Sn N 11 A0 S L0 told)(pw:wl.Perm<|rg N)(iw:Iv.inv wl<f)(hs:Sm S n es)(hse:Su.sm es=Kl.K wl)(k1:1<=k)(k2:k<N) :
  ∃(y5 y6 y7:A) (L' A'':Nat) (S':jK) (K':Es),lV (oY Fs) (yC 2<|qa (j_ 5)<|qa (j_ 6) yw) (ng Fs) [x,.int k,.ref d,.ref n,.ref L0,.unb,.unb,.unb] S=.nx [x,.int k,.ref d,.ref n,.ref L',y5,y6,y7] S'/\Kn N Kl.K S' d K'/\Sn N 11 A'' S' L' ((Kl.K wl).foldl (Kl.step k Kl.K) told)/\Kp (·=d) S S':=by
 have q:(es.map Su.ent).length=es.length:=aG ..;have t:=Kl.WU hN pw;refine nJ (n:=n) (xs:=es.map Su.ent) (S1:=S) (show oY Fs _ _=_ from mw (by dsimp[kg,bools]) hs.l)
  (λi τ T=>∃(y5 y6 y7:A) (L' A'':Nat) (K':Es),τ=[x,.int k,.ref d,.ref n,.ref L',y5,y6,y7]/\Kn N Kl.K T d K'/\Sn N 11 A'' T L' ((Su.sm<|es.take i).foldl (Kl.step k Kl.K) told)/\Kp (·=d) S T)
  (λr=>∃(y5 y6 y7:A) (L' A'':Nat) (S':jK) (K':Es),r=.nx [x,.int k,.ref d,.ref n,.ref L',y5,y6,y7] S'/\Kn N Kl.K S' d K'/\Sn N 11 A'' S' L' ((Kl.K wl).foldl (Kl.step k Kl.K) told)/\Kp (·=d) S S')
  ⟨_,_,_,L0,A0,K0,rfl,hk,ht,Kp.refl⟩ (λi τ T h=>?_) ?_ ?_
 ·obtain⟨_,_,_,_,_,_,_,_,_,kp⟩:=h;exact kp.lst _ _ (λz=>Su.nu hk.dd hs.l z.symm) hs.l
 ·rintro i z τ T C ⟨y5,y6,y7,L',A'',K',rfl,p,g,kp⟩;rw[aX]at C;obtain⟨e,F,rfl⟩:=aY.mp C;have G:=aS F;have j:(e.1,e.2.2)∈Kl.K wl:=pS hse G;have B:=Kl.MZ pw _ j;have pb:=t.pb j;obtain⟨v,U,L,T1,P,e1,M,O,J⟩:=Tu (Fs:=Fs) (n:=n) (x:=x) (y:=y7) hN ih p g (e:=e) B.1 (fQ B.le iw) ((hs.Le kp hk.dd).a e G) (t.cn.gd.ok _ j) (fQ (Kl.Vm pb.1 1) CW) k1 k2;refine⟨[x,.int k,.ref d,.ref n,.ref L',.tup<|e.1.map .int,.ref e.2.1,y7],T,rfl,.inl ⟨_,T1,e1,_,_,_,U,L,P,rfl,M,?_,kp.trans J⟩⟩;rw[bZ,F,Su.GU,dF];exact O
 ·rintro τ T ⟨y5,y6,y7,L',A'',K',rfl,p,g,kp⟩;rw[q,b7,hse]at g;exact⟨y5,y6,y7,L',A'',T,K',rfl,p,g,kp⟩
def Sb{Fs:ae->jK->R A}{N d f k:Nat}{w:ag}(hN:N<6)(ih:Fnd N d f Fs)(hk:Kn N Kl.K S d K0)(pw:w.Perm<|rg N)(hf:He.ff w=some k)(iw:Iv.inv w<f+1) :
  ∃(r:Nat) (S':jK) (K' rs:Es),lN kW (kR Fs) [.tup<|w.map .int,.int k,.ref d] S=.ok (.ref r) S'/\Kn N Kl.K S' d K'/\Sm S' r rs/\Su.sm rs=Kl.K w/\Kp (·=d) S S':=by
 have g:=Kl.E7 pw hf;have iv:=g.iv;obtain⟨S1,Z,G⟩:=HK (S:=S) (xs:=w) (k:=k) g.h0 (by rw[oS pw];exact g.h1) (by rw[oS pw];lia);obtain⟨r2,S2,K2,rs2,W,n2,L,e2,k2⟩:=ih S1 K0 (Wd.ex w k) () g.pe<|hk.wC G;have P:=UY hN g.pe L e2;obtain⟨L3,S3,U,s3,F⟩:=P.bx hN g.h0 g.h1 ⋯ CW;obtain⟨z,j⟩:∃z,z=S3++[O.lst [.tup [.int 1,.int 1]]]:=⟨_,rfl⟩;have M:ly S3 z:=by rw[j];kcf_m
 have Y:jI z S3.length=some (([(1,1)]:Pl).map Po.pA):=by rw[j];exact jX
 have B:=F.trans M;obtain⟨L5,S5,x5,s5,k5⟩:=(P.kp B).X9 Po.pA (λ_ _ _=>rfl) hN (by have:=g.h1;lia) Y (Q:=1) (c:=1) ⟨λq hq=>by rw[aP.mp hq];exact aK _,λq hq=>by rw[aP.mp hq];exact aK _⟩ ⋯ ⋯ CW (by rw[yL];decide +kernel);have t:=M.trans k5;obtain⟨L6,S6,x6,s6,k6⟩:=(s3.kp t).add s5 hN (by have:=g.h1;lia) ⋯;have p:=(F.trans t).trans k6;obtain⟨y5,y6,y7,L7,A7,S7,K7,x7,V,J,k7⟩:=Rc (x:=.tup<|w.map .int) hN ih (n2.wC p) s6 g.pe () (L.kp p) e2 g.h0 g.h1;have eq:(Kl.K<|Wd.ex w k).foldl (Kl.step k Kl.K) (He.zG (Su.bx k<|Kl.K<|Wd.ex w k)<|He.F5 [(1,1)]<|Kl.K<|Wd.ex w k)=Kl.K w:=(Kl.M7 pw hf).symm;rw[eq]at J;obtain⟨_,C,m7,T⟩:=J;refine⟨L7,S7,K7,C,?_,V,m7,T,((G.of0.trans k2).trans p.of0).trans k7⟩;unfold kR kW;dsimp[kg,mz,bools,mW,Nat.reduceAdd,Nat.reduceSub,Z,W,U,NF,yv,Jz,<- j,x5,x6,↓x7]
theorem Jy{N d:Nat}(hN:N<6):∀(f:Nat),Fnd N d f (mS f)
 | 0=>λ_ _ _ h _ _=>absurd h (fR _)
 | f+1=>λS K o hf L hK=>by
  have lo:=oS L;show ∃(r:Nat) (S':jK) (G rs:Es),lN n_ (oB<|mS f) [.tup<|o.map .int,.ref d] S=.ok (.ref r) S'/\_;have F:Lr true (.tup<|o.map .int) (.ref d) S=.ok (.bl<|!(kN (K.map Su.kv) o).isSome) S:=by rw[QO,hK.dd,jY]
  unfold oB n_
  cases V:Su.fE K o with
  | some e=>
   obtain⟨m1,rfl⟩:=Su.uG V;obtain⟨rs,r1,r2⟩:=hK.at_ e m1;have P:kN (K.map Su.kv) e.1=some (.ref e.2.1):=by rw[Su.vA,V];rfl
   have B:sX (.ref d) (.tup<|e.1.map .int) S=.ok (.ref e.2.1) S:=by rw[Su.zk,hK.dd,jY,P,jY]
   rw[P]at F;refine⟨e.2.1,S,K,rs,?_,hK,r1,r2,Kp.refl⟩;dsimp[kg,mz,bools,mW,Nat.reduceAdd,Nat.reduceSub,F,iX,bW,B]
  | none=>
   have P:kN (K.map Su.kv) o=none:=by rw[Su.vA,V];rfl
   rw[P]at F;have W:=uD (S:=S) (xs:=o) (n:=N) lo ();have U:(fl o N).head?=(He.ff o).map λk:Nat=>(k:Int):=by
    have:=He.TV (o:=o);rw[lo]at this;exact this
   obtain⟨S1,q⟩:∃S1,S1=S++[O.lst<|(fl o N).map .int]:=⟨_,rfl⟩;have Y:ly S S1:=by rw[q];kcf_m
   have M:jI S1 S.length=some ((fl o N).map .int):=by rw[q];exact jX
   rw[<- q]at W;have T:=Bs M
   cases g:He.ff o with
   | none=>
    have fe:fl o N=[]:=by
     rw[g]at U;exact List.head?_eq_none_iff.mp U
    obtain⟨S2,p⟩:∃S2,S2=S1++[O.lst [.tup [.int 0,.int 1]]]:=⟨_,rfl⟩;have k2:ly S1 S2:=by rw[p];kcf_m
    have l2:jI S2 S1.length=some (Po.pl [(0,1)]):=by rw[p];exact jX
    obtain⟨S3,j⟩:∃S3,S3=S2++[O.lst [.tup [.tup<|o.map .int,.ref S1.length]]]:=⟨_,rfl⟩;have J:ly S2 S3:=by rw[j];kcf_m
    have l3:jI S3 S2.length=some (([(o,S1.length,[(0,1)])]:Es).map Su.ent):=by rw[j];exact jX
    have sm:Sm S3 S2.length [(o,S1.length,[(0,1)])]:=⟨l3,λe he=>by rw[aP.mp he];exact J.lst _ _ (λz=>z) l2⟩;have kq:Su.sm [(o,S1.length,[((0:Int),(1:Int))])]=Kl.K o:=by rw[Kl.MW g];rfl
    have C:=(Y.trans k2).trans J;obtain⟨Z,G,e1,n1,B,s1,kp⟩:=(hK.wC C).put hN L sm kq;refine⟨S2.length,Z,G,_,?_,n1,s1,kq,C.of0.trans kp⟩;rw[fe]at T;dsimp[kg,mz,bools,mW,Nat.reduceAdd,Nat.reduceSub,F,isSome_none,cV,W,T,fK,jn,bW,NF,yv,Jz,<- p,<- j,Su.zd,e1,B]
   | some k=>
    obtain⟨t,ft⟩:∃t,fl o N=(k:Int)::t:=by
     rw[g]at U;exact List.head?_eq_some_iff.mp U
    rw[ft]at T M;obtain⟨r3,S3,K3,rs3,x3,n3,s3,q3,J⟩:=Sb hN (Jy hN f) (hK.wC Y) L g hf;obtain⟨Z,G,e1,n1,B,s1,kp⟩:=n3.put hN L s3 q3;refine⟨r3,Z,G,rs3,?_,n1,s1,q3,(Y.of0.trans J).trans kp⟩;dsimp[kg,mz,bools,mW,Nat.reduceAdd,Nat.reduceSub,F,isSome_none,cV,W,T,bI,jh,bW];rw[bI]at M;dsimp[kg,mz,bools,M,xx,↓x3,Su.zd,e1,B]
end K66
namespace K66
open PySem L2 Am
def VT{n:Nat}{d:List<|mT×A}(h:qf S n=some d)(h':jI S m=some xs):n≠m:=λz=>by
 subst z;have e1:=pH h;rw[jW h']at e1
 cases e1
def Xx{n:Nat}{d:List<|mT×A}(h:qf S n=some d)(h':jZ S m=some xs):n≠m:=λz=>by
 subst z;have e1:=pH h;rw[lC h']at e1
 cases e1
def Kp.vh{b:Nat->Prop}(h:Kp b S S')(n:Nat)(d:List<|mT×A)(hb:¬b n)(e:qf S n=some d):qf S' n=some d:=zF<|h.obj n _ hb<|pH e
def Jr(x w:ag):FL (.tup [.tup<|x.map .int,.tup<|w.map .int])=some (x,w):=by
 unfold FL;dsimp only;rw[ints_map,ints_map];rfl
def VL{d:Nat}{x w:ag}:AQ false (.tup [.tup<|x.map .int,.tup<|w.map .int]) (.ref d) S=opt (qf S d) λkvs=>.ok (.bl (rB kvs (x,w)).isSome) S:=by
 show opt (qf S d) (λkvs=>opt (FL _) _)=_;rw[Jr];rfl
def SW{d:Nat}{S:jK}{x w:ag}{v:A}:E_ (.ref d) (.tup [.tup<|x.map .int,.tup<|w.map .int]) v S=opt (qf S d) λkvs=>gd (kvs.length<sizeLine) (.ok Unit.unit<|S.set d<|.vh<|yE kvs (x,w) v):=by
 show opt (qf S d) (λkvs=>opt (FL _) _)=_;rw[Jr];rfl
def SK{co ci:Ex}{a:A}:RZ co ci a τ S=(co τ S).bind λo S1=>(ci τ S1).bind λi S2=>(E_ o i a S2).bind λ_ S3=>.ok τ S3:=rfl
def Lg{S:jK}:Hf τ S=.ok (.ref S.length) (S++[.vh []]):=rfl
def MN{k:mT}{v:A}{kvs:List<|mT×A}:(yE kvs k v).length<=kvs.length+1:=by
 unfold yE;split
 ·rw[aG];lia
 ·rw[aW];exact aK _
def isQ{kvs:List<|mT×A}{k:mT}:(rB kvs k).isSome=decide (k∈kvs.map (·.1)):=by
 unfold rB;rw[d7]
 cases h:kvs.find? λkv=>decide (kv.1=k)with
 | none=>
  refine(bB λz=>?_).symm;obtain⟨p,d,e⟩:=bu.mp z;have:=fP.mp h p d;exact this<|bg e
 | some p=>
  refine(bg ?_).symm;have h1:=dg h;have h2:=fS h;have h2:=bY h2;exact bu.mpr ⟨p,h1,h2⟩
def Lj{kvs:List<|mT×A}{k q:mT}{v:A}:q∈(yE kvs k v).map (·.1) ↔ q∈kvs.map (·.1)\/q=k:=by
 unfold yE;split
 ·rename_i h;rw[isQ]at h;have h:=bY h;have:(kvs.map λp=>if p.1=k then(p.1,v)else p).map (·.1)=kvs.map (·.1):=by
   rw[bz];refine cB λp _=>?_;show(if p.1=k then(p.1,v)else p).1=p.1;split<;>rfl
  rw[this];constructor
  ·exact .inl
  ·rintro(z|z)
   ·exact z
   ·rw[z];exact h
 ·rw[bC,bq,bI,fK,aP]
structure Ks (S:jK)(d m:Nat)(ps:List mT):Prop where
 ex:∃kvs,qf S d=some kvs/\kvs.length<=m/\∀q,q∈kvs.map (·.1) ↔ q∈ps
def Ks.put{d:Nat}{x w:ag}{v:A}(h:Ks S d m ps)(hm:m<16777216):∃S',E_ (.ref d) (.tup [.tup<|x.map .int,.tup<|w.map .int]) v S=.ok Unit.unit S'/\Ks S' d (m+1) (ps++[(x,w)])/\Kp (·=d) S S':=by
 obtain⟨kvs,h1,h2,h3⟩:=h.ex;have f:d<S.length:=(aJ.mp<|pH h1).1;refine⟨S.set d<|.vh<|yE kvs (x,w) v,?_,⟨yE kvs (x,w) v,zF<|by rw[bJ f],bH MN (),λq=>?_⟩,Kp.refl.qR<|.inl rfl⟩
 ·rw[SW,h1,jY];exact pI ()
 ·rw[Lj,h3,bq,aP]
def Ks.inq{d:Nat}{ps:List mT}{x w:ag}(h:Ks S d m ps):AQ false (.tup [.tup<|x.map .int,.tup<|w.map .int]) (.ref d) S=.ok (.bl<|decide<|(x,w)∈ps) S:=by
 obtain⟨kvs,h1,h2,h3⟩:=h.ex;rw[VL,h1,jY,isQ,eK.mpr<|h3 (x,w)]
def Ks.kp{d:Nat}{b:Nat->Prop}(h:Ks S d m ps)(k:Kp b S S')(hb:¬b d):Ks S' d m ps:=by
 obtain⟨kvs,h1,h2⟩:=h.ex;exact⟨kvs,Kp.vh k _ _ hb h1,h2⟩
def Ks.mono{d:Nat}(h:Ks S d m ps)(hm:m<=m'):Ks S d m' ps:=by
 obtain⟨kvs,h1,h2,h3⟩:=h.ex;exact⟨kvs,h1,bH h2 hm,h3⟩
def Ks.ne{d n:Nat}(h:Ks S d m ps)(h':jI S n=some xs):d≠n:=by
 obtain⟨kvs,h1,_⟩:=h.ex;exact VT h1 h'
def Ks.nd{d n:Nat}(h:Ks S d m ps)(h':jZ S n=some xs):d≠n:=by
 obtain⟨kvs,h1,_⟩:=h.ex;exact Xx h1 h'
open Po (Pl Ok)
open Su (Es)
open He (Sz PB)
open Fw (rg)
abbrev Wx (u:ag)(e:ag×Pl):List mT:=if Po.val e.2 1=0 then[]else[(e.1,u),(u,e.1)]
abbrev ldK (u:ag):List mT:=(Kl.K u).flatMap<|Wx u
abbrev Ld (os:List<|ag):List mT:=os.flatMap ldK
def Kn.kpq{N d L:Nat}{Φ:ag->Su.Ps}{K:Es}(h:Kn N Φ T d K)(k:Kp (·=L) T T')(hL:Ks T L m ps):Kn N Φ T' d K:=⟨k.dct _ _ (λz=>hL.nd h.dd z.symm) h.dd,h.gd,h.pm,λe f=>by
 obtain⟨es,a,b⟩:=h.at_ e f;exact⟨es,⟨k.lst _ _ (λz=>hL.ne a.l z.symm) a.l,λe f=>k.lst _ _ (λz=>hL.ne (a.a e f) z.symm)<|a.a e f⟩,b⟩⟩
def Sm.kpq{n L:Nat}(a:Sm T n es)(k:Kp (·=L) T T')(hL:Ks T L m ps):Sm T' n es:=⟨k.lst _ _ (λz=>hL.ne a.l z.symm) a.l,λe d=>k.lst _ _ (λz=>hL.ne (a.a e d) z.symm)<|a.a e d⟩
def Ny{N d L n c:Nat}{K:Es}{u:ag}{e:Su.En}(hk:Kn N Kl.K T d K)(hL:Ks T L m ps)(le:jI T e.2.1=some (Po.pl e.2.2))(oe:Ok e.2.2)(hm:m+2<16777216) :
  ∃(v:A) (T':jK),pQ [.ref n,.ref d,.ref L,.tup<|u.map .int,.tup<|e.1.map .int,.ref e.2.1,y] T=.nx [.ref n,.ref d,.ref L,.tup<|u.map .int,.tup<|e.1.map .int,.ref e.2.1,v] T'/\Ks T' L (m+2) (ps++Wx u (e.1,e.2.2))/\Kp (·=L) T T':=by
 have h1:=O7 le oe;obtain⟨T1,f⟩:∃T1,T1=T++[O.qc<|Po.iv e.2.2]:=⟨_,rfl⟩;have g:ly T T1:=by rw[f];kcf_m
 rw[<- f]at h1;unfold pQ;by_cases h0:Po.val e.2.2 1=0
 ·have j:(Po.val e.2.2 1 == 0)=true:=beq_iff_eq.mpr h0;refine⟨.int<|Po.val e.2.2 1,T1,?_,?_,g.of0⟩
  ·dsimp[kg,mz,bools,h1,j,bW]
  ·unfold Wx;rw[aN h0,b8];exact(hL.kp g λz=>z).mono ()
 ·have j:(Po.val e.2.2 1 == 0)=false:=cZ.mpr h0;obtain⟨T2,q,C,B⟩:=(hL.kp g λz=>z).put (x:=e.1) (w:=u) (v:=.int<|Po.val e.2.2 1) ();obtain⟨T3,p,k,t⟩:=C.put (x:=u) (w:=e.1) (v:=.int<|Po.val e.2.2 1) ();refine⟨.int<|Po.val e.2.2 1,T3,?_,?_,(g.of0.trans B).trans t⟩
  ·dsimp[kg,mz,bools,h1,j,cV,SK,yv,q,p]
  ·unfold Wx;rw[aM h0];rw[bX]at k;exact k
end K66
namespace K66
open PySem L2 Am
open Po (Pl Ok)
open Su (Es)
open He (Sz PB)
open Fw (rg)
def Mb{N d L n r:Nat}{K:Es}{u:ag}{rs:Es}(hN:N<6)(pu:u.Perm<|rg N)(hs:pT [.ref n,.ref d,.ref L,.tup<|u.map .int,y4,y5,y6] S=.ok (lD r (rs.map Su.ent).length) S1)(hk:Kn N Kl.K S1 d K)(hL:Ks S1 L m ps)(hr:Sm S1 r rs)(he:Su.sm rs=Kl.K u)(hm:m+240<16777216) :
  ∃(z4 z5 z6:A) (S':jK),nG [.ref n,.ref d,.ref L,.tup<|u.map .int,y4,y5,y6] S=.nx [.ref n,.ref d,.ref L,.tup<|u.map .int,z4,z5,z6] S'/\Ks S' L (m+240) (ps++ldK u)/\Kp (·=L) S1 S':=by
 have k:(rs.map Su.ent).length=rs.length:=aG ..;have p:=Kl.WU hN pu;have j:rs.length<=120:=by have:=p.many hN;rwa [<- he,Su.Ac]at this
 unfold nG;refine nJ (n:=r) (xs:=rs.map Su.ent) (S1:=S1) hs
  (λi τ T=>∃(z4 z5 z6:A),τ=[.ref n,.ref d,.ref L,.tup<|u.map .int,z4,z5,z6]/\i<=rs.length/\Ks T L (m+2 * i) (ps++(Su.sm<|rs.take i).flatMap (Wx u))/\Kp (·=L) S1 T)
  (λR=>∃(z4 z5 z6:A) (S':jK),R=.nx [.ref n,.ref d,.ref L,.tup<|u.map .int,z4,z5,z6] S'/\Ks S' L (m+240) (ps++ldK u)/\Kp (·=L) S1 S')
  ⟨_,_,_,rfl,bK _,by rw[cW];show Ks S1 L m (ps++[]);rw[b8];exact hL,Kp.refl⟩ (λi τ T h=>?_) ?_ ?_
 ·obtain⟨_,_,_,_,_,_,kp⟩:=h;exact kp.lst _ _ (λz=>hL.ne hr.l z.symm) hr.l
 ·rintro i z τ T q ⟨z4,z5,z6,rfl,_,g,kp⟩;rw[aX]at q;obtain⟨e,f,rfl⟩:=aY.mp q;have t:=aS f;have C:(e.1,e.2.2)∈Kl.K u:=pS he t;have F:=(aJ.mp f).1;obtain⟨v,T1,e1,G,B⟩:=Ny (n:=n) (u:=u) (e:=e) (y:=z6) (c:=0) (hk.kpq kp hL) g ((hr.kpq kp hL).a e t) (p.cn.gd.ok _ C) ();refine⟨[.ref n,.ref d,.ref L,.tup<|u.map .int,.tup<|e.1.map .int,.ref e.2.1,z6],T,rfl,.inl ⟨_,T1,e1,_,_,_,rfl,F,?_,kp.trans B⟩⟩;rw[bZ,f,Su.GU,gz,<- bX];have:((Su.sm (some e).toList).flatMap<|Wx u)=Wx u (e.1,e.2.2):=b8 _;rw[this];exact G
 ·rintro τ T ⟨z4,z5,z6,rfl,_,g,kp⟩;rw[k,b7,he]at g;exact⟨z4,z5,z6,T,rfl,g.mono (),kp⟩
def PX{N n:Nat}{os:List<|ag}(hN:N<6)(hi:∀o∈os,o.Perm (rg N)/\Iv.inv o<8)(hn:jI S n=some (os.map λo=>.tup<|o.map .int))(hl:os.length<=120) :
  ∃(L:Nat) (S':jK),nA [.ref n] S=.ok (.ref L) S'/\Ks S' L 30000 (Ld os)/\ly S S':=by
 obtain⟨S1,f⟩:∃S1,S1=S++[O.dct []]:=⟨_,rfl⟩;have U:ly S S1:=by rw[f];kcf_m
 obtain⟨S2,j⟩:∃S2,S2=S1++[O.vh []]:=⟨_,rfl⟩;have C:ly S1 S2:=by rw[j];kcf_m
 have d1:jZ S1 S.length=some []:=by rw[f];exact Su.o8
 have d2:=C.dct _ _ (λz=>z) d1;have p2:qf S2 S1.length=some []:=zF (by rw[j];exact DQ);have l1:S1.length=S.length+1:=by rw[f,aW];rfl
 have h0:Kn N Kl.K S2 S.length []:=⟨d2,Su.Gd.nil,(nofun),(nofun)⟩;have F:Ks S2 S1.length 0 []:=⟨[],p2,aK _,λq=>Iff.rfl⟩;have k:=(U.trans C).lst _ _ (λz=>z) hn;have p:∃(g y4 y5 y6:A) (S':jK),lV p_ (j_ 3) nG [.ref n,.ref S.length,.ref S1.length,.unb,.unb,.unb,.unb] S2=.nx [.ref n,.ref S.length,.ref S1.length,g,y4,y5,y6] S'/\Ks S' S1.length 30000 (Ld os)/\Kp (λx=>x=S.length\/x=S1.length) S2 S':=by
  refine nJ (n:=n) (xs:=os.map λo=>.tup<|o.map .int) (S1:=S2) (show p_ _ _=_ from mw (by dsimp[kg,bools]) k)
   (λi τ T=>∃(g y4 y5 y6:A) (K:Es),τ=[.ref n,.ref S.length,.ref S1.length,g,y4,y5,y6]/\i<=os.length/\Kn N Kl.K T S.length K/\Ks T S1.length (240 * i) (Ld<|os.take i)/\Kp (λx=>x=S.length\/x=S1.length) S2 T)
   (λR=>∃(g y4 y5 y6:A) (S':jK),R=.nx [.ref n,.ref S.length,.ref S1.length,g,y4,y5,y6] S'/\Ks S' S1.length 30000 (Ld os)/\Kp (λx=>x=S.length\/x=S1.length) S2 S')
   ⟨_,_,_,_,[],rfl,bK _,h0,by rw[cW];exact F,Kp.refl⟩ (λi τ T h=>?_) ?_ ?_
  ·obtain⟨_,_,_,_,_,_,_,_,_,kp⟩:=h;have:=lB hn;exact kp.lst _ _ (λz=>()) k
  ·rintro i z τ T Z ⟨g,y4,y5,y6,K,rfl,_,W,B,kp⟩;rw[aX]at Z;obtain⟨o,J,rfl⟩:=aY.mp Z;have om:=aS J;obtain⟨P,io⟩:=hi o om;have G:=(aJ.mp J).1;obtain⟨r,T1,K1,rs,x1,n1,s1,e1,M⟩:=Jy (d:=S.length) hN 8 T K o io P W;have t:Ks T1 S1.length (240 * i) (Ld<|os.take i):=B.kp M λz=>()
   obtain⟨z4,z5,z6,T2,x2,Y,V⟩:=Mb (S:=T) (S1:=T1) (n:=n) (y4:=y4) (y5:=y5) (y6:=y6) hN P (show pT _ _=_ from mw (by dsimp[kg,mz,bools,show tP=mS 8 from rfl,x1]) s1.l) n1 t s1 e1 ();refine⟨_,T,rfl,.inl ⟨_,T2,x2,_,_,_,_,K1,rfl,G,n1.kpq V t,?_,(kp.trans<|M.mono λ_ _ z=>.inl z).trans<|V.mono λ_ _ z=>.inr z⟩⟩;unfold Ld at Y ⊢;rw[bZ,J,gz];have:(some o).toList.flatMap ldK=ldK o:=b8 _;rw[this];exact Y.mono ()
  ·rintro τ T ⟨g,y4,y5,y6,K,rfl,_,W,B,kp⟩;rw[aG,b7]at B;exact⟨g,y4,y5,y6,T,rfl,B.mono (),kp⟩
 obtain⟨g,y4,y5,y6,S',x3,s3,k3⟩:=p;refine⟨S1.length,S',?_,s3,((U.trans C)).old k3 λq hq _ z=>()⟩;unfold nA rQ rV;dsimp[kg,mz,bools,mW,Nat.reduceAdd,Nat.reduceSub,Su.xC,Lg,<- f,<- j,↓x3]
end K66
namespace K66
open PySem L2 Am
def zc{s:Src}{xs:ae}{src:Ic}{t:Te}{e:Ex}(hs:src τ S=.ok s S1)(hk:s.k=xs.length)(b:Nat->Prop)(hg:∀T,Kp b S1 T->∀i:Nat,i<xs.length->s.get i T=xs[i]?)(hfin:∀T,Kp b S1 T->s.fin T=true)(p:A->Bool)(f:A->A)
  (step:∀x∈xs,∀T,Kp b S1 T->∃T1,t (x::lX cap τ) T=.ok (p x) T1/\Kp b T T1/\(p x=true->∃T2,e (x::lX cap τ) T1=.ok (f x) T2/\Kp b T1 T2)) (hl:xs.length<=16777216) :
  ∃S',kH (none::cap) src (j_ 0) t e τ S=.ok (.ref S'.length) (S'++[.lst<|(xs.filter p).map f])/\Kp b S1 S':=by
 have F:∀i,i<xs.length->xs.getD i .unb∈xs:=λi d=>by
  rw[aL,aI d];exact eG d
 obtain⟨S',h1,h2⟩:=vq (s:=s) (g:=j_ 0) (t:=t) (e:=e) (P:=λT=>Kp b S1 T) (T:=λj=>∃y,j=y::lX cap τ) (λi=>xs.getD i .unb) (λi=>p<|xs.getD i .unb) (λi=>f<|xs.getD i .unb) (λi T d h=>by
   rw[hk]at d;rw[hg T h i d,aL,aI d];rfl) hfin
  (λi j T d hy h=>by
   obtain⟨y,rfl⟩:=hy;rw[hk]at d;obtain⟨T1,e1,z,q⟩:=step _ (F i d) T h;refine⟨xs.getD i .unb::lX cap τ,T,T1,rfl,e1,⟨_,rfl⟩,λ_=>h.trans z,λB=>?_⟩;obtain⟨T2,e2,C⟩:=q B;exact⟨T2,e2,(h.trans z).trans C⟩) s.k 0 (lX (none::cap) τ) S1 rfl ⟨_,rfl⟩ Kp.refl
 refine⟨S',?_,h2⟩;unfold kH;rw[hs,R.mU,h1,R.lA,hk,<- fj,nk xs p f .unb];refine l_ ?_;rw[aG];exact bH (cM _ _) hl
def CU{n:Nat}{xs:ae}{src:Ic}{t:Te}{e:Ex}(hs:src τ S=.ok (lD n xs.length) S1)(hx:jI S1 n=some xs)(p:A->Bool)(f:A->A)
  (step:∀x∈xs,∀T,ly S1 T->∃T1,t (x::lX cap τ) T=.ok (p x) T1/\ly T T1/\(p x=true->∃T2,e (x::lX cap τ) T1=.ok (f x) T2/\ly T1 T2)) (hl:xs.length<=16777216) :
  ∃S',kH (none::cap) src (j_ 0) t e τ S=.ok (.ref S'.length) (S'++[.lst<|(xs.filter p).map f])/\ly S1 S':=
 zc hs rfl _ (λT k i _=>by show(jI T n).bind _=_;rw[k.lst _ _ (λz=>z) hx];rfl) (λT k=>by
  show(match jI T n with
   | some ys=>decide (ys.length<=xs.length)
   | none=>false)=true
  rw[k.lst _ _ (λz=>z) hx];exact bg<|aK _) p f step hl
theorem O1{st:A->A->A->jK->R Unit}{s:Src}{g:Tg}{ek ev:Ex}{n:Nat}(P:Nat->jK->Prop)(Q:ae->Prop)(step:∀i τ S,i<s.k->Q τ->P i S->∃x τ1 S1 y S3 z S4 S5,s.get i S=some x/\g x τ S=.ok τ1 S1/\Q τ1/\ek τ1 S1=.ok y S3/\ev τ1 S3=.ok z S4/\st (.ref n) y z S4=.ok Unit.unit S5/\P (i+1) S5)(hfin:∀S,P s.k S->s.fin S=true) :
  ∀k i τ S,k+i=s.k->Q τ->P i S->∃τ' S',yG st s g t9 ek ev n k i τ S=.ok τ' S'/\P s.k S'
 | 0,i,τ,S,hk,hT,hP=>by
  have:i=s.k:=()
  subst this;exact⟨τ,S,by unfold yG;rw[aN<|hfin S hP],hP⟩
 | k+1,i,τ,S,hk,hT,hP=>by
  obtain⟨x,τ1,S1,y,S3,z,S4,S5,e1,e2,f,e3,d,p,j⟩:=step i τ S () hT hP;obtain⟨τ',S',h1,h2⟩:=O1 P Q step hfin k (i+1) τ1 S5 () f j;refine⟨τ',S',?_,h2⟩;unfold yG;rw[e1,jY,e2,R.lA];show((ek τ1 S1).oN _)=_;rw[e3,R.lA,d,R.lA,p,R.lA,h1]
def WR{n:Nat}{bs:List Bool}(h:jI S n=some xs)(hb:A.Gx xs=some bs):W6 (.ref n) S=.ok (.bl<|bs.any λb=>b) S:=by
 show opt (jI S n) _=_;rw[h];show opt (A.Gx xs) _=_;rw[hb];rfl
def Zk(b:Bool)(xs:ae):A.Gx (.bl b::xs)=(A.Gx xs).map (b::·):=rfl
theorem OQ{α:Type}(f:α->Bool):∀(xs:List α),A.Gx (xs.map λx=>.bl<|f x)=some (xs.map f)
 | []=>rfl
 | x::xs=>by rw[bI,Zk,OQ f xs];rfl
abbrev hof (N:Nat)(a b:ag):Bool:=(fl a N).any λk=>!decide (k∈fl b N)
abbrev YM:A->Int
 | .int k=>k
 | _=>0
def YC(o:ag)(N:Nat)(hN:N<6):(fl o N).length<=6:=by
 unfold fl;refine bH (cM _ _) ?_;unfold lU;rw[aG,b_];lia
def W0{a b:ag}{N:Nat}(hN:N<6)(la:a.length=N)(lb:b.length=N):∃S',j9 [.tup<|a.map .int,.tup<|b.map .int] S=.ok (.bl<|hof N a b) S'/\ly S S':=by
 have fa:=uD (S:=S) (xs:=a) (n:=N) la ();obtain⟨S1,d⟩:∃S1,S1=S++[O.lst<|(fl a N).map .int]:=⟨_,rfl⟩;have p:ly S S1:=by rw[d];kcf_m
 have g:jI S1 S.length=some ((fl a N).map .int):=by rw[d];exact jX
 rw[<- d]at fa;have G:=YC a N hN;obtain⟨S2,f,q⟩:=CU (cap:=[some 1]) (t:=t9) (e:=jO (DZ true) (jG 0)<|eFn l9<|jH (jG 1) jR) (τ:=[.tup<|a.map .int,.tup<|b.map .int]) (S:=S) (S1:=S1) (src:=mP<|eFn l9<|jH (jG 0) jR) (mw (by dsimp[kg,mz,bools,fa]) g) g (λ_=>true) (λx=>.bl<|!decide (YM x∈fl b N)) (λx z T F=>⟨T,rfl,Kp.refl,λ_=>by
  obtain⟨k,J,rfl⟩:=bu.mp z;have B:=uD (S:=T) (xs:=b) (n:=N) lb ();refine⟨T++[.lst<|(fl b N).map .int],?_,Kp.refl.lay⟩;have C:DZ true (.int k) (.ref T.length) (T++[.lst<|(fl b N).map .int])=.ok (.bl<|!decide (k∈fl b N)) (T++[.lst<|(fl b N).map .int]):=by
   show opt (jI _ _) _=_;rw[jX,jY,xm];rfl
  show jO (DZ true) (jG 0) (eFn l9<|jH (jG 1) jR) [.int k,.tup<|b.map .int] T=_;dsimp[kg,mz,bools,B,C];rfl⟩)<|by rw[aG];lia
 refine⟨S2++[O.lst<|(fl a N).map λk=>.bl<|!decide (k∈fl b N)],?_,(p.trans q).lay⟩;unfold j9 o5 o6;have hf:((List.map A.int<|fl a N).filter λ_=>true).map (λx=>A.bl<|!decide (YM x∈fl b N))=(fl a N).map λk=>.bl (!decide (k∈fl b N)):=by
  rw[gA.mpr λ_ _=>rfl,bz];rfl
 rw[hf]at f;have j:=WR (S:=S2++[O.lst<|(fl a N).map λk=>.bl<|!decide (k∈fl b N)]) jX<|OQ (λk=>!decide (k∈fl b N))<|fl a N;rw[any_map]at j;dsimp[kg,mz,bools,mW,Nat.reduceAdd,Nat.reduceSub,↓f,j];rfl
end K66
namespace K66
open PySem L2 Am
abbrev tq (o:ag):A:=.tup<|o.map .int
def uq(o:ag)(T:jK):uV (tq o) T=.ok (tq o) T:=rfl
def isD{kvs:List<|ag×A}{k:ag}:(kN kvs k).isSome=decide (k∈kvs.map (·.1)):=by
 unfold kN;rw[d7]
 cases h:kvs.find? λkv=>decide (kv.1=k)with
 | none=>
  refine(bB λz=>?_).symm;obtain⟨p,d,e⟩:=bu.mp z;have:=fP.mp h p d;exact this<|bg e
 | some p=>
  refine(bg ?_).symm;have h1:=dg h;have h2:=fS h;have h2:=bY h2;exact bu.mpr ⟨p,h1,h2⟩
def CA{kvs:List<|ag×A}{k:ag}{v:A}(h:k∉kvs.map (·.1)):putD kvs k v=kvs++[(k,v)]:=by
 unfold putD;rw[isD,aM<|by rw[g_];exact h]
def Wm{d:Nat}:QV (.ref d) (tq o) S=opt (lO S d) λkvs=>opt (kN kvs o) λv=>.ok v S:=by
 show opt (lO S d) (λkvs=>opt (A.ints<|o.map .int) λf=>_)=_;rw[ints_map];rfl
def Qn{d:Nat}:sX (.ref d) (tq o) S=opt (jZ S d) λkvs=>opt (kN kvs o) λv=>.ok v S:=by
 show opt (jZ S d) (λkvs=>opt (A.ints<|o.map .int) λf=>_)=_;rw[ints_map];rfl
def Wf{d:Nat}:KG false (tq o) (.ref d) S=opt (lO S d) λkvs=>.ok (.bl (kN kvs o).isSome) S:=by
 show opt (lO S d) (λkvs=>opt (A.ints<|o.map .int) λf=>_)=_;rw[ints_map];rfl
def Xm{d:Nat}(h:jZ S d=some kvs):lO S d=some kvs:=by
 unfold lO;rw[lC h]
def X8{d:Nat}{S:jK}(h:S[d]?=some (.dcf kvs)):lO S d=some kvs:=by
 unfold lO;rw[h]
def uz{b:Nat->Prop}{d:Nat}(h:lO S d=some kvs)(k:Kp b S S')(hb:¬b d):lO S' d=some kvs:=by
 unfold lO at h;split at h
 ·rename_i e;cases h;unfold lO;rw[k.obj _ _ hb e]
 ·rename_i e;cases h;unfold lO;rw[k.obj _ _ hb e]
 ·cases h
def G0{n:Nat}{d:List<|ag×A}(h:lO S n=some d)(h':jI S m=some xs):n≠m:=λz=>by
 subst z;unfold lO at h;rw[jW h']at h
 cases h
structure Nx (S:jK)(d L:Nat)(os:List (ag))(nx:ag->List (ag)):Prop where
 ex:∃rs:List<|ag×Nat,lO S d=some (rs.map λe=>(e.1,.ref e.2))/\rs.map (·.1)=os/\∀e∈rs,jI S e.2=some ((nx e.1).map tq)/\e.2<L
 lt:d<L
def Nx.kp{d L:Nat}{os:List<|ag}{nx:ag->List (ag)}{b:Nat->Prop}(h:Nx S d L os nx)(k:Kp b S S')(hb:∀n,n<L->¬b n):Nx S' d L os nx:=by
 obtain⟨g,h1,h2,h3⟩:=h.ex;exact⟨⟨g,uz h1 k<|hb _ h.lt,h2,λe f=>⟨k.lst _ _ (hb _ (h3 e f).2) (h3 e f).1,(h3 e f).2⟩⟩,h.lt⟩
def JK{rs:List<|ag×Nat}{o:ag}(h:o∈rs.map (·.1)):∃e∈rs,e.1=o/\kN (rs.map λe=>(e.1,A.ref e.2)) o=some (.ref e.2):=by
 induction rs with
 | nil=>cases h
 | cons e rs d=>
  by_cases c:e.1=o
  ·exact⟨e,aO ..,c,BR (p:=(e.1,A.ref e.2)) c⟩
  ·rw[bI]at h;have h:=(bF.mp h).resolve_left λz=>c z.symm;obtain⟨g,f,e1,e2⟩:=d h;exact⟨g,aQ _ f,e1,by rw[bI,BZ (p:=(e.1,A.ref e.2)) c];exact e2⟩
def Nx.ix{d L:Nat}{os:List<|ag}{nx:ag->List (ag)}(h:Nx S d L os nx){o:ag}(ho:o∈os):∃r,QV (.ref d) (tq o) S=.ok (.ref r) S/\jI S r=some ((nx o).map tq)/\r<L:=by
 obtain⟨g,h1,h2,h3⟩:=h.ex;rw[<- h2]at ho;obtain⟨e,f,rfl,e2⟩:=JK ho;exact⟨e.2,by rw[Wm,h1,jY,e2,jY],(h3 e f).1,(h3 e f).2⟩
meta abbrev Os:=List<|ag
abbrev JO (s:Os×Os)(o:ag):Os×Os:=if o∈s.1 then s else(s.1++[o],s.2++[o])
abbrev qV (s:Os×Os)(l:Os):Os×Os:=l.foldl JO s
abbrev rf (os:Os)(nx:ag->Os):Nat->Os->Os->Option Os
 | 0,_,_=>none
 | f+1,R,W=>if R.length<1000/\W.length<1000/\∀o∈W,o∈os/\(nx o).length<1000 then match W.getLast? with
   | none=>some R
   | some h=>rf os nx f (qV (R,W.dropLast)<|nx h).1 (qV (R,W.dropLast)<|nx h).2
  else none
abbrev mk (R:Os):List (ag×A):=R.map λo=>(o,.bl true)
def DM(R:Os):(mk R).map (·.1)=R:=by
 unfold mk;rw[bz];exact gQ _
def Og(l:Os):∀(s:Os×Os),(qV s l).1.length<=s.1.length+l.length/\(qV s l).2.length<=s.2.length+l.length:=by
 induction l with
 | nil=>exact λs=>⟨aK _,aK _⟩
 | cons o l d=>
  intro s;have h:=d<|JO s o;have h1:(JO s o).1.length<=s.1.length+1/\(JO s o).2.length<=s.2.length+1:=by
   unfold JO;split
   ·exact⟨(),()⟩
   ·exact⟨by rw[aW];exact aK _,by rw[aW];exact aK _⟩
  show(qV (JO s o) l).1.length<=_/\(qV (JO s o) l).2.length<=_;rw[bG];exact⟨(),()⟩
abbrev Bq (r q:Nat)(n:Nat):Prop:=n=r\/n=q
def WN{d r q:Nat}{l R W:Os}{x:A}(hs:nj [x,.ref d,.ref r,.ref q,h,y] S=.ok (lD m (l.map tq).length) S)(hm:jI S m=some (l.map tq))(mr:m≠q)(hr:jZ S r=some (mk R))(hq:jI S q=some (W.map tq))(h1:R.length<1000)(h2:W.length<1000)(h3:l.length<1000) :
  ∃(y':A) (S':jK),lV nj (j_ 5) oZ [x,.ref d,.ref r,.ref q,h,y] S=.nx [x,.ref d,.ref r,.ref q,h,y'] S'/\jZ S' r=some (mk (qV (R,W) l).1)/\jI S' q=some ((qV (R,W) l).2.map tq)/\Kp (Bq r q) S S':=by
 have F:r≠q:=Su.nu hr hq;have M:r≠m:=Su.nu hr hm;refine nJ (n:=m) (xs:=l.map tq) (S1:=S) hs
  (λi τ T=>∃y',τ=[x,.ref d,.ref r,.ref q,h,y']/\i<=l.length/\jZ T r=some (mk (qV (R,W)<|l.take i).1)/\jI T q=some ((qV (R,W)<|l.take i).2.map tq)/\Kp (Bq r q) S T)
  (λZ=>∃(y':A) (S':jK),Z=.nx [x,.ref d,.ref r,.ref q,h,y'] S'/\jZ S' r=some (mk (qV (R,W) l).1)/\jI S' q=some ((qV (R,W) l).2.map tq)/\Kp (Bq r q) S S')
  ⟨_,rfl,bK _,by rw[cW];exact hr,by rw[cW];exact hq,Kp.refl⟩ (λi τ T z=>?_) ?_ ?_
 ·obtain⟨_,_,_,_,_,kp⟩:=z;exact kp.lst _ _ (λz=>z.elim (λz=>M z.symm) mr) hm
 ·rintro i z τ T K ⟨y',rfl,_,dT,f,kp⟩;rw[aX]at K;obtain⟨o,C,rfl⟩:=aY.mp K;have G:=(aJ.mp C).1;have bl:=Og (l.take i) (R,W);rw[bP]at bl;have B:(qV (R,W)<|l.take i).1.length<=R.length+min i l.length:=bl.1;have t:(qV (R,W)<|l.take i).2.length<=W.length+min i l.length:=bl.2;have st:qV (R,W) (l.take<|i+1)=JO (qV (R,W)<|l.take i) o:=by
   unfold qV;rw[bZ,C,dF];rfl
  have k:Lr true (tq o) (.ref r) T=.ok (.bl<|!decide (o∈(qV (R,W)<|l.take i).1)) T:=by
   have:=QO (d:=r) (S:=T) (o:=o);rw[dT,jY,isD,DM]at this;exact this
  refine⟨[x,.ref d,.ref r,.ref q,h,tq o],T,rfl,.inl ?_⟩;unfold oZ;by_cases c:o∈(qV (R,W)<|l.take i).1
  ·rw[bg c]at k;refine⟨[x,.ref d,.ref r,.ref q,h,tq o],T,?_,_,rfl,G,?_,?_,kp⟩
   ·dsimp[kg,mz,bools,uq,k,bW]
   ·rw[st];unfold JO;rw[aN c];exact dT
   ·rw[st];unfold JO;rw[aN c];exact f
  ·rw[bB c]at k;obtain⟨g,p⟩:∃g,g=(qV (R,W)<|l.take i).1:=⟨_,rfl⟩;obtain⟨j,J⟩:∃j,j=(qV (R,W)<|l.take i).2:=⟨_,rfl⟩;rw[<- p]at dT c B;rw[<- J]at f t;have e1:qd (.ref r) (tq o) (.bl true) T=.ok Unit.unit (T.set r<|.dct<|mk<|g++[o]):=by
    have:=Su.uF (n:=r) (o:=o) (v:=.bl true) (S:=T);rw[dT,jY,CA<|by rw[DM];exact c]at this;refine this.trans ?_;rw[pI<|by unfold mk;rw[aG];lia];unfold mk;rw[bC];rfl
   have L:jI (T.set r<|.dct<|mk<|g++[o]) q=some (j.map tq):=by
    refine mQ ?_;rw[bL F];exact jW f
   have lt:r<T.length:=Su.tV dT;have N:q<(T.set r<|.dct<|mk<|g++[o]).length:=by rw[bV];exact lB f
   refine⟨[x,.ref d,.ref r,.ref q,h,tq o],(T.set r<|.dct<|mk<|g++[o]).set q<|.lst<|(j++[o]).map tq,?_,_,rfl,G,?_,?_,(kp.qR<|.inl<|.inl rfl).qR<|.inl<|.inr rfl⟩
   ·rw[bC];dsimp[kg,mz,bools,uq,k,cV,Su.zd,e1,L,pI<|show(j.map tq).length<16777216 by rw[aG];lia];rfl
   ·rw[st];have:(JO (qV (R,W)<|l.take i) o).1=g++[o]:=by unfold JO;rw[aM<|by rw[<- p];exact c,p]
    rw[this];refine qI ?_;rw[bL<|cR F,bJ lt]
   ·have:(JO (qV (R,W)<|l.take i) o).2=j++[o]:=by unfold JO;rw[aM<|by rw[<- p];exact c,J]
    rw[st,this];refine mQ ?_;rw[bJ N]
 ·rintro τ T ⟨y',rfl,_,dT,f,kp⟩;rw[aG,b7]at dT f;exact⟨y',T,rfl,dT,f,kp⟩
end K66
namespace K66
open PySem L2 Am
def Yh{S:jK}{q:Nat}{W:Os}(hq:jI S q=some (W.map tq))(hl:W.getLast?=some h):Yg (.ref q) [] S=.ok (tq h) (S.set q<|.lst<|W.dropLast.map tq):=by
 show opt (jI S q) _=_;rw[hq,jY];show opt ((W.map tq)[(W.map tq).length-1]?) _=_;rw[<- List.getLast?_eq_getElem?,List.getLast?_map,hl];show R.ok (tq h) (S.set q<|.lst (W.map tq).dropLast)=_;rw[List.map_dropLast]
theorem NN{d r q L:Nat}{os:Os}{nx:ag->Os}{x:A}(hrL:L<=r)(hqL:L<=q):∀(f n:Nat) {S:jK}{R W:Os}{y4 y5:A},f<=n->rf os nx f R W=some res->Nx S d L os nx->jZ S r=some (mk R)->jI S q=some (W.map tq) ->
  ∃(y4' y5':A) (S':jK),kK kG kQ n [x,.ref d,.ref r,.ref q,y4,y5] S=.nx [x,.ref d,.ref r,.ref q,y4',y5'] S'/\jZ S' r=some (mk res)/\Kp (Bq r q) S S'
 | 0,_,_,_,_,_,_,_,h,_,_,_=>nomatch h
 | f+1,0,_,_,_,_,_,hn,_,_,_,_=>absurd hn (Nat.not_succ_le_zero _)
 | f+1,n+1,S,R,W,y4,y5,hn,h,hN,hr,hq=>by
  unfold rf at h;split at h
  case isFalse=>cases h
  rename_i g;obtain⟨g1,g2,g3⟩:=g;have M:=Bs hq
  cases F:W.getLast? with
  | none=>
   rw[F]at h
   cases h
   have:W=[]:=List.getLast?_eq_none_iff.mp F;subst this;refine⟨y4,y5,S,?_,hr,Kp.refl⟩;unfold kK;have t0:kG [x,.ref d,.ref r,.ref q,y4,y5] S=.ok false S:=by
    unfold kG;dsimp[kg,mz,bools,M];rfl
   rw[t0];rfl
  | some t=>
   rw[F]at h;have j:t∈W:=List.mem_of_getLast? F;obtain⟨ho,hl⟩:=g3 t j;have G:W≠[]:=λz=>by rw[z]at j;cases j
   have rq:r≠q:=Su.nu hr hq;have e1:=Yh hq F;obtain⟨S1,p⟩:∃S1,S1=S.set q (O.lst<|W.dropLast.map tq):=⟨_,rfl⟩;rw[<- p]at e1;have Z:Kp (Bq r q) S S1:=by rw[p];exact Kp.refl.qR (.inl<|.inr rfl)
   have B:Kp (·=q) S S1:=by rw[p];exact Kp.refl.qR (.inl rfl)
   have Y:jI S1 q=some (W.dropLast.map tq):=mQ (by rw[p,bJ<|lB hq]);have r1:=B.dct _ _ rq hr;have N1:=hN.kp B λn hn z=>()
   obtain⟨m,J,K,mL⟩:=N1.ix ho;obtain⟨N,S2,T,V,l2,k2⟩:=WN (x:=x) (h:=tq t) (y:=y5) (show nj [x,.ref d,.ref r,.ref q,tq t,y5] S1=.ok (lD m ((nx t).map tq).length) S1 from mw (by dsimp[kg,mz,bools,uq,J]) K) K () r1 Y g1 (by rw[List.length_dropLast];lia) hl;have C:=Z.trans k2;obtain⟨y4',y5',S3,P,d3,U⟩:=NN hrL hqL f n (x:=x) (y4:=tq t) (y5:=N) () h (hN.kp C λn hn z=>z.elim (λz=>()) λz=>()) V l2;refine⟨y4',y5',S3,?_,d3,C.trans U⟩;unfold kK;have t0:kG [x,.ref d,.ref r,.ref q,y4,y5] S=.ok true S:=by
    unfold kG;dsimp[kg,mz,bools,M]
    cases W with
    | nil=>exact absurd rfl G
    | cons _ _=>rfl
   have b0:kQ [x,.ref d,.ref r,.ref q,y4,y5] S=.nx [x,.ref d,.ref r,.ref q,tq t,N] S2:=by
    unfold kQ;have lq:(A.ref q).lst? S=some (W.map tq):=hq;dsimp[kg,mz,bools,lq,e1,↓T]
   rw[t0];show(match kQ _ S with
    | .nx k S'=>kK kG kQ n k S'
    | .ct k S'=>kK kG kQ n k S'
    | .bk k S'=>.nx k S'
    | r=>r)=_
   rw[b0];exact P
def OW{ck cv:Ex}{S2:jK}{v:A}(h1:ck τ S=.ok (tq o) S1)(h2:cv τ S1=.ok v S2):Hr ck cv τ S=.ok (.ref S2.length) (S2++[.dct [(o,v)]]):=by
 unfold Hr;rw[h1,R.mU,h2,R.mU];show opt (A.ints<|o.map .int) _=_;rw[ints_map];rfl
def Gq{d L:Nat}{os:Os}{nx:ag->Os}{f:Nat}{S:jK}{o:ag}(hf:f<=1000000)(h:rf os nx f [o] [o]=some res)(hN:Nx S d L os nx)(hL:L<=S.length) :
  ∃(r:Nat) (S':jK),lJ [tq o,.ref d] S=.ok (.ref r) S'/\jZ S' r=some (mk res)/\S.length<=r/\ly S S':=by
 obtain⟨S1,g⟩:∃S1,S1=S++[O.dct [(o,.bl true)]]:=⟨_,rfl⟩;have F:ly S S1:=by rw[g];kcf_m
 have J:jZ S1 S.length=some (mk [o]):=by rw[g];exact Su.o8
 have M:S1.length=S.length+1:=by rw[g,aW];rfl
 obtain⟨S2,j⟩:∃S2,S2=S1++[O.lst [tq o]]:=⟨_,rfl⟩;have p:ly S1 S2:=by rw[j];kcf_m
 have G:jI S2 S1.length=some ([o].map tq):=by rw[j];exact jX
 have C:=p.dct _ _ (λz=>z) J;have k:=F.trans p;obtain⟨y4,y5,S3,t,K,B⟩:=NN (r:=S.length) (q:=S1.length) (x:=tq o) (y4:=.unb) (y5:=.unb) hL () f 1000000 hf h (hN.kp k λ_ _ z=>z) C G;refine⟨S.length,S3,?_,K,aK _,k.old B λn hn _ z=>z.elim (λz=>()) λz=>()⟩;unfold lJ qL qS;have e0:=OW (ck:=jG 0) (cv:=eC<|.bl true) (τ:=[tq o,.ref d,.unb,.unb,.unb,.unb]) (S:=S) (S1:=S) (S2:=S) (o:=o) (v:=.bl true) (by dsimp[kg,mz,uq]) rfl;rw[<- g]at e0;dsimp[kg,mz,bools,mW,Nat.reduceAdd,Nat.reduceSub,e0,uq,Jz,<- j,↓t]
end K66
namespace K66
open PySem L2 Am
def Z1{x w:ag}:uc false (tq x) (tq w) S=.ok (.bl<|decide<|x=w) S:=F9 (by
 show sF (vJ S 11) (x.map .int) (w.map .int)=_;exact se x w)
theorem Kv:∀{ls:List<|ag},(∀l∈ls,l≠[])->Wl (ls.map tq)=some ls
 | [],_=>rfl
 | l::ls,h=>by
  have f:=h l<|aO ..;have d:=Kv λk g=>h k<|aQ _ g;show Wl (.tup (l.map .int)::ls.map tq)=_;unfold Wl;rw[ints_map]
  cases l with
  | nil=>exact absurd rfl f
  | cons k ks=>dsimp only;rw[d];rfl
def Jg{S:jK}{n:Nat}{ls:List<|ag}(h:jI S n=some (ls.map tq))(hne:∀l∈ls,l≠[]):yq (.ref n) S=.ok (.ref S.length) (S++[.lst<|(kB ls).map tq]):=by
 cases ls with
 | nil=>
  have e:isT (.ref n) S=false:=by
   show(match jI S n with
    | some (.tup _::_)=>true
    | _=>false)=_
   rw[h];rfl
  unfold yq;rw[e];show opt (jI S n) _=_;rw[h];rfl
 | cons l ls=>
  have e:isT (.ref n) S=true:=by
   show(match jI S n with
    | some (.tup _::_)=>true
    | _=>false)=_
   rw[h];rfl
  unfold yq;rw[e];show CQ n S=_;unfold CQ;rw[h,jY,Kv hne,jY];rfl
abbrev ev (es:List<|ag×Nat):List (ag×A):=es.map λe=>(e.1,.ref e.2)
def yN(es:List<|ag×Nat):(ev es).map (·.1)=es.map (·.1):=by unfold ev;rw[bz];rfl
def GI{S:jK}{d:Nat}(h:jZ S d=some kvs):lO (S.set d<|.dcf kvs) d=some kvs:=X8<|by rw[bJ<|Su.tV h]
def Nx.fz{S:jK}{d L:Nat}{os:Os}{nx:ag->Os}{rs:List<|ag×Nat}(h:jZ S d=some (ev rs))(h2:rs.map (·.1)=os)(h3:∀e∈rs,jI S e.2=some ((nx e.1).map tq)/\e.2<L)(hd:d<L):Nx (S.set d<|.dcf<|ev rs) d L os nx:=
 ⟨⟨rs,GI h,h2,λe f=>⟨mQ<|by rw[bL<|Su.nu h (h3 e f).1];exact jW (h3 e f).1,(h3 e f).2⟩⟩,hd⟩
def aal{S:jK}{d f:Nat}{os:Os}{nx rc:ag->Os}{rs:List<|ag×Nat}(h:jZ S d=some (ev rs))(h2:rs.map (·.1)=os)(h3:∀e∈rs,jI S e.2=some ((nx e.1).map tq))(nd:os.Nodup)(ln:os.length<=1000)(hf:f<=1000000)(hrc:∀o∈os,rf os nx f [o] [o]=some (rc o)) :
  ∃(S':jK) (es:List<|ag×Nat),Uz (.dct []) qd [none,some 0] (EA<|jG 0) (j_ 0) t9 (jG 0) (eFn lJ<|jH (jG 0)<|jH (jG 1) jR) [.ref d,x1,x2,x3,x4] S=.ok (.ref S.length) S'/\jZ S' S.length=some (ev es)/\es.map (·.1)=os/\(∀e∈es,jZ S' e.2=some (mk<|rc e.1)/\S.length<e.2)/\(es.map (·.2)).Nodup/\lO S' d=some (ev rs)/\Kp (·=d) S S':=by
 have hd:=Su.tV h;have P:=Nx.fz h h2 (λe C=>⟨h3 e C,lB<|h3 e C⟩) hd;obtain⟨S1,p⟩:∃S1,S1=S.set d (O.dcf<|ev rs):=⟨_,rfl⟩;rw[<- p]at P;have K:S1.length=S.length:=by rw[p,bV]
 have Y:Kp (·=d) S S1:=by rw[p];exact Kp.refl.qR (.inl rfl)
 have N:lO S1 d=some (ev rs):=by rw[p];exact GI h
 have hs:EA (jG 0) [.ref d,x1,x2,x3,x4] S=.ok (pU<|os.map tq) S1:=by
  unfold EA;show opt (jZ S d) _=_;rw[h,jY,<- p];have:(ev rs).map ZN=os.map tq:=by rw[<- h2];unfold ev;rw[bz,bz];rfl
  rw[this]
 obtain⟨S2,q⟩:∃S2,S2=S1++[O.dct []]:=⟨_,rfl⟩;have M:ly S1 S2:=by rw[q];kcf_m
 have l2:S2.length=S.length+1:=by rw[q,aW,K];rfl
 have V:jZ S2 S.length=some (ev []):=by rw[q,<- K];exact Su.o8
 obtain⟨Z,S',e1,es,p1,p2,p3,L,t⟩:=O1 (st:=qd) (s:=pU<|os.map tq) (g:=j_ 0) (ek:=jG 0) (ev:=eFn lJ<|jH (jG 0)<|jH (jG 1) jR) (n:=S.length)
  (λi T=>∃es:List<|ag×Nat,jZ T S.length=some (ev es)/\es.map (·.1)=os.take i/\(∀e∈es,jZ T e.2=some (mk<|rc e.1)/\S.length<e.2)/\(es.map (·.2)).Nodup/\Kp (·=S.length) S2 T) (λτ=>∃y,τ=[y,.ref d]) (λi τ T B hq hP=>by
   obtain⟨y,rfl⟩:=hq;obtain⟨es,p1,p2,p3,L,t⟩:=hP;have B:i<(os.map tq).length:=B;rw[aG]at B;have ho:os[i]∈os:=eG B;have U:Nx T d S.length os nx:=(P.kp M λ_ _ z=>z).kp t λn hn z=>()
   have tl:=t.len;obtain⟨r,T1,x1,W,q2,G⟩:=Gq hf (hrc _ ho) U ();have F:=G.dct _ _ (λz=>z) p1;have new:os[i]∉(ev es).map (·.1):=by
    rw[yN,p2];intro z;obtain⟨j,hj,e⟩:=cD.mp z;rw[List.getElem_take]at e;have lj:j<i:=by rw[bP]at hj;lia
    have:=(cX nd).mp e
    lia
   have e5:qd (.ref S.length) (tq os[i]) (.ref r) T1=.ok Unit.unit (T1.set S.length<|.dct<|ev<|es++[(os[i],r)]):=by
    have:=Su.uF (n:=S.length) (o:=os[i]) (v:=.ref r) (S:=T1);rw[F,jY,CA new]at this;refine this.trans ?_;have le:es.length=i:=by have:=c7 List.length p2;rw[aG,bP]at this;lia
    rw[pI<|by unfold ev;rw[aG];lia];unfold ev;rw[bC];rfl
   have J:Kp (·=S.length) T1 (T1.set S.length<|.dct<|ev<|es++[(os[i],r)]):=Kp.refl.qR<|.inl rfl;refine⟨tq os[i],[tq os[i],.ref d],T,tq os[i],T,.ref r,T1,_,?_,rfl,⟨_,rfl⟩,rfl,?_,e5,es++[(os[i],r)],?_,?_,λe C=>?_,?_,(t.trans G.of0).trans J⟩
   ·show(os.map tq)[i]?=_;rw[aX,aI B];rfl
   ·dsimp[kg,mz,bools,uq,x1]
   ·exact qI (by rw[bJ<|Su.tV F])
   ·rw[bC,p2,bZ,aI B];rfl
   ·rcases bq.mp C with z|z
    ·have:=p3 e z;exact⟨J.dct _ _ ()<|G.dct _ _ (λz=>z) this.1,this.2⟩
    ·rw[aP.mp z];exact⟨J.dct _ _ (by show ¬r=S.length;lia) W,by show S.length<r;lia⟩
   ·rw[bC,cE];refine⟨L,bU.mpr ⟨(λz=>nomatch z),dz⟩,λa ha b hb z=>?_⟩;obtain⟨e,C,rfl⟩:=bu.mp ha;rw[aP.mp hb]at z;have:=Su.tV (p3 e C).1;have z:e.2=r:=z
    lia) (λ_ _=>rfl) (os.map tq).length 0 (lX [none,some 0] [.ref d,x1,x2,x3,x4]) S2 rfl ⟨_,rfl⟩ ⟨[],V,rfl,(nofun),dz,Kp.refl⟩
 refine⟨S',es,?_,p1,?_,p3,L,uz (uz N M λz=>z) t (),(Y.trans M.of0).old t λn hn _ z=>()⟩
 ·unfold Uz;rw[hs,R.mU,<- q,K];show(yG _ _ _ _ _ _ _ (os.map tq).length 0 _ _).oN _=_;rw[e1];rfl
 ·have:(pU<|os.map tq).k=os.length:=aG ..;rw[this,b7]at p2;exact p2
end K66
namespace K66
open PySem L2 Am
structure Hs (S:jK)(n L:Nat)(gs:List Os):Prop where
 ex:∃hs:List<|Os×Nat,jI S n=some (hs.map λh=>.ref h.2)/\hs.map (·.1)=gs/\∀h∈hs,jI S h.2=some (h.1.map tq)/\L<h.2
abbrev un:A->ag
 | .tup xs=>xs.map YM
 | _=>[]
def yx(o:ag):un (tq o)=o:=by
 show(o.map A.int).map YM=o;rw[bz];exact gQ _
abbrev D4 (rc:ag->Os)(o:ag):Os:=kB<|(rc o).filter λp=>decide<|o∈rc p
abbrev hq (rc:ag->Os)(o:ag):Bool:=decide<|(D4 rc o).head?=some o
def Zu{T:jK}{d D H:Nat}{es:List<|ag×Nat}{os:Os}{rc:ag->Os}{xs:ae}{e:ag×Nat}(h1:jZ T D=some (ev es))(h2:es.map (·.1)=os)(h3:∀e∈es,lO T e.2=some (mk<|rc e.1))(he:e∈es)(nd:os.Nodup)(h4:jZ T e.2=some (mk<|rc e.1))(h5:jI T H=some xs)(lx:xs.length<1000)(sub:∀p∈rc e.1,p∈os/\p≠[])(lr:(rc e.1).length<=1000)(ne:D4 rc e.1≠[])(De:D≠e.2) :
  ∃(r:Nat) (T':jK),oJ [.ref d,.ref D,.ref H,tq e.1,y] T=.nx [.ref d,.ref D,.ref H,tq e.1,.ref r] T'/\jI T' r=some ((D4 rc e.1).map tq)/\T.length<=r/\jI T' H=some (xs++if hq rc e.1=true then[.ref r]else[])/\lO T' e.2=some (mk<|rc e.1)/\Kp (λn=>n=e.2\/n=H) T T':=by
 have look:∀p∈os,∃f∈es,f.1=p/\kN (ev es) p=some (.ref f.2):=λp P=>JK (by rw[h2];exact P);have ee:kN (ev es) e.1=some (.ref e.2):=by
  obtain⟨f,F,M,V⟩:=look e.1 (by rw[<- h2];exact bu.mpr ⟨e,he,rfl⟩);have:f=e:=by
   rw[<- h2]at nd;unfold List.Nodup at nd;rw[cJ]at nd;obtain⟨i,hi,rfl⟩:=cD.mp F;obtain⟨j,hj,rfl⟩:=cD.mp he
   rcases Nat.lt_trichotomy i j with c|c|c
   ·exact absurd M (cA.mp nd i j hi hj c)
   ·subst c;rfl
   ·exact absurd M.symm<|cA.mp nd j i hj hi c
  rw[V,this]
 obtain⟨T1,g⟩:∃T1,T1=T.set e.2 (O.dcf<|mk<|rc e.1):=⟨_,rfl⟩;have N:Kp (·=e.2) T T1:=by rw[g];exact Kp.refl.qR (.inl rfl)
 have l1:T1.length=T.length:=by rw[g,bV]
 have d1:=N.dct _ _ De h1;have He:H≠e.2:=λz=>Su.nu h4 h5 z.symm;have c1:∀f∈es,lO T1 f.2=some (mk<|rc f.1):=λf F=>by
  by_cases c:f.2=e.2
  ·have:mk (rc f.1)=mk (rc e.1):=by
    have a:=h3 f F;rw[c,h3 e he]at a;exact(bf a).symm
   rw[c,this,g];exact GI h4
  ·exact uz (h3 f F) N c
 have W:sX (.ref D) (tq e.1) T=.ok (.ref e.2) T:=by rw[Qn,h1,jY,ee,jY]
 have hs:EA (jO sX (jG 1)<|jG 3) [.ref d,.ref D,.ref H,tq e.1,y] T=.ok (pU<|(rc e.1).map tq) T1:=by
  unfold EA;have:jO sX (jG 1) (jG 3) [.ref d,.ref D,.ref H,tq e.1,y] T=.ok (.ref e.2) T:=by dsimp[kg,mz,uq,W]
  rw[this,R.mU];show opt (jZ T e.2) _=_;rw[h4,jY,<- g];have:(mk<|rc e.1).map ZN=(rc e.1).map tq:=by unfold mk;rw[bz];rfl
  rw[this]
 have cf:=L_ (cap:=[some 3,some 1]) (t:=qm<|jO (KG false) (jG 1)<|jO sX (jG 2)<|jG 0) (e:=jG 0) hs (λx=>decide<|e.1∈rc (un x)) (λx=>x) (λx Y=>by
  obtain⟨p,P,rfl⟩:=bu.mp Y;obtain⟨f,F,M,V⟩:=look p (sub p P).1;subst M;have i1:sX (.ref D) (tq f.1) T1=.ok (.ref f.2) T1:=by rw[Qn,d1,jY,V,jY]
  have i2:KG false (tq e.1) (.ref f.2) T1=.ok (.bl<|decide<|e.1∈rc f.1) T1:=by rw[Wf,c1 f F,jY,isD,DM]
  rw[yx];show qm (jO (KG false) (jG 1)<|jO sX (jG 2)<|jG 0) [tq f.1,tq e.1,.ref D] T1=_;dsimp[kg,mz,bools,uq,i1,i2]) (λx Y _=>by
  obtain⟨p,P,rfl⟩:=bu.mp Y;show jG 0 (tq p::_) T1=_;dsimp[kg,mz,uq])<|by rw[aG];lia
 have el:((((rc e.1).map tq).filter λx=>decide<|e.1∈rc (un x)).map λx=>x)=((rc e.1).filter λp=>decide<|e.1∈rc p).map tq:=by
  rw[jy,dI];congr 1;refine ig λp _=>?_;show decide (e.1∈rc (un<|tq p))=_;rw[yx]
 rw[el]at cf;obtain⟨T2,q⟩:∃T2,T2=T1++[O.lst<|((rc e.1).filter λp=>decide<|e.1∈rc p).map tq]:=⟨_,rfl⟩;have k2:ly T1 T2:=by rw[q];kcf_m
 have U:=Jg (S:=T2) (n:=T1.length) (ls:=(rc e.1).filter λp=>decide<|e.1∈rc p) (by rw[q];exact jX) λl hl=>(sub l (cg.mp hl).1).2;rw[<- q]at cf;obtain⟨T3,B⟩:∃T3,T3=T2++[O.lst<|(D4 rc e.1).map tq]:=⟨_,rfl⟩;have U:yq (.ref T1.length) T2=.ok (.ref T2.length) T3:=by rw[B];exact U
 have k3:ly T2 T3:=by rw[B];kcf_m
 have Z:jI T3 T2.length=some ((D4 rc e.1).map tq):=by rw[B];exact jX
 have C:=k2.trans k3;have H3:jI T3 H=some xs:=C.lst _ _ (λz=>z)<|N.lst _ _ He h5;have c3:lO T3 e.2=some (mk<|rc e.1):=uz (c1 e he) C λz=>z;have K:Kp (λn=>n=e.2\/n=H) T T3:=(N.mono λ_ _ z=>.inl z).trans C.of0;have J:T.length<=T2.length:=by have:=k2.len;lia
 have lH:=lB h5;obtain⟨a,t,ha⟩:∃a t,D4 rc e.1=a::t:=by
  cases c:D4 rc e.1 with
  | nil=>exact absurd c ne
  | cons a t=>exact⟨a,t,rfl⟩
 have L:jI T3 T2.length=some (tq a::t.map tq):=by rw[Z,ha];rfl
 have k:=Z1 (S:=T3) (x:=a) (w:=e.1);have G:hq rc e.1=decide (a=e.1):=by
  unfold hq;rw[ha];exact eK.mpr ⟨λz=>bf z,λz=>by rw[z];rfl⟩
 by_cases c:a=e.1
 ·have k4:Kp (λn=>n=e.2\/n=H) T3 (T3.set H<|.lst<|xs++[.ref T2.length]):=Kp.refl.qR<|.inl<|.inr rfl;refine⟨T2.length,T3.set H<|.lst<|xs++[.ref T2.length],?_,mQ<|by rw[bL ()];exact jW Z,J,?_,uz c3 (show Kp (·=H) T3 _ from Kp.refl.qR<|.inl rfl)<|cR He,K.trans k4⟩
  ·unfold oJ;rw[bg c]at k;dsimp[kg,mz,bools,↓cf,U,L,xx,uq,k,H3,pI<|show xs.length<16777216 by lia]
  ·rw[G,aN<|bg c];exact mQ<|by rw[bJ<|lB H3]
 ·refine⟨T2.length,T3,?_,Z,J,?_,c3,K⟩
  ·unfold oJ;rw[bB c]at k;dsimp[kg,mz,bools,↓cf,U,L,xx,uq,k]
  ·rw[G,aM<|by rw[g_];exact c,b8];exact H3
end K66
namespace K66
open PySem L2 Am
abbrev Ri (os:Os)(rc:ag->Os):List Os:=((kB os).filter<|hq rc).map<|D4 rc
def Pq{S:jK}{d:Nat}{kvs:List<|ag×A}(h:lO S d=some kvs)(hne:∀k∈kvs.map (·.1),k≠[]):Gg (.ref d) S=.ok (.ref S.length) (S++[.lst<|(kB<|kvs.map (·.1)).map tq]):=by
 show Hg d S=_;unfold Hg;rw[h,jY];have:(kvs.map Prod.fst).all (λks=>!ks.isEmpty)=true:=dO.mpr λk f=>by
  cases k with
  | nil=>exact absurd rfl (hne _ f)
  | cons _ _=>rfl
 rw[this];rfl
def FJ{S:jK}{d f:Nat}{os:Os}{nx rc:ag->Os}{rs:List<|ag×Nat}(h:jZ S d=some (ev rs))(h2:rs.map (·.1)=os)(h3:∀e∈rs,jI S e.2=some ((nx e.1).map tq))(nd:os.Nodup)(ln:os.length<=900)(hf:f<=1000000)(hrc:∀o∈os,rf os nx f [o] [o]=some (rc o))(hne:∀o∈os,o≠[])
  (sub:∀o∈os,(∀p∈rc o,p∈os)/\(rc o).length<=1000/\D4 rc o≠[]) :
  ∃(r:Nat) (S':jK),qH [.ref d] S=.ok (.ref r) S'/\Hs S' r r (Ri os rc)/\S.length<=r/\Kp (·=d) S S':=by
 obtain⟨S1,es,x1,d1,e1,e2,e3,e4,k1⟩:=aal (x1:=.unb) (x2:=.unb) (x3:=.unb) (x4:=.unb) h h2 h3 nd () hf hrc;have sl1:S.length<S1.length:=Su.tV d1;obtain⟨S2,K⟩:∃S2,S2=S1++[O.lst []]:=⟨_,rfl⟩;have k2:ly S1 S2:=by rw[K];kcf_m
 have l2:jI S2 S1.length=some []:=by rw[K];exact jX
 have sl2:S2.length=S1.length+1:=by rw[K,aW];rfl
 have c2:=uz e4 k2 λz=>z;have sf:=Pq c2 (by rw[yN,h2];exact hne);rw[yN,h2]at sf;obtain⟨S3,N⟩:∃S3,S3=S2++[O.lst<|(kB os).map tq]:=⟨_,rfl⟩;rw[<- N]at sf;have k3:ly S2 S3:=by rw[N];kcf_m
 have m3:jI S3 S2.length=some ((kB os).map tq):=by rw[N];exact jX
 have J:=k2.trans k3;have ps:=j8 os;have nds:(kB os).Nodup:=ps.nodup_iff.mpr nd;have lso:(kB os).length=os.length:=ps.length_eq;have Y:∃(L B:A) (S':jK),lV sY (j_ 3) oJ [.ref d,.ref S.length,.ref S1.length,.unb,.unb] S2=.nx [.ref d,.ref S.length,.ref S1.length,L,B] S'/\Hs S' S1.length S1.length (Ri os rc)/\Kp (λn=>S.length<=n) S3 S':=by
  refine nJ (n:=S2.length) (xs:=(kB os).map tq) (S1:=S3) (show sY _ _=_ from mw (by dsimp[kg,mz,bools,sf]) m3)
   (λi τ T=>∃(L B:A) (hs:List<|Os×Nat),τ=[.ref d,.ref S.length,.ref S1.length,L,B]/\i<=(kB os).length/\jZ T S.length=some (ev es)/\(∀e∈es,lO T e.2=some (mk<|rc e.1))/\(∀e∈es,e.1∈(kB os).drop i->jZ T e.2=some (mk<|rc e.1))/\jI T S1.length=some (hs.map λh=>.ref h.2)/\hs.map (·.1)=(((kB os).take i).filter<|hq rc).map (D4 rc)/\hs.length<=i/\(∀h∈hs,jI T h.2=some (h.1.map tq)/\S1.length<h.2)/\jI T S2.length=some ((kB os).map tq)/\Kp (λn=>S.length<=n) S3 T)
   (λZ=>∃(L B:A) (S':jK),Z=.nx [.ref d,.ref S.length,.ref S1.length,L,B] S'/\Hs S' S1.length S1.length (Ri os rc)/\Kp (λn=>S.length<=n) S3 S')
   ⟨_,_,[],rfl,bK _,J.dct _ _ (λz=>z) d1,(λe t=>Xm<|J.dct _ _ (λz=>z) (e2 e t).1),(λe t _=>J.dct _ _ (λz=>z) (e2 e t).1),k3.lst _ _ (λz=>z) l2,by rw[cW];rfl,bK _,(nofun),m3,Kp.refl⟩ (λi τ T z=>?_) ?_ ?_
  ·obtain⟨_,_,_,_,_,_,_,_,_,_,_,_,m,_⟩:=z;exact m
  ·rintro i z τ T hz ⟨L,B,hs,rfl,_,i1,M,i3,i4,i5,i6,i7,i8,kp⟩;rw[aX]at hz;obtain⟨o,W,rfl⟩:=aY.mp hz;have hi:=(aJ.mp W).1;have oso:o∈kB os:=aS W;have V:o∈os:=ps.mem_iff.mp oso;have:o∈es.map (·.1):=by rw[e1];exact V
   obtain⟨e,t,rfl⟩:=bu.mp this;have dr:e.1∈(kB os).drop i:=cD.mpr ⟨0,by rw[eF];lia,by rw[List.getElem_drop];exact(aJ.mp W).2⟩;have sb:=sub e.1 V;obtain⟨r,T1,b1,b2,b3,b4,b5,b6⟩:=Zu (d:=d) (y:=B) i1 e1 M t nd (i3 e t dr) i4 (by rw[aG];lia) (λp hp=>⟨sb.1 p hp,hne p<|sb.1 p hp⟩) sb.2.1 sb.2.2 (by have:=(e2 e t).2;lia);have eH:∀k∈es,k.2≠S1.length:=λk G z=>by
    have:=G0 (M k G) i4;exact this z
   have P:Kp (λn=>n=e.2\/n=S1.length) T T1:=b6;have tl:=kp.len;have tl3:S2.length<S3.length:=lB m3;refine⟨[.ref d,.ref S.length,.ref S1.length,tq e.1,B],T,rfl,.inl ⟨_,T1,b1,_,_,hs++(if hq rc e.1=true then[(D4 rc e.1,r)]else[]),rfl,hi,?_,?_,?_,?_,?_,?_,?_,?_,?_⟩⟩
   ·exact P.dct _ _ (λz=>z.elim (λz=>by have:=(e2 e t).2;lia) λz=>()) i1
   ·intro k G;by_cases c:k.2=e.2
    ·have a:=M k G;rw[c,M e t]at a;rw[c,b5];exact a
    ·exact uz (M k G) P λz=>z.elim c<|eH k G
   ·intro k G C;have ne:k.2≠e.2:=λc=>by
     have U:k≠e:=λz=>by
      rw[z]at C;obtain⟨j,hj,ej⟩:=cD.mp C;rw[List.getElem_drop,<- (aJ.mp W).2]at ej;have:=(cX nds).mp ej
      lia
     have F:=e3;unfold List.Nodup at F;rw[cJ]at F;obtain⟨a,ha,rfl⟩:=cD.mp G;obtain⟨b,hb,rfl⟩:=cD.mp t
     rcases Nat.lt_trichotomy a b with q|q|q
     ·exact absurd c (cA.mp F a b ha hb q)
     ·subst q;exact U rfl
     ·exact absurd c.symm<|cA.mp F b a hb ha q
    have dr2:k.1∈(kB os).drop i:=by
     rw[<- List.drop_drop]at C;exact dW C
    exact P.dct _ _ (λz=>z.elim ne<|eH k G)<|i3 k G dr2
   ·rw[b4,bC];by_cases c:hq rc e.1=true
    ·rw[aN c,aN c];rfl
    ·rw[aM c,aM c];rfl
   ·rw[bC,i5,bZ,W,List.filter_append,bC];congr 1;show _=((([e.1]:Os).filter<|hq rc).map<|D4 rc);by_cases c:hq rc e.1=true
    ·rw[aN c,gp,aN c];rfl
    ·rw[aM c,gp,aM c];rfl
   ·rw[aW];split
    ·show hs.length+1<=i+1;lia
    ·show hs.length+0<=i+1;lia
   ·intro g hg
    rcases bq.mp hg with z|z
    ·have:=i7 g z;refine⟨P.lst _ _ (λw=>w.elim (λw=>?_) λw=>()) this.1,this.2⟩;exact G0 (M e t) this.1 w.symm
    ·split at z
     ·rw[aP.mp z];exact⟨b2,by show S1.length<r;lia⟩
     ·cases z
   ·exact P.lst _ _ (λw=>w.elim (λw=>G0 (M e t) i8 w.symm) λw=>()) i8
   ·exact kp.trans<|P.mono λn hn z=>z.elim (λz=>by have:=(e2 e t).2;lia) λz=>()
  ·rintro τ T ⟨L,B,hs,rfl,_,i1,M,i3,i4,i5,i6,i7,i8,kp⟩;rw[aG,b7]at i5;exact⟨L,B,T,rfl,⟨hs,i4,i5,i7⟩,kp⟩
 obtain⟨L,B,S4,x4,h4,k4⟩:=Y;refine⟨S1.length,S4,?_,h4,dR sl1,(k1.trans J.of0).old k4 λn hn _ z=>()⟩;unfold qH vU wF;dsimp[kg,mz,bools,mW,Nat.reduceAdd,Nat.reduceSub,↓x1,<- K,↓x4]
end K66
namespace Nu
open PySem L2
abbrev oQ:Nat->Nat
 | 0=>1
 | n+1=>(n+1) * oQ n
theorem Ck:∀n,0<oQ n
 | 0=>Nat.one_pos
 | n+1=>Nat.mul_pos (succ_pos _)<|Ck n
def Fg(n:Nat):oQ n<=oQ (n+1):=Nat.le_mul_of_pos_left _<|succ_pos _
def FH{a:Nat}(h:a<=b):oQ a<=oQ b:=by
 induction h with
 | refl=>exact aK _
 | step _ d=>exact bH d<|Fg _
def UM{n:Nat}(h:n<=20):oQ n<=2432902008176640000:=bH (FH h) ⋯
abbrev Sw:Nat->ag->Nat->ag
 | 0,_,_=>[]
 | n+1,l,m=>l.getD (m / oQ n) 0::Sw n (l.eraseIdx<|m / oQ n) (m % oQ n)
def KO{n:Nat}(h:m<oQ (n+1)):m / oQ n<n+1:=(Nat.div_lt_iff_lt_mul<|Ck n).mpr h
def R_{l:ag}{q:Nat}(h:q<l.length):l.getD q 0=l[q]:=by rw[aL,aI h];rfl
end Nu
namespace K66
open PySem L2 Am
open Nu in
def CN{n:Nat}(h:n<=20):lZ [.int n] S=.ok (.int<|oQ n) S:=by
 have h1:oQ (0+1)=1:=rfl;unfold lZ uU uR;dsimp[kg,bools,mW,Nat.reduceAdd,Nat.reduceSub];refine zg (lo:=2) (hi:=(n:Int)+1) (S1:=S) (show vM _ _=_ from AB (S1:=S) (by dsimp[kg,bools]) (by dsimp[kg,bools]) (qz ⋯ ⋯)<|qz () ())
  (λi τ S1=>(∃a,τ=[.int n,.int<|oQ<|i+1,a])/\S1=S)
  (λr=>RS.end (RS.seq r<|mh<|jG 1)=.ok (.int<|oQ n) S) ⟨⟨.unb,by dsimp[h1];rfl⟩,rfl⟩ ?_ ?_
 ·rintro i τ S1 hi ⟨⟨a,rfl⟩,rfl⟩;left;have e:W_ (.int<|oQ<|i+1) (.int<|2+(i:Int)) S1=.ok (.int<|oQ<|i+2) S1:=by
   show gd (xj _ _) _=_;rw[Ti (show xj ((oQ (i+1):Nat):Int) (2+(i:Int))=true by
    unfold xj;rw[Bool.or_eq_true,gh,gh];exact .inr ⟨bg (),bg ()⟩)]
   rw[show oQ (i+2)=(i+2) * oQ (i+1)from rfl,mul_comm,Int.natCast_mul];rw[show(2:Int)+(i:Int)=((i+2:Nat):Int)by lia]
  unfold vN;dsimp[kg,bools,e];exact⟨_,_,rfl,⟨_,rfl⟩,rfl⟩
 ·rintro τ S1 ⟨⟨a,rfl⟩,rfl⟩;dsimp[kg,bools];rw[show oQ (((n:Int)+1-2).toNat+1)=oQ n by
   by_cases z:n=0
   ·subst z;rfl
   ·rw[show((n:Int)+1-2).toNat+1=n by lia]]
def Nd{n:Nat}{xs:ae}(h:jI S n=some xs):A.Vc (.ref n) S=some (!xs.isEmpty):=by
 show(jI S n).map _=_;rw[h];rfl
open Nu in
def XU{n:Nat}(h2:n<=20)(hm:m<oQ n):∃S',nS [.int n,.int m] S=.ok (.tup<|(Sw n (lU 1<|(n:Int)+1) m).map .int) S'/\ly S S':=by
 have U:=UM h2;unfold nS wc wA;dsimp[kg,mz,bools,mW,Nat.reduceAdd,Nat.reduceSub,OS,bW,bB<|show ¬(m:Int)<0 by lia,CN h2,bB<|show ¬(oQ n:Int)<=(m:Int)by lia,B0<|FO (show(-1000000:Int)<=1 by decide) ⋯ (show -1000000<=(n:Int)+1 by lia) () ()];have K:(lU 1<|(n:Int)+1).length=n:=by rw[sE];lia
 have F:=zR (t:=tZ) (c:=tO)
  (λτ S1=>∃(k q:Nat) (L:A) (d fs:ag),τ=[.int n,.int q,.ref S.length,.ref<|S.length+1,L]/\jI S1 S.length=some (d.map .int)/\jI S1 (S.length+1)=some (fs.map .int)/\d.length=k/\k<=20/\fs.length<=20-k/\q<oQ k/\fs++Sw k d q=Sw n (lU 1<|(n:Int)+1) m/\ly S S1)
  (λτ S1=>((jI S1 S.length).getD []).length)
  (λr=>∃S',RS.end (RS.seq r<|mh<|kC (f1 wg)<|jH (jG 3) jR)=.ok (.tup<|(Sw n (lU 1<|(n:Int)+1) m).map .int) S'/\ly S S') ?_ 1000000
 ·have G:(S++[O.lst<|(lU 1<|(n:Int)+1).map A.int]).length=S.length+1:=by simp
  have M:jI (S++[O.lst<|(lU 1<|(n:Int)+1).map A.int]++[O.lst []]) S.length=some ((lU 1<|(n:Int)+1).map .int):=kM jX;have Z:jI (S++[O.lst<|(lU 1<|(n:Int)+1).map A.int]++[O.lst []]) (S.length+1)=some (([]:ag).map .int):=by rw[<- G];exact jX
  rw[G];refine F _ _ ⟨n,m,.unb,lU 1<|(n:Int)+1,[],rfl,M,Z,K,h2,bK _,hm,rfl,Kp.refl.lay.lay⟩ ?_;show((jI _ S.length).getD []).length<_;rw[M,dN,aG,K];lia
 ·rintro τ S1 ⟨k,q,L,d,fs,rfl,p,z,J,Y,lf,hq,g,kp⟩;unfold tZ;dsimp[kg,bools,Nd p]
  cases k with
  | zero=>
   left;have:d=[]:=List.eq_nil_of_length_eq_zero J;subst this;have g:fs++[]=_:=g;rw[b8]at g;refine⟨S1,rfl,S1,?_,kp⟩;dsimp[kg,bools,z,g]
  | succ k=>
   right;have ne:(!(d.map A.int).isEmpty)=true:=by
    cases d with
    | nil=>cases J
    | cons _ _=>rfl
   refine⟨S1,by rw[ne],.inl ?_⟩;have hd:=KO hq;have f:q / oQ k<d.length:=()
   have fk:=UM (show k<=20 by lia);have W:=Ck k;have ek:((d.length:Int)-1)=(k:Int):=()
   have P:(q:Int) / (oQ k:Int)=((q / oQ k:Nat):Int):=(Int.natCast_ediv _ _).symm;have V:=lB p;have lF:=lB z;have C:zX (.ref S.length) [.int ((q / oQ k:Nat):Int)] S1=.ok (.int<|d.getD (q / oQ k) 0) (S1.set S.length<|.lst<|(d.eraseIdx<|q / oQ k).map .int):=by
    show opt (jI S1 S.length) _=_;generalize hgj:q / oQ k=j at hd f;rw[p,jY,Ti (),PySem.seqIndex_of ()<|by rw[aG];lia,jY,fm,aX,aI f,eY,jY,R_ f];congr 3;rw[ir,ir,bC,map_take,map_drop]
   have B:jI (S1.set S.length<|.lst<|(d.eraseIdx<|q / oQ k).map .int) (S.length+1)=some (fs.map .int):=by rw[k9 ()];exact z
   unfold tO;dsimp[kg,bools,p,aG,ek,CN<|show k<=20 by lia,z,W8 (show(0:Int)<(oQ k:Int)by lia)<|show(oQ k:Int)<18446744073709551616 by lia,P,C,B,pI<|show fs.length<16777216 by lia,mul_r (show(-18446744073709551616:Int)<(oQ k:Int)by lia)<|show(oQ k:Int)<18446744073709551616 by lia];have T:(q:Int)-((q / oQ k:Nat):Int) * (oQ k:Int)=((q % oQ k:Nat):Int):=by
    have:=Nat.div_add_mod q<|oQ k;rw[mul_comm]at this;rw[<- Int.natCast_mul]
    lia
   rw[T];have N:jI ((S1.set S.length<|.lst<|(d.eraseIdx<|q / oQ k).map .int).set (S.length+1)<|.lst<|fs.map A.int++[.int<|d.getD (q / oQ k) 0]) S.length=some ((d.eraseIdx<|q / oQ k).map .int):=by rw[k9 ()];exact oz V
   refine⟨_,_,rfl,⟨k,q % oQ k,_,d.eraseIdx<|q / oQ k,fs++[d.getD (q / oQ k) 0],rfl,N,?_,?_,(),by rw[aW];show fs.length+1<=_;lia,Nat.mod_lt _ W,?_,(kp.set<|.inr<|aK _).set<|.inr ()⟩,?_⟩
   ·rw[oz<|by rw[bV];lia,bC];rfl
   ·rw[List.length_eraseIdx,aN f];lia
   ·rw[<- g,bX];rfl
   ·rw[N,dN,dN,aG,aG,List.length_eraseIdx,aN f];lia
abbrev ao (n:Nat):Os:=(List.range<|Nu.oQ n).map λm=>Nu.Sw n (lU 1<|(n:Int)+1) m
def XF{n:Nat}(hn:n<=4):∃S',oh [.int n] S=.ok (.ref S'.length) (S'++[.lst<|(ao n).map tq])/\ly S S':=by
 have f4:Nu.oQ n<=24:=bH (Nu.FH hn) ⋯;have g:=CN (S:=S) (n:=n) ();obtain⟨S',d,j⟩:=zc (cap:=[some 0]) (t:=t9) (e:=eFn nS<|jH (jG 1)<|jH (jG 0) jR) (τ:=[.int (n:Int)]) (S:=S) (S1:=S) (src:=qM<|eFn lZ<|jH (jG 0) jR) (s:=tR 0<|Nu.oQ n) (xs:=(List.range<|Nu.oQ n).map λm:Nat=>A.int (m:Int)) (uh (by dsimp[kg,mz,bools,g])<|qz () ()) (by rw[aG,b_];show((Nu.oQ n:Int)-0).toNat=_;lia) (λ_=>False) (λT _ i f=>by
   rw[aG,b_]at f;show(if i<((Nu.oQ n:Int)-0).toNat then some (A.int<|0+i)else none)=_;rw[aN (),aX,gv f,c_];rfl) (λ_ _=>rfl) (λ_=>true) (λx=>tq<|Nu.Sw n (lU 1<|(n:Int)+1) (YM x).toNat) (λx p T z=>⟨T,rfl,Kp.refl,λ_=>by
   obtain⟨m,q,rfl⟩:=bu.mp p;obtain⟨T2,e2,k⟩:=XU (S:=T) (n:=n) (m:=m) ()<|cO.mp q;refine⟨T2,?_,k⟩;show eFn nS (jH (jG 1)<|jH (jG 0) jR) [.int m,.int n] T=_;dsimp[kg,mz,bools,e2];rfl⟩)<|by rw[aG,b_];lia
 refine⟨S',?_,j⟩;have el:((((List.range<|Nu.oQ n).map λm:Nat=>A.int (m:Int)).filter λ_=>true).map λx=>tq<|Nu.Sw n (lU 1<|(n:Int)+1) (YM x).toNat)=(ao n).map tq:=by
  rw[gA.mpr λ_ _=>rfl,bz];unfold ao;rw[bz];rfl
 rw[el]at d;unfold oh sV t7;dsimp[kg,mz,bools,mW,Nat.reduceAdd,Nat.reduceSub,bB<|show ¬(n:Int)>4 by lia,↓d]
end K66
namespace K66
open PySem L2 Am
open Fw (rg)
abbrev Yl (n:Nat)(os:Os)(o:ag):Os:=os.filter λp=>decide ((o,p)∈Ld os) && hof n p o
def V4{L N:Nat}{os:Os}{o:ag}(hN:N<6)(hm:jI T m=some (os.map tq))(hL:Ks T L M<|Ld os)(ll:os.length<=1000)(lo:o.length=N)(lp:∀p∈os,p.length=N) :
  ∃T',kH [none,some 2,some 0] (mP<|jG 1) (j_ 0) (z8 (qm<|jO (AQ false) (pL<|jH (jG 2)<|jH (jG 0) jR)<|jG 1)<|sI<|eFn j9<|jH (jG 0)<|jH (jG 2) jR) (jG 0) [tq o,.ref m,.ref L] T=.ok (.ref T'.length) (T'++[.lst<|(Yl N os o).map tq])/\ly T T':=by
 obtain⟨T',g,j⟩:=CU (cap:=[some 2,some 0]) (t:=z8 (qm<|jO (AQ false) (pL<|jH (jG 2)<|jH (jG 0) jR)<|jG 1)<|sI<|eFn j9<|jH (jG 0)<|jH (jG 2) jR) (e:=jG 0) (τ:=[tq o,.ref m,.ref L]) (S:=T) (S1:=T) (src:=mP<|jG 1) (xs:=os.map tq) (mw (by dsimp[kg,mz,bools]) hm) hm (λx=>decide ((o,un x)∈Ld os) && hof N (un x) o) (λx=>x) (λx C T1 k=>by
  obtain⟨p,q,rfl⟩:=bu.mp C;rw[yx];have f:=hL.kp k λz=>z;have d:AQ false (.tup [tq o,tq p]) (.ref L) T1=.ok (.bl<|decide<|(o,p)∈Ld os) T1:=f.inq;show ∃T2,z8 (qm<|jO (AQ false) (pL<|jH (jG 2)<|jH (jG 0) jR)<|jG 1) (sI<|eFn j9<|jH (jG 0)<|jH (jG 2) jR) [tq p,.ref L,tq o] T1=_/\_/\(_->∃T3,jG 0 [tq p,.ref L,tq o] T2=_/\_);by_cases c:(o,p)∈Ld os
  ·obtain⟨T2,e2,B⟩:=W0 (S:=T1) (a:=p) (b:=o) hN (lp p q) lo;have e2:j9 [tq p,tq o] T1=.ok (.bl<|hof N p o) T2:=e2;rw[bg c]at d;refine⟨T2,?_,B,λ_=>⟨T2,by dsimp[kg,mz,uq],Kp.refl⟩⟩;rw[bg c,Bool.true_and];dsimp[kg,mz,bools,uq,yv,d,e2]
  ·rw[bB c]at d;refine⟨T1,?_,Kp.refl,λ_=>⟨T1,by dsimp[kg,mz,uq],Kp.refl⟩⟩;rw[bB c,Bool.false_and];dsimp[kg,mz,bools,uq,yv,d])<|by rw[aG];lia
 refine⟨T',?_,j⟩;have el:(((os.map tq).filter λx=>decide ((o,un x)∈Ld os) && hof N (un x) o).map λx=>x)=(Yl N os o).map tq:=by
  rw[jy,dI];unfold Yl;congr 1;refine ig λp _=>?_;show(decide ((o,un<|tq p)∈Ld os) && hof N (un<|tq p) o)=_;rw[yx]
 rw[el]at g;exact g
structure Okn (n f:Nat)(os:Os)(rc:ag->Os):Prop where
 n6:n<6
 n1:1<=n
 pm:∀o∈os,o.Perm (rg n)/\Iv.inv o<8
 nd:os.Nodup
 ln:os.length<=120
 ff:f<=1000000
 rr:∀o∈os,rf os (Yl n os) f [o] [o]=some (rc o)
 sub:∀o∈os,(∀p∈rc o,p∈os)/\(rc o).length<=1000/\D4 rc o≠[]
def WH{S:jK}{n f:Nat}{rc:ag->Os}(hn:n<=4)(h:Okn n f (ao n) rc):∃(r:Nat) (S':jK),k_ [.int n] S=.ok (.ref r) S'/\Hs S' r r (Ri (ao n) rc)/\S.length<=r/\ly S S':=by
 obtain⟨d,Z,k0⟩:=XF (S:=S) hn;obtain⟨S1,C⟩:∃S1,S1=d++[O.lst<|(ao n).map tq]:=⟨_,rfl⟩;have k1:ly S S1:=by rw[C];exact k0.lay
 have l1:jI S1 d.length=some ((ao n).map tq):=by rw[C];exact jX
 rw[<- C]at Z;have ll:=h.ln;obtain⟨L,S2,x2,G,M⟩:=PX h.n6 h.pm l1 ll;have N:=M.lst _ _ (λz=>z) l1;have len1:=k1.len;have len2:=M.len;obtain⟨S3,t⟩:∃S3,S3=S2++[O.dct []]:=⟨_,rfl⟩;have P:ly S2 S3:=by rw[t];kcf_m
 have d3:jZ S3 S2.length=some (ev []):=by rw[t];exact Su.o8
 have lm:d.length<S2.length:=lB N;have lL:L<S2.length:=by
  obtain⟨kvs,z,_⟩:=G.ex;exact(aJ.mp<|pH z).1
 have Y:=P.lst _ _ (λz=>z) N;obtain⟨τ',S4,e4,es,p1,p2,p3,B⟩:=O1 (st:=qd) (s:=lD d.length ((ao n).map tq).length) (g:=j_ 0) (ek:=jG 0) (ev:=kH [none,some 2,some 0] (mP<|jG 1) (j_ 0) (z8 (qm<|jO (AQ false) (pL<|jH (jG 2)<|jH (jG 0) jR)<|jG 1)<|sI<|eFn j9<|jH (jG 0)<|jH (jG 2) jR)<|jG 0) (n:=S2.length)
  (λi T=>∃es:List<|ag×Nat,jZ T S2.length=some (ev es)/\es.map (·.1)=(ao n).take i/\(∀e∈es,jI T e.2=some ((Yl n (ao n) e.1).map tq))/\Kp (·=S2.length) S3 T) (λτ=>∃y,τ=[y,.ref d.length,.ref L]) (λi τ T J hq hP=>by
   obtain⟨y,rfl⟩:=hq;obtain⟨es,p1,p2,p3,B⟩:=hP;have J:i<((ao n).map tq).length:=J;rw[aG]at J;have U:(ao n)[i]∈ao n:=eG J;have K:=B.lst _ _ () Y;have qT:=(G.kp P λz=>z).kp B ();obtain⟨T1,y1,q1⟩:=V4 (o:=(ao n)[i]) h.n6 K qT () (oS (h.pm _ U).1) λp hp=>oS (h.pm p hp).1;obtain⟨T2,F⟩:∃T2,T2=T1++[O.lst<|(Yl n (ao n) (ao n)[i]).map tq]:=⟨_,rfl⟩;rw[<- F]at y1;have G:ly T T2:=by rw[F];exact q1.lay
   have t2:jI T2 T1.length=some ((Yl n (ao n) (ao n)[i]).map tq):=by rw[F];exact jX
   have q:=G.dct _ _ (λz=>z) p1;have new:(ao n)[i]∉(ev es).map (·.1):=by
    rw[yN,p2];intro z;obtain⟨j,hj,e⟩:=cD.mp z;rw[List.getElem_take]at e;have lj:j<i:=by rw[bP]at hj;lia
    have:=(cX h.nd).mp e
    lia
   have e5:qd (.ref S2.length) (tq (ao n)[i]) (.ref T1.length) T2=.ok Unit.unit (T2.set S2.length<|.dct<|ev<|es++[((ao n)[i],T1.length)]):=by
    have:=Su.uF (n:=S2.length) (o:=(ao n)[i]) (v:=.ref T1.length) (S:=T2);rw[q,jY,CA new]at this;refine this.trans ?_;have le:es.length=i:=by have:=c7 List.length p2;rw[aG,bP]at this;lia
    rw[pI<|by unfold ev;rw[aG];lia];unfold ev;rw[bC];rfl
   have V:Kp (·=S2.length) T2 (T2.set S2.length<|.dct<|ev<|es++[((ao n)[i],T1.length)]):=Kp.refl.qR<|.inl rfl;refine⟨tq (ao n)[i],[tq (ao n)[i],.ref d.length,.ref L],T,tq (ao n)[i],T,.ref T1.length,T2,_,?_,rfl,⟨_,rfl⟩,rfl,y1,e5,es++[((ao n)[i],T1.length)],?_,?_,λe he=>?_,(B.trans G.of0).trans V⟩
   ·show(jI T d.length).bind _=_;rw[K];show((ao n).map tq)[i]?=_;rw[aX,aI J];rfl
   ·exact qI (by rw[bJ<|Su.tV q])
   ·rw[bC,p2,bZ,aI J];rfl
   ·rcases bq.mp he with z|z
    ·have a:=G.lst _ _ (λz=>z)<|p3 e z;exact V.lst _ _ (λw=>Su.nu q a w.symm) a
    ·rw[aP.mp z];exact V.lst _ _ (λw=>Su.nu q t2 w.symm) t2) (λT hP=>by
   obtain⟨es,p1,p2,p3,B⟩:=hP;have K:=B.lst _ _ () Y;show(match jI T d.length with
    | some ys=>decide (ys.length<=((ao n).map tq).length)
    | none=>false)=true
   rw[K];exact bg<|aK _) ((ao n).map tq).length 0 (lX [none,some 1,some 2] [.int n,.ref d.length,.ref L]) S3 rfl ⟨_,rfl⟩ ⟨[],d3,rfl,(nofun),Kp.refl⟩
 have W:Uz (.dct []) qd [none,some 1,some 2] (mP<|jG 1) (j_ 0) t9 (jG 0) (kH [none,some 2,some 0] (mP<|jG 1) (j_ 0) (z8 (qm<|jO (AQ false) (pL<|jH (jG 2)<|jH (jG 0) jR)<|jG 1)<|sI<|eFn j9<|jH (jG 0)<|jH (jG 2) jR)<|jG 0) [.int n,.ref d.length,.ref L] S2=.ok (.ref S2.length) S4:=by
  have hs:mP (jG 1) [.int n,.ref d.length,.ref L] S2=.ok (lD d.length ((ao n).map tq).length) S2:=mw (by dsimp[kg,mz]) N;unfold Uz;rw[hs,R.mU,<- t];show(yG _ _ _ _ _ _ _ ((ao n).map tq).length 0 _ _).oN _=_;rw[e4];rfl
 have p2:es.map (·.1)=ao n:=by
  have:(lD d.length ((ao n).map tq).length).k=(ao n).length:=aG ..;rw[this,b7]at p2;exact p2
 obtain⟨r,S5,x5,h5,l5,k5⟩:=FJ p1 p2 p3 h.nd () h.ff h.rr (λo U z=>by have:=oS (h.pm o U).1;rw[z]at this;have:=h.n1;simp at *;lia) h.sub;have len3:S3.length=S2.length+1:=by rw[t,aW];rfl
 have len4:=B.len;refine⟨r,S5,?_,h5,(),(((k1.trans M).trans P).old B λm hm _ z=>()).old k5 λm hm _ z=>()⟩;unfold k_ p6 pN;dsimp[kg,mz,bools,mW,Nat.reduceAdd,Nat.reduceSub,Z,x2,↓W,x5]
end K66
namespace K66
open PySem L2 Am
abbrev lz (os:Os)(t:List Os)(o:ag):Os:=(((os.zip t).find? λe=>decide<|e.1=o).map (·.2)).getD []
abbrev nxl (n:Nat)(L:List mT)(os:Os)(o:ag):Os:=os.filter λp=>decide ((o,p)∈L) && hof n p o
theorem Eo{os:Os}{nx nx':ag->Os}(h:∀o∈os,nx o=nx' o):∀(f:Nat) (R W:Os),rf os nx f R W=rf os nx' f R W
 | 0,_,_=>rfl
 | f+1,R,W=>by
  unfold rf;have e:(R.length<1000/\W.length<1000/\∀o∈W,o∈os/\(nx o).length<1000) ↔ (R.length<1000/\W.length<1000/\∀o∈W,o∈os/\(nx' o).length<1000):=
   ⟨λz=>⟨z.1,z.2.1,λo d=>⟨(z.2.2 o d).1,by rw[<- h o (z.2.2 o d).1];exact(z.2.2 o d).2⟩⟩,λz=>⟨z.1,z.2.1,λo d=>⟨(z.2.2 o d).1,by rw[h o (z.2.2 o d).1];exact(z.2.2 o d).2⟩⟩⟩
  by_cases c:R.length<1000/\W.length<1000/\∀o∈W,o∈os/\(nx o).length<1000
  ·rw[aN c,aN<|e.mp c]
   cases j:W.getLast? with
   | none=>rfl
   | some g=>
    have:=h g (c.2.2 g<|List.mem_of_getLast? j).1;dsimp only;rw[this];exact Eo h f _ _
  ·rw[aM c,aM λz=>c<|e.mpr z]
def C3{n:Nat}{L:List mT}{X:List Os}(h4:n<6)(h1:1<=n)(pm:∀o∈ao n,o.Perm (Fw.rg n)/\Iv.inv o<8)(nd:(ao n).Nodup)(ln:(ao n).length<=120)(ld:Ld (ao n)=L)(nx:∀o∈ao n,nxl n L (ao n) o=lz (ao n) X o)(rr:∀o∈ao n,rf (ao n) (lz (ao n) X) 200 [o] [o]=some (lz (ao n) C o))
  (sub:∀o∈ao n,(∀p∈lz (ao n) C o,p∈ao n)/\(lz (ao n) C o).length<=1000/\D4 (lz (ao n) C) o≠[]):Okn n 200 (ao n) (lz (ao n) C):=⟨h4,h1,pm,nd,ln,by decide,λo d=>by
 rw[Eo (nx':=lz (ao n) X) λp f=>by rw[<- nx p f,<- ld];rfl];exact rr o d,sub⟩
abbrev Lq1:List mT:=[]
abbrev Xq1:List Os:=[[]]
abbrev YL:List Os:=[[[1]]]
abbrev Gq1:List Os:=[[[1]]]
abbrev Lq2:List mT:=[([1,2],[2,1]),([2,1],[1,2])]
abbrev Xq2:List Os:=[[[2,1]],[]]
abbrev YO:List Os:=[[[1,2],[2,1]],[[2,1]]]
abbrev Gq2:List Os:=[[[1,2]],[[2,1]]]
abbrev Lq3:List mT:=[([1,2,3],[1,3,2]),([1,3,2],[1,2,3]),([1,2,3],[2,1,3]),([2,1,3],[1,2,3]),([1,3,2],[2,3,1]),([2,3,1],[1,3,2]),([2,1,3],[2,3,1]),([2,3,1],[2,1,3]),([1,3,2],[3,1,2]),([3,1,2],[1,3,2]),([2,1,3],[3,1,2]),([3,1,2],[2,1,3]),([2,3,1],[3,2,1]),([3,2,1],[2,3,1]),([3,1,2],[3,2,1]),([3,2,1],[3,1,2])]
abbrev Xq3:List Os:=[[[1,3,2],[2,1,3]],[[3,1,2]],[[2,3,1]],[[2,1,3],[3,2,1]],[[1,3,2],[3,2,1]],[]]
abbrev YI:List Os:=[[[1,2,3],[1,3,2],[2,1,3],[2,3,1],[3,2,1],[3,1,2]],[[1,3,2],[3,1,2],[3,2,1]],[[2,1,3],[2,3,1],[3,2,1]],[[2,3,1],[2,1,3],[3,2,1]],[[3,1,2],[1,3,2],[3,2,1]],[[3,2,1]]]
abbrev Gq3:List Os:=[[[1,2,3]],[[1,3,2],[3,1,2]],[[2,1,3],[2,3,1]],[[3,2,1]]]
abbrev Lq4:List mT:=[([1,2,3,4],[1,2,4,3]),([1,2,4,3],[1,2,3,4]),([1,2,3,4],[1,3,2,4]),([1,3,2,4],[1,2,3,4]),([1,2,4,3],[1,3,4,2]),([1,3,4,2],[1,2,4,3]),([1,3,2,4],[1,3,4,2]),([1,3,4,2],[1,3,2,4]),([1,2,4,3],[1,4,2,3]),([1,4,2,3],[1,2,4,3]),([1,3,2,4],[1,4,2,3]),([1,4,2,3],[1,3,2,4]),([1,3,4,2],[1,4,3,2]),([1,4,3,2],[1,3,4,2]),([1,4,2,3],[1,4,3,2]),([1,4,3,2],[1,4,2,3]),([1,2,3,4],[2,1,3,4]),([2,1,3,4],[1,2,3,4]),([1,2,4,3],[2,1,4,3]),([2,1,4,3],[1,2,4,3]),([2,1,3,4],[2,1,4,3]),([2,1,4,3],[2,1,3,4]),([1,3,2,4],[2,3,1,4]),([2,3,1,4],[1,3,2,4]),([2,1,3,4],[2,3,1,4]),([2,3,1,4],[2,1,3,4]),([1,3,4,2],[2,3,4,1]),([2,3,4,1],[1,3,4,2]),([2,1,4,3],[2,3,4,1]),([2,3,4,1],[2,1,4,3]),([2,3,1,4],[2,3,4,1]),([2,3,4,1],[2,3,1,4]),([1,4,2,3],[2,4,1,3]),([2,4,1,3],[1,4,2,3]),([2,1,4,3],[2,4,1,3]),([2,4,1,3],[2,1,4,3]),([2,3,1,4],[2,4,1,3]),([2,4,1,3],[2,3,1,4]),([1,4,3,2],[2,4,3,1]),([2,4,3,1],[1,4,3,2]),([2,3,4,1],[2,4,3,1]),([2,4,3,1],[2,3,4,1]),([2,4,1,3],[2,4,3,1]),([2,4,3,1],[2,4,1,3]),([1,3,2,4],[3,1,2,4]),([3,1,2,4],[1,3,2,4]),([2,1,3,4],[3,1,2,4]),([3,1,2,4],[2,1,3,4]),([1,3,4,2],[3,1,4,2]),([3,1,4,2],[1,3,4,2]),([2,1,4,3],[3,1,4,2]),([3,1,4,2],[2,1,4,3]),([3,1,2,4],[3,1,4,2]),([3,1,4,2],[3,1,2,4]),([2,3,1,4],[3,2,1,4]),([3,2,1,4],[2,3,1,4]),([3,1,2,4],[3,2,1,4]),([3,2,1,4],[3,1,2,4]),([2,3,4,1],[3,2,4,1]),([3,2,4,1],[2,3,4,1]),([3,1,4,2],[3,2,4,1]),([3,2,4,1],[3,1,4,2]),([3,2,1,4],[3,2,4,1]),([3,2,4,1],[3,2,1,4]),([1,3,2,4],[3,4,1,2]),([3,4,1,2],[1,3,2,4]),([1,4,3,2],[3,4,1,2]),([3,4,1,2],[1,4,3,2]),([2,4,1,3],[3,4,1,2]),([3,4,1,2],[2,4,1,3]),([3,1,4,2],[3,4,1,2]),([3,4,1,2],[3,1,4,2]),([3,2,1,4],[3,4,1,2]),([3,4,1,2],[3,2,1,4]),([2,4,3,1],[3,4,2,1]),([3,4,2,1],[2,4,3,1]),([3,2,4,1],[3,4,2,1]),([3,4,2,1],[3,2,4,1]),([3,4,1,2],[3,4,2,1]),([3,4,2,1],[3,4,1,2]),([1,4,2,3],[4,1,2,3]),([4,1,2,3],[1,4,2,3]),([2,1,4,3],[4,1,2,3]),([4,1,2,3],[2,1,4,3]),([3,1,2,4],[4,1,2,3]),([4,1,2,3],[3,1,2,4]),([1,4,3,2],[4,1,3,2]),([4,1,3,2],[1,4,3,2]),([3,1,4,2],[4,1,3,2]),([4,1,3,2],[3,1,4,2]),([4,1,2,3],[4,1,3,2]),([4,1,3,2],[4,1,2,3]),([2,4,1,3],[4,2,1,3]),([4,2,1,3],[2,4,1,3]),([3,2,1,4],[4,2,1,3]),([4,2,1,3],[3,2,1,4]),([4,1,2,3],[4,2,1,3]),([4,2,1,3],[4,1,2,3]),([2,1,4,3],[4,2,3,1]),([4,2,3,1],[2,1,4,3]),([2,4,3,1],[4,2,3,1]),([4,2,3,1],[2,4,3,1]),([3,2,4,1],[4,2,3,1]),([4,2,3,1],[3,2,4,1]),([4,1,3,2],[4,2,3,1]),([4,2,3,1],[4,1,3,2]),([4,2,1,3],[4,2,3,1]),([4,2,3,1],[4,2,1,3]),([3,4,1,2],[4,3,1,2]),([4,3,1,2],[3,4,1,2]),([4,1,3,2],[4,3,1,2]),([4,3,1,2],[4,1,3,2]),([4,2,1,3],[4,3,1,2]),([4,3,1,2],[4,2,1,3]),([3,4,2,1],[4,3,2,1]),([4,3,2,1],[3,4,2,1]),([4,2,3,1],[4,3,2,1]),([4,3,2,1],[4,2,3,1]),([4,3,1,2],[4,3,2,1]),([4,3,2,1],[4,3,1,2])]
abbrev Xq4:List Os:=[[[1,2,4,3],[1,3,2,4],[2,1,3,4]],[[1,4,2,3],[2,1,4,3]],[[1,3,4,2],[3,1,2,4]],[[1,3,2,4],[1,4,3,2],[3,1,4,2]],[[1,2,4,3],[1,4,3,2],[4,1,2,3]],[[4,1,3,2]],[[2,1,4,3],[2,3,1,4]],[[2,4,1,3]],[[2,1,3,4],[2,3,4,1],[3,2,1,4]],[[2,1,4,3],[2,3,1,4],[2,4,3,1],[3,2,4,1]],[[2,1,4,3],[2,4,3,1],[4,2,1,3]],[[4,2,3,1]],[[1,3,2,4],[3,1,4,2],[3,2,1,4]],[[3,4,1,2]],[[3,2,4,1]],[[3,2,1,4],[3,4,2,1]],[[1,4,3,2],[3,1,4,2],[3,2,1,4],[3,4,2,1],[4,3,1,2]],[[3,2,4,1],[4,3,2,1]],[[1,4,2,3],[2,1,4,3],[4,1,3,2],[4,2,1,3]],[[1,4,3,2],[4,3,1,2]],[[4,2,3,1]],[[2,4,3,1],[4,2,1,3],[4,3,2,1]],[[4,1,3,2],[4,3,2,1]],[]]
abbrev YH:List Os:=[[[1,2,3,4],[1,2,4,3],[1,3,2,4],[2,1,3,4],[2,1,4,3],[2,3,1,4],[2,3,4,1],[3,2,1,4],[3,2,4,1],[3,4,2,1],[4,3,2,1],[2,4,3,1],[4,2,3,1],[4,2,1,3],[2,4,1,3],[1,3,4,2],[3,1,2,4],[3,1,4,2],[3,4,1,2],[1,4,3,2],[4,3,1,2],[4,1,3,2],[1,4,2,3],[4,1,2,3]],[[1,2,4,3],[1,4,2,3],[2,1,4,3],[2,4,1,3],[2,4,3,1],[4,2,1,3],[4,2,3,1],[4,3,2,1],[1,4,3,2],[4,1,2,3],[4,1,3,2],[4,3,1,2]],[[1,3,2,4],[1,3,4,2],[3,1,2,4],[3,1,4,2],[3,2,1,4],[3,2,4,1],[3,4,2,1],[4,3,2,1],[3,4,1,2],[1,4,3,2],[4,3,1,2],[4,1,3,2]],[[1,3,4,2],[1,3,2,4],[1,4,3,2],[3,1,4,2],[3,4,1,2],[3,2,1,4],[3,4,2,1],[4,3,1,2],[4,1,3,2],[4,3,2,1],[3,2,4,1],[3,1,2,4]],[[1,4,2,3],[1,2,4,3],[1,4,3,2],[4,1,2,3],[2,1,4,3],[4,1,3,2],[4,2,1,3],[4,2,3,1],[2,4,3,1],[4,3,2,1],[4,3,1,2],[2,4,1,3]],[[1,4,3,2],[4,1,3,2],[4,3,1,2],[4,3,2,1]],[[2,1,3,4],[2,1,4,3],[2,3,1,4],[2,3,4,1],[3,2,1,4],[3,2,4,1],[3,4,2,1],[4,3,2,1],[2,4,3,1],[4,2,3,1],[4,2,1,3],[2,4,1,3]],[[2,1,4,3],[2,4,1,3],[2,4,3,1],[4,2,1,3],[4,2,3,1],[4,3,2,1]],[[2,3,1,4],[2,1,3,4],[2,3,4,1],[3,2,1,4],[3,2,4,1],[3,4,2,1],[4,3,2,1],[2,1,4,3],[2,4,3,1],[4,2,3,1],[4,2,1,3],[2,4,1,3]],[[2,3,4,1],[2,1,4,3],[2,3,1,4],[2,4,3,1],[3,2,4,1],[3,2,1,4],[3,4,2,1],[4,3,2,1],[4,2,3,1],[4,2,1,3],[2,1,3,4],[2,4,1,3]],[[2,4,1,3],[2,1,4,3],[2,4,3,1],[4,2,1,3],[4,2,3,1],[4,3,2,1]],[[2,4,3,1],[4,2,3,1],[4,2,1,3],[4,3,2,1]],[[3,1,2,4],[1,3,2,4],[3,1,4,2],[3,2,1,4],[3,2,4,1],[3,4,2,1],[4,3,2,1],[3,4,1,2],[1,4,3,2],[4,3,1,2],[4,1,3,2],[1,3,4,2]],[[3,1,4,2],[3,4,1,2],[1,4,3,2],[3,2,1,4],[3,4,2,1],[4,3,1,2],[4,1,3,2],[4,3,2,1],[3,2,4,1]],[[3,2,1,4],[3,2,4,1],[3,4,2,1],[4,3,2,1]],[[3,2,4,1],[3,2,1,4],[3,4,2,1],[4,3,2,1]],[[3,4,1,2],[1,4,3,2],[3,1,4,2],[3,2,1,4],[3,4,2,1],[4,3,1,2],[4,1,3,2],[4,3,2,1],[3,2,4,1]],[[3,4,2,1],[3,2,4,1],[4,3,2,1],[3,2,1,4]],[[4,1,2,3],[1,4,2,3],[2,1,4,3],[4,1,3,2],[4,2,1,3],[4,2,3,1],[2,4,3,1],[4,3,2,1],[1,4,3,2],[4,3,1,2],[2,4,1,3],[1,2,4,3]],[[4,1,3,2],[1,4,3,2],[4,3,1,2],[4,3,2,1]],[[4,2,1,3],[4,2,3,1],[2,4,3,1],[4,3,2,1]],[[4,2,3,1],[2,4,3,1],[4,2,1,3],[4,3,2,1]],[[4,3,1,2],[4,1,3,2],[4,3,2,1],[1,4,3,2]],[[4,3,2,1]]]
abbrev Gq4:List Os:=[[[1,2,3,4]],[[1,2,4,3],[1,4,2,3],[4,1,2,3]],[[1,3,2,4],[1,3,4,2],[3,1,2,4]],[[1,4,3,2],[4,1,3,2],[4,3,1,2]],[[2,1,3,4],[2,3,1,4],[2,3,4,1]],[[2,1,4,3],[2,4,1,3]],[[2,4,3,1],[4,2,1,3],[4,2,3,1]],[[3,1,4,2],[3,4,1,2]],[[3,2,1,4],[3,2,4,1],[3,4,2,1]],[[4,3,2,1]]]
def pm1:∀o∈ao 1,o.Perm (Fw.rg 1)/\Iv.inv o<8:=by decide +kernel
def nd1:(ao 1).Nodup:=by decide +kernel
def lq1:Ld (ao 1)=Lq1:=by decide +kernel
def nx1:∀o∈ao 1,nxl 1 Lq1 (ao 1) o=lz (ao 1) Xq1 o:=by decide +kernel
def rr1:∀o∈ao 1,rf (ao 1) (lz (ao 1) Xq1) 200 [o] [o]=some (lz (ao 1) YL o):=by decide +kernel
def sb1:∀o∈ao 1,(∀p∈lz (ao 1) YL o,p∈ao 1)/\(lz (ao 1) YL o).length<=1000/\D4 (lz (ao 1) YL) o≠[]:=by decide +kernel
def gt1:Ri (ao 1) (lz (ao 1) YL)=Gq1:=by decide +kernel
def on1:Okn 1 200 (ao 1) (lz (ao 1) YL):=C3 ⋯ ⋯ pm1 nd1 ∅ lq1 nx1 rr1 sb1
def pm2:∀o∈ao 2,o.Perm (Fw.rg 2)/\Iv.inv o<8:=by decide +kernel
def nd2:(ao 2).Nodup:=by decide +kernel
def lq2:Ld (ao 2)=Lq2:=by decide +kernel
def nx2:∀o∈ao 2,nxl 2 Lq2 (ao 2) o=lz (ao 2) Xq2 o:=by decide +kernel
def rr2:∀o∈ao 2,rf (ao 2) (lz (ao 2) Xq2) 200 [o] [o]=some (lz (ao 2) YO o):=by decide +kernel
def sb2:∀o∈ao 2,(∀p∈lz (ao 2) YO o,p∈ao 2)/\(lz (ao 2) YO o).length<=1000/\D4 (lz (ao 2) YO) o≠[]:=by decide +kernel
def gt2:Ri (ao 2) (lz (ao 2) YO)=Gq2:=by decide +kernel
def on2:Okn 2 200 (ao 2) (lz (ao 2) YO):=C3 ⋯ ⋯ pm2 nd2 ∅ lq2 nx2 rr2 sb2
def pm3:∀o∈ao 3,o.Perm (Fw.rg 3)/\Iv.inv o<8:=by decide +kernel
def nd3:(ao 3).Nodup:=by decide +kernel
def lq3:Ld (ao 3)=Lq3:=by decide +kernel
def nx3:∀o∈ao 3,nxl 3 Lq3 (ao 3) o=lz (ao 3) Xq3 o:=by decide +kernel
def rr3:∀o∈ao 3,rf (ao 3) (lz (ao 3) Xq3) 200 [o] [o]=some (lz (ao 3) YI o):=by decide +kernel
def sb3:∀o∈ao 3,(∀p∈lz (ao 3) YI o,p∈ao 3)/\(lz (ao 3) YI o).length<=1000/\D4 (lz (ao 3) YI) o≠[]:=by decide +kernel
def gt3:Ri (ao 3) (lz (ao 3) YI)=Gq3:=by decide +kernel
def on3:Okn 3 200 (ao 3) (lz (ao 3) YI):=C3 ⋯ ⋯ pm3 nd3 ∅ lq3 nx3 rr3 sb3
def pm4:∀o∈ao 4,o.Perm (Fw.rg 4)/\Iv.inv o<8:=by decide +kernel
def nd4:(ao 4).Nodup:=by decide +kernel
def lq4:Ld (ao 4)=Lq4:=by decide +kernel
def nx4:∀o∈ao 4,nxl 4 Lq4 (ao 4) o=lz (ao 4) Xq4 o:=by decide +kernel
def rr4:∀o∈ao 4,rf (ao 4) (lz (ao 4) Xq4) 200 [o] [o]=some (lz (ao 4) YH o):=by decide +kernel
def sb4:∀o∈ao 4,(∀p∈lz (ao 4) YH o,p∈ao 4)/\(lz (ao 4) YH o).length<=1000/\D4 (lz (ao 4) YH) o≠[]:=by decide +kernel
def gt4:Ri (ao 4) (lz (ao 4) YH)=Gq4:=by decide +kernel
def on4:Okn 4 200 (ao 4) (lz (ao 4) YH):=C3 ⋯ ⋯ pm4 nd4 ∅ lq4 nx4 rr4 sb4
end K66
namespace Stp
open PySem L2 Iv
abbrev mm (a:ag)(i j:Nat):ag:=(a.drop<|i+1).take<|j-i-1
abbrev btw (x y m:Int):Bool:=decide (x<m) && decide (m<y)
abbrev isS (a:ag)(i j:Nat):Bool:=!(mm a i j).any λm=>btw (if a.getD j 0<a.getD i 0 then a.getD j 0 else a.getD i 0) (if a.getD j 0>a.getD i 0 then a.getD j 0 else a.getD i 0) m
end Stp
namespace Eu
open PySem L2 Bl
open Wd (ex Xc)
open Fw (rg Nk)
section
variable {n:Nat}
def ln{z:ag}(p:z.Perm<|rg n):z.length=n:=by rw[p.length_eq,Wd.m_]
end
abbrev al (n:Nat):List (ag):=(List.range<|Nu.oQ n).map<|Nu.Sw n<|rg n
abbrev sg (z:ag):Int:=if Iv.inv z % 2=1 then -1 else 1
open Classical in
abbrev sm (n:Nat)(P:ag->Prop):Int:=((al n).map λz=>if P z then sg z else 0).sum
end Eu
namespace Eu
open PySem L2 Bl Am
open Fw (rg)
structure Done (n:Nat)(u w:ag)(es:List (ag×Bool)):Prop where
 nd:(es.map (·.1)).Nodup
 pm:∀e∈es,e.1.Perm (rg n)
 up:∀e∈es,Below u e.1
 fl:∀e∈es,(e.2=true ↔ Below e.1 w)
 st:u∈es.map (·.1)
 cl:∀e∈es,e.2=true->∀i j,i<j->j<n->e.1.getD i 0<e.1.getD j 0->Stp.isS e.1 i j=true->Iv.sw e.1 i j∈es.map (·.1)
abbrev ext (n:Nat)(p:ag):List (ag):=((rg n).filter λt=>decide<|t∉p).map λt=>p++[t]
abbrev inj (n:Nat):Nat->List (ag)
 | 0=>[[]]
 | k+1=>(inj n k).flatMap<|ext n
theorem zj{n:Nat}:∀{k:Nat}{p:ag},p∈inj n k ↔ p.length=k/\p.Nodup/\∀t∈p,t∈rg n
 | 0,p=>by
  unfold inj;rw[aP];constructor
  ·rintro rfl;simp
  ·rintro⟨h,_⟩;exact dZ.mp h
 | k+1,p=>by
  unfold inj;rw[iI];constructor
  ·rintro⟨q,hq,g⟩;obtain⟨t,f,rfl⟩:=bu.mp g;obtain⟨h1,h2⟩:=cg.mp f;obtain⟨a,b,c⟩:=zj.mp hq;have h2:t∉q:=bY h2;refine⟨by simp[a],?_,λx d=>?_⟩
   ·rw[cE];refine⟨b,by simp,λx d y hy z=>h2 ?_⟩;have:y=t:=by simpa using hy
    rw[<- this,<- z];exact d
   ·rcases bq.mp d with z|z
    ·exact c x z
    ·have:x=t:=by simpa using z
     rw[this];exact h1
  ·rintro⟨h1,h2,h3⟩
   rcases List.eq_nil_or_concat p with c|⟨q,t,c⟩
   ·rw[c]at h1;simp at h1
   ·rw[List.concat_eq_append]at c;subst c;rw[cE]at h2;refine⟨q,zj.mpr ⟨by simpa using h1,h2.1,λx d=>h3 x<|eZ _ d⟩,bu.mpr ⟨t,cg.mpr ⟨h3 t<|by simp,bg λz=>h2.2.2 t z t (by simp) rfl⟩,rfl⟩⟩
def RC{n:Nat}{p:ag}:p∈inj n n ↔ p.Perm (rg n):=by
 rw[zj];constructor
 ·rintro⟨h1,h2,h3⟩;exact yl h2 h3 (by rw[h1,Wd.m_];exact aK _)
 ·intro d;exact⟨ln d,d.nodup_iff.mpr<|wB _ _,λt f=>d.mem_iff.mp f⟩
theorem JJ{n:Nat}:∀(k:Nat),(inj n k).length<=n ^ k
 | 0=>aK _
 | k+1=>by
  have:∀(l:List<|ag),(l.flatMap<|ext n).length<=l.length * n:=λl=>by
   induction l with
   | nil=>exact bK _
   | cons p l d=>
    rw[f_,aW,bG,jE,gg];have:(ext n p).length<=n:=by
     unfold ext;rw[aG];exact bH (cM _ _)<|by rw[Wd.m_];exact aK _
    lia
  unfold inj;exact bH (this _)<|by rw[Nat.pow_succ];exact cQ _<|JJ k
end Eu
namespace K66
open PySem L2 Am
open Bl
open Fw (rg)
open Eu (inj ext)
meta abbrev AR (w:ag):A:=.tup<|w.map .int
def Xe{S:jK}{n:Nat}{xs ys:ae}(h1:jI S n=some xs)(h2:jI S m=some ys)(h3:xs.length+ys.length<=16777216):CZ (.ref n) [.ref m] S=.ok .non (S.set n<|.lst<|xs++ys):=by
 show opt (jI S n) _=_;rw[h1];show opt (jI S m) _=_;rw[h2];exact Ti h3
theorem Bg{f:A->A->bi}:∀{L:ae},(∀x∈L,f x x=some true)->sF f L L=some true
 | [],_=>rfl
 | x::L,h=>by
  show(f x x).bind (λp=>(sF f L L).map λq=>p && q)=_;rw[h x<|aO ..,Bg λy hy=>h y<|aQ _ hy];rfl
def VF{a:Nat}{L:List<|ag}(h:jI S a=some (L.map AR))(h':jI S b=some (L.map AR)):vJ S 12 (.ref a) (.ref b)=some true:=by
 show(jI S a).bind (λxs=>(jI S b).bind λys=>sF (vJ S 11) xs ys)=_;rw[h,cH,h',cH];refine Bg λx d=>?_;obtain⟨l,_,rfl⟩:=bu.mp d;show sF (vJ S 10) (l.map .int) (l.map .int)=_;rw[se,bg rfl]
def Wg{xs ys:ag}(h:xs.length+ys.length<=16777216):mC (.tup<|xs.map .int) (.tup<|ys.map .int) S=.ok (.tup<|(xs++ys).map .int) S:=by
 skip
 rw[bC];exact Ti<|by rw[aG,aG];exact h
def aap{n k:Nat}(h:n<=6)(hk:k<=n):n ^ k<=46656:=bH (Nat.pow_le_pow_left h k)<|bH (Nat.pow_le_pow_right ⋯ (show k<=6 by lia)) ⋯
theorem Aw{n:Nat}(h:n<=6):∀(l:List<|ag),(l.flatMap<|ext n).length<=l.length * 6
 | []=>bK _
 | p::l=>by
  rw[f_,aW,bG,jE,gg];have:(ext n p).length<=n:=by
   unfold ext;rw[aG];exact bH (cM _ _)<|by rw[Wd.m_];exact aK _
  have:=Aw h l
  lia
def IF{S:jK}{n:Nat}(h6:n<=6):∃(V:Nat) (S':jK),nX [.int n] S=.ok (.ref V) S'/\jI S' V=some ((inj n n).map AR)/\ly S S'/\S.length<=V:=by
 unfold nX ya xV;dsimp[kg,bools,mW,Nat.reduceAdd,Nat.reduceSub,oO<|show 0<=sizeLine from bK _];refine zg (lo:=0) (hi:=(n:Int)) (S1:=S++[O.lst [.tup []]]) (show yz _ _=_ from uh (by dsimp[kg,bools])<|qz () ())
  (λi τ T=>∃(F:Nat) (N L K:A),τ=[.int n,.ref F,N,L,K]/\jI T F=some ((inj n i).map AR)/\ly S T/\S.length<=F)
  (λr=>∃(V:Nat) (S':jK),RS.end (RS.seq r _)=.ok (.ref V) S'/\jI S' V=some ((inj n n).map AR)/\ly S S'/\S.length<=V) ⟨S.length,_,_,_,rfl,jX,Kp.refl.lay,aK _⟩ ?_ ?_
 ·rintro i τ T hi ⟨F,N,L,K,rfl,C,kp,G⟩;left;have lF:=lB C;have W:=kp.len;have hin:i<n:=()
  have il:=Eu.JJ (n:=n) i;have pw:=aap h6 (show i<=n by lia);unfold ym;dsimp[kg,bools];have J:jI (T++[O.lst []]) F=some ((inj n i).map AR):=kM C;obtain⟨k,U,ef,hW,kU⟩:=nJ (n:=F) (xs:=(inj n i).map AR) (S1:=T++[O.lst []]) (g:=j_ 4) (c:=uf) (τ:=[.int n,.ref F,.int<|0+(i:Int),.ref T.length,K]) (S:=T++[O.lst []]) (show yr _ _=_ from mw (by dsimp[kg,bools]) J)
   (λj τ d=>(∃k,τ=[.int n,.ref F,.int<|0+(i:Int),.ref T.length,k])/\jI d F=some ((inj n i).map AR)/\jI d T.length=some ((((inj n i).take j).flatMap<|ext n).map AR)/\ly S d)
   (λr=>∃(k:A) (U:jK),r=.nx [.int n,.ref F,.int<|0+(i:Int),.ref T.length,k] U/\jI U T.length=some ((inj n<|i+1).map AR)/\ly S U) ⟨⟨_,rfl⟩,J,jX,kp.lay⟩ (λj τ d hh=>hh.2.1) (by
    rintro j z τ d hz ⟨⟨k,rfl⟩,B,f,q⟩;rw[aX]at hz;obtain⟨p,Z,rfl⟩:=aY.mp hz;have M:=(Eu.zj.mp<|aS Z).1;refine⟨[.int n,.ref F,.int<|0+(i:Int),.ref T.length,AR p],d,rfl,.inl ?_⟩;have Y:=zy (lo:=1) (hi:=(n:Int)+1) (cap:=[some 4]) (src:=vL (eC<|.int 1)<|jO mC (jG 0)<|eC<|.int 1) (t:=qm<|jO (DZ true) (jG 0)<|jG 1) (e:=jO mC (jG 1)<|pL<|jH (jG 0)<|jR) (τ:=[.int n,.ref F,.int<|0+(i:Int),.ref T.length,AR p]) (S:=d) (S1:=d)
     (AB (S1:=d) (by dsimp[kg,bools]) (by dsimp[kg,bools]) (qz () ())<|qz () ())
     (λt=>decide<|t∉p) (λt=>AR<|p++[t]) (λt _ _=>by
      have e:DZ true (.int t) (AR p) d=.ok (.bl<|decide<|t∉p) d:=by
       show opt (Us d (.int t)<|p.map .int) _=_;rw[xm,jY];by_cases c:t∈p
       ·rw[bg c,bB λz=>z c];rfl
       ·rw[bB c,bg c];rfl
      dsimp[kg,bools,e]) (λt _ _ _=>by
      have e:mC (AR p) (.tup [.int t]) d=.ok (AR<|p++[t]) d:=Wg (ys:=[t]) (by rw[M];show _+1<=_;lia);dsimp[kg,bools,pX<|show([_]:ae).length<=16777216 by simp,e]) ()
    have ee:(((lU 1<|(n:Int)+1).filter λt=>decide<|t∉p).map λt=>AR<|p++[t])=(ext n p).map AR:=by unfold ext;rw[bz];rfl
    rw[ee]at Y;have ht:(inj n i).take (j+1)=(inj n i).take j++[p]:=by
     obtain⟨hj,e⟩:=aJ.mp Z;rw[fq hj,e]
    have fl1:=Aw h6<|(inj n i).take j;have P:=Aw h6 [p];rw[f_,jl,b8]at P;have htl:((inj n i).take j).length<=46656:=by rw[bP];lia
    have x1:=Xe (S:=d++[.lst<|(ext n p).map AR]) (kM f) jX (by
     rw[aG,aG];have:[p].length=1:=rfl
     lia)
    have lW:=lB f;unfold uf;dsimp[kg,bools,f,Y,x1];refine⟨_,_,rfl,⟨_,rfl⟩,?_,?_,q.lay.set<|.inr W⟩
    ·rw[k9 ()];exact kM B
    ·rw[oz<|by rw[aW];exact bR lW<|iH _ _,ht,gz,bC,f_,jl,b8]) (by
    rintro τ d ⟨⟨k,rfl⟩,B,f,q⟩;rw[aG,b7]at f;exact⟨k,d,rfl,f,q⟩)
  rw[ef];dsimp[kg,bools];exact⟨_,_,rfl,T.length,_,_,_,rfl,hW,kU,W⟩
 ·rintro τ T ⟨F,N,L,K,rfl,C,kp,G⟩;rw[show((n:Int)-0).toNat=n by lia]at C;dsimp[kg,bools];exact⟨F,T,rfl,C,kp,G⟩
end K66
namespace K66
open PySem L2 Am
open Eu (inj ext)
def Wy{n:Nat}{bs:List Bool}(h:jI S n=some xs)(hb:A.Gx xs=some bs):GZ (.ref n) S=.ok (.bl<|bs.all λb=>b) S:=by
 show opt (jI S n) _=_;rw[h];show opt (A.Gx xs) _=_;rw[hb];rfl
def gLt{o:ag}{i:Nat}(h:i<o.length):o.getD i 0=o[i]:=by rw[aL,aI h];rfl
abbrev GV (o:ag):Bool:=(List.range o.length).all λi=>decide<|o.getD (o.getD i 0-1).toNat 0=(i:Int)+1
def N5{n:Nat}(hn:n<=4)(hi:∀o∈inj n n,o.length=n/\∀x∈o,1<=x/\x<=n)(hl:(inj n n).length<=24):∃S',pC [.int n] S=.ok (.int (((inj n n).filter GV).length:Int)) S'/\ly S S':=by
 obtain⟨V,S1,z,j,C,_⟩:=IF (S:=S) (n:=n) ();obtain⟨S2,g,F⟩:=CU (cap:=[]) (t:=sI<|kC (f1 GZ)<|jH (kH [none,none,some 0] (AZ<|jG 0) (yC 2<|qa (j_ 0)<|qa (j_ 1) yw) t9<|jO (uc false) (jO nY (jG 2)<|jO aSub (jG 1)<|eC<|.int 1)<|jO mC (jG 0)<|eC<|.int 1) jR) (e:=jG 0) (τ:=[.int n]) (S:=S) (S1:=S1) (src:=mP<|eFn nX<|jH (jG 0) jR) (mw (by dsimp[kg,mz,bools,z]) j) j (λx=>GV<|un x) (λx=>x) (λx J T L=>by
  obtain⟨o,G,rfl⟩:=bu.mp J;obtain⟨M,bo⟩:=hi o G;rw[show un (AR o)=o from yx o];have f:=Gw (cap:=[some 0]) (src:=AZ<|jG 0) (e:=jO (uc false) (jO nY (jG 2)<|jO aSub (jG 1)<|eC<|.int 1)<|jO mC (jG 0)<|eC<|.int 1) (τ:=[tq o]) (S:=T) (S1:=T) (s:=zu<|o.map .int) (NY<|by dsimp[kg,mz,uq];rfl) (λi=>.int (i:Int)) (λi=>.int<|o.getD i 0) (λi=>.bl<|decide<|o.getD (o.getD i 0-1).toNat 0=(i:Int)+1) (λi hi=>by
    have hi:i<(o.map A.int).length:=hi;rw[aG]at hi;show((o.map A.int)[i]?).map _=_;rw[aX,aI hi,gLt hi];rfl) rfl (λi hi=>by
    have hi:i<(o.map A.int).length:=hi;rw[aG]at hi;have m:o.getD i 0∈o:=by rw[gLt hi];exact eG hi
    have b:=bo _ m;have ix:t8 (o.map A.int) (o.getD i 0-1)=some (.int<|o.getD (o.getD i 0-1).toNat 0):=ixG () ();show jO (uc false) (jO nY (jG 2)<|jO aSub (jG 1)<|eC<|.int 1) (jO mC (jG 0)<|eC<|.int 1) [.int (i:Int),.int<|o.getD i 0,.tup<|o.map .int] T=_;dsimp[kg,mz,bools,ix];rfl)<|by show(o.map A.int).length<=_;rw[aG];lia
  have K:(zu<|o.map .int).k=o.length:=aG ..;rw[K]at f;have al:=Wy (S:=T++[O.lst<|(List.range o.length).map λi=>.bl<|decide<|o.getD (o.getD i 0-1).toNat 0=(i:Int)+1]) jX<|OQ (λi:Nat=>decide<|o.getD (o.getD i 0-1).toNat 0=(i:Int)+1)<|List.range o.length;rw[jw]at al;have al:GZ (.ref T.length) _=.ok (.bl<|GV o) _:=al;have f:kH [none,none,some 0] (AZ<|jG 0) (yC 2<|qa (j_ 0)<|qa (j_ 1) yw) t9 (jO (uc false) (jO nY (jG 2)<|jO aSub (jG 1)<|eC<|.int 1)<|jO mC (jG 0)<|eC<|.int 1) [tq o] T=_:=f;obtain⟨T1,d⟩:∃T1,T1=T++[O.lst ((List.range o.length).map λi:Nat=>A.bl<|decide<|o.getD (o.getD i 0-1).toNat 0=(i:Int)+1)]:=⟨_,rfl⟩;have f:kH [none,none,some 0] (AZ<|jG 0) (yC 2<|qa (j_ 0)<|qa (j_ 1) yw) t9 (jO (uc false) (jO nY (jG 2)<|jO aSub (jG 1)<|eC<|.int 1)<|jO mC (jG 0)<|eC<|.int 1) [tq o] T=.ok (.ref T.length) T1:=by rw[d];exact f
  have al:GZ (.ref T.length) T1=.ok (.bl<|GV o) T1:=by rw[d];exact al
  have B:ly T T1:=by rw[d];kcf_m
  refine⟨T1,?_,B,λ_=>⟨T1,?_,Kp.refl⟩⟩
  ·show sI (kC (f1 GZ)<|jH (kH [none,none,some 0] (AZ<|jG 0) (yC 2<|qa (j_ 0)<|qa (j_ 1) yw) t9<|jO (uc false) (jO nY (jG 2)<|jO aSub (jG 1)<|eC<|.int 1)<|jO mC (jG 0)<|eC<|.int 1) jR) [tq o] T=_;dsimp[kg,mz,bools,↓f,al]
  ·show jG 0 [tq o] T1=.ok (tq o) T1;dsimp[kg,mz,uq])<|by rw[aG];lia
 have el:((((inj n n).map AR).filter λx=>GV<|un x).map λx=>x)=((inj n n).filter GV).map tq:=by
  show((((inj n n).map tq).filter λx=>GV<|un x).map λx=>x)=_;rw[jy,dI];have:(inj n n).filter ((λx=>GV<|un x) ∘ tq)=(inj n n).filter GV:=ig λp _=>by
   show GV (un<|tq p)=_;rw[yx]
  rw[this]
 rw[el]at g;refine⟨S2++[O.lst<|((inj n n).filter GV).map tq],?_,(C.trans F).lay⟩;unfold pC uO uZ;have q:jI (S2++[O.lst<|((inj n n).filter GV).map tq]) S2.length=some (((inj n n).filter GV).map tq):=jX;dsimp[kg,mz,bools,mW,Nat.reduceAdd,Nat.reduceSub,↓g,q,aG]
def Ur{r L:Nat}{gs:List Os}(h:Hs S r L gs)(hl:gs.flatten.length<=1000)(hne:∀o∈gs.flatten,o≠[]):∃(R:Nat) (S':jK),qN [.ref r] S=.ok (.ref R) S'/\jI S' R=some ((kB gs.flatten).map tq)/\ly S S':=by
 obtain⟨hs,h1,h2,h3⟩:=h.ex;obtain⟨S1,d⟩:∃S1,S1=S++[O.lst []]:=⟨_,rfl⟩;have k:ly S S1:=by rw[d];kcf_m
 have K:jI S1 S.length=some []:=by rw[d];exact jX
 have fl:∀i,((hs.take i).map (·.1)).flatten.length<=1000:=λi=>by
  refine bH ?_ hl;rw[<- h2];have:(hs.map (·.1)).flatten=((hs.take i).map (·.1)).flatten++((hs.drop i).map (·.1)).flatten:=by rw[<- List.flatten_append,<- bC,eW]
  rw[this,aW];lia
 have f:∃(F:Nat) (y:A) (S':jK),lV tM (j_ 2) sP [.ref r,.ref S.length,.unb] S1=.nx [.ref r,.ref F,y] S'/\jI S' F=some (gs.flatten.map tq)/\ly S1 S':=by
  refine nJ (n:=r) (xs:=hs.map λh=>A.ref h.2) (S1:=S1) (show tM _ _=_ from mw (by dsimp[kg,bools])<|k.lst _ _ (λz=>z) h1)
   (λi τ T=>∃(F:Nat) (y:A),τ=[.ref r,.ref F,y]/\jI T F=some (((hs.take i).map (·.1)).flatten.map tq)/\ly S1 T)
   (λZ=>∃(F:Nat) (y:A) (S':jK),Z=.nx [.ref r,.ref F,y] S'/\jI S' F=some (gs.flatten.map tq)/\ly S1 S')
   ⟨_,_,rfl,by rw[cW];exact K,Kp.refl⟩ (λi τ T z=>?_) ?_ ?_
  ·obtain⟨_,_,_,_,kp⟩:=z;exact(k.trans kp).lst _ _ (λz=>z) h1
  ·rintro i z τ T q ⟨F,y,rfl,j,kp⟩;rw[aX]at q;obtain⟨g,hg,rfl⟩:=aY.mp q;have G:=(k.trans kp).lst _ _ (λz=>z) (h3 g<|aS hg).1;have e1:((hs.take<|i+1).map (·.1)).flatten=((hs.take i).map (·.1)).flatten++g.1:=by
    rw[bZ,hg,bC,List.flatten_append];show _++([g.1].flatten)=_;rw[List.flatten_singleton]
   have N:=fl<|i+1;rw[e1,aW]at N;have J:=Uu j G (by rw[aG,aG];lia);refine⟨[.ref r,.ref F,.ref g.2],T,rfl,.inl ⟨[.ref r,.ref T.length,.ref g.2],_,?_,T.length,_,rfl,?_,kp.lay (o:=.lst<|((hs.take i).map (·.1)).flatten.map tq++g.1.map tq)⟩⟩
   ·unfold sP;dsimp[kg,mz,bools,J]
   ·rw[e1,bC];exact jX
  ·rintro τ T ⟨F,y,rfl,j,kp⟩;rw[aG,b7,h2]at j;exact⟨F,y,T,rfl,j,kp⟩
 obtain⟨F,y,S2,t,M,B⟩:=f;have C:=Jg M hne;refine⟨S2.length,_,?_,jX,(k.trans B).lay (o:=.lst<|(kB gs.flatten).map tq)⟩;have p:newL ([]:ae) S=.ok (.ref S.length) S1:=by rw[d];exact pX (show 0<=16777216 by decide)
 unfold qN vY wj;dsimp[kg,mz,bools,mW,Nat.reduceAdd,Nat.reduceSub,p,<- d,↓t,C]
end K66
namespace K66
open PySem L2 Am
abbrev Gh (r:ag)(x:Int):ag:=(lU 0 (r.length:Int)).filter λk=>decide<|r.getD k.toNat 0>x
meta abbrev yk:=List<|ag
abbrev tw (k:Int):Nat->yk->yk->Int->Nat->Option (yk×yk)
 | 0,_,_,_,_=>none
 | f+1,T0,Q0,x,p=>
  let T:=if p=T0.length then T0++[[]]else T0
  let Q:=if p=T0.length then Q0++[[]]else Q0
  if p<T.length/\p<Q.length/\T.length<=10/\Q.length<=10/\(T.getD p []).length<=10/\(Q.getD p []).length<=10 then
   match Gh (T.getD p []) x with
   | []=>some (T.set p<|T.getD p []++[x],Q.set p<|Q.getD p []++[k+1])
   | s::_=>tw k f (T.set p<|(T.getD p []).set s.toNat x) Q ((T.getD p []).getD s.toNat 0)<|p+1
  else none
structure Tw (B:Nat)(S:jK)(n m:Nat)(rs qs:am)(T Q:yk):Prop where
 t:Tab S n rs T
 q:Tab S m qs Q
 dj:∀r∈n::rs,r∉m::qs
 ge:∀r,r∈n::rs\/r∈m::qs->B<=r
def Tw.wC{B n:Nat}(h:Tw B S n m rs qs T Q)(k:ly S S'):Tw B S' n m rs qs T Q:=⟨h.t.wC k,h.q.wC k,h.dj,h.ge⟩
def Tw.Z7{B n i r:Nat}{S:jK}{T:yk}{ys:ag}(h:Tw B S n m rs qs T Q)(hi:rs[i]?=some r):Tw B (S.set r<|.lst<|ys.map .int) n m rs qs (T.set i ys) Q/\Kp (λr=>B<=r) S (S.set r<|.lst<|ys.map .int):=by
 have d:r∈n::rs:=aQ _<|aS hi;refine⟨⟨h.t.set hi,h.q.kp (show Kp (·=r) S _ from Kp.refl.qR<|.inl rfl) λa ha z=>h.dj r d<|z ▸ ha,h.dj,h.ge⟩,Kp.refl.qR<|.inl<|h.ge r<|.inl d⟩
def Tw.abG{B n i r:Nat}{S:jK}{Q:yk}{ys:ag}(h:Tw B S n m rs qs T Q)(hi:qs[i]?=some r):Tw B (S.set r<|.lst<|ys.map .int) n m rs qs T (Q.set i ys)/\Kp (λr=>B<=r) S (S.set r<|.lst<|ys.map .int):=by
 have d:r∈m::qs:=aQ _<|aS hi;refine⟨⟨h.t.kp (show Kp (·=r) S _ from Kp.refl.qR<|.inl rfl) λa ha z=>h.dj a ha<|z ▸ d,h.q.set hi,h.dj,h.ge⟩,Kp.refl.qR<|.inl<|h.ge r<|.inr d⟩
def Tw.U9{B n:Nat}{S:jK}(h:Tw B S n m rs qs T Q):Tw B ((S++[O.lst []]).set n<|.lst<|(rs++[S.length]).map .ref) n m (rs++[S.length]) qs (T++[[]]) Q/\Kp (λr=>B<=r) S ((S++[O.lst []]).set n<|.lst<|(rs++[S.length]).map .ref):=by
 have hn:=h.ge n<|.inl<|aO ..;have ln:=h.t.lt n<|aO ..;have k:Kp (·=n) S ((S++[O.lst []]).set n<|.lst<|(rs++[S.length]).map .ref):=Kp.refl.lay.qR<|.inl rfl;refine⟨⟨h.t.push (ys:=[]),h.q.kp k λa ha z=>h.dj n (aO ..)<|z ▸ ha,λr d hq=>?_,λr d=>?_⟩,Kp.refl.lay.qR<|.inl hn⟩
 ·rcases bF.mp d with z|z
  ·exact h.dj r (by rw[z];exact aO ..) hq
  ·rcases bq.mp z with z|z
   ·exact h.dj r (aQ _ z) hq
   ·have:=h.q.lt r hq;rw[aP.mp z]at this;exact fV _ this
 ·rcases d with d|d
  ·rcases bF.mp d with z|z
   ·rw[z];exact hn
   ·rcases bq.mp z with z|z
    ·exact h.ge r (.inl<|aQ _ z)
    ·rw[aP.mp z];lia
  ·exact h.ge r<|.inr d
def Tw.sw{B n:Nat}(h:Tw B S n m rs qs T Q):Tw B S m n qs rs Q T:=⟨h.q,h.t,λr d hq=>h.dj r hq d,λr d=>h.ge r d.symm⟩
def XX{B n p:Nat}{T Q:yk}{row:A}(h:Tw B S n m rs qs T Q)(lT:T.length<=10)(lQ:Q.length<=10) :
  ∃(rs' qs':am) (S':jK),yP (qm<|jO (uc false) (jG 5)<|kC (f1 su)<|jH (jG 1) jR) (j6 (m5<|Fx mV (jG 1)<|jH (qh jR) jR)<|m5<|Fx mV (jG 2)<|jH (qh jR) jR) r_ [row,.ref n,.ref m,x3,x4,.int p,x6] S=.nx [row,.ref n,.ref m,x3,x4,.int p,x6] S' /\
   Tw B S' n m rs' qs' (if p=T.length then T++[[]]else T) (if p=T.length then Q++[[]]else Q)/\Kp (λr=>B<=r) S S':=by
 have g:=h.t.top;have ln:=h.t.len;have K:=h.q.len;by_cases c:p=T.length
 ·have F:((p:Int) == ((rs.length:Nat):Int))=true:=by rw[beq_iff_eq,ln,c]
  obtain⟨h1,G⟩:=h.U9;obtain⟨S1,f⟩:∃S1,S1=(S++[O.lst []]).set n (.lst<|(rs++[S.length]).map .ref):=⟨_,rfl⟩;rw[<- f]at h1 G;obtain⟨h2,J⟩:=h1.sw.U9;refine⟨_,_,_,?_,by rw[aN c,aN c];exact h2.sw,G.trans J⟩;have d:∀T:jK,newL ([]:ae) T=.ok (.ref T.length) (T++[.lst []]):=λT=>pX (show 0<=16777216 by decide);have j:jI (S++[O.lst []]) n=some (rs.map .ref):=kM g;have k:jI (S1++[O.lst []]) m=some (qs.map .ref):=kM h1.q.top;have C:∀{T:jK} {a:Nat} {xs:ae},jI T a=some xs->(A.ref a).lst? T=some xs:=λz=>z;dsimp[kg,mz,bools,g,aG,F,C g,d,j,pI<|show rs.length<16777216 by lia,pI<|show qs.length<16777216 by lia];rw[show(S++[O.lst []]).set n (.lst<|rs.map A.ref++[.ref S.length])=S1 by rw[f,bC];rfl];dsimp[kg,mz,bools,h1.q.top,d,k,aG,pI<|show qs.length<16777216 by lia,bC];rfl
 ·have F:((p:Int) == ((rs.length:Nat):Int))=false:=by rw[cZ,ln];lia
  refine⟨rs,qs,S,?_,by rw[aM c,aM c];exact h,Kp.refl⟩;dsimp[kg,mz,bools,g,aG,F]
end K66
namespace K66
open PySem L2 Am
def TZ{a:Nat}{xs:ae}(h:jI S a=some xs)(h':jI S b=some []):vJ S 12 (.ref a) (.ref b)=some xs.isEmpty:=by
 show(jI S a).bind (λxs=>(jI S b).bind λys=>sF (vJ S 11) xs ys)=_;rw[h,cH,h',cH]
 cases xs<;>rfl
def T7{B n p r q:Nat}{S:jK}{T Q:yk}{x k:Int}{row:A}(h:Tw B S n m rs qs T Q)(hr:rs[p]?=some r)(hq:qs[p]?=some q)(hR:(T.getD p []).length<=10)(hQ:(Q.getD p []).length<=10)(bS:B<=S.length) :
  ∃(y4:A) (p':Nat) (y6:A) (S':jK) (T' Q':yk),j6 (ku (kH [none,some 4,some 1,some 5] (qM<|kC (f1 su)<|jH (jO nY (jG 1)<|jG 5) jR) (j_ 0) (qm<|jO LU (jO nY (jO nY (jG 2)<|jG 3)<|jG 0)<|jG 1)<|jG 0)<|j_ 6)
 (yP (qm<|jO (uc false) (jG 6)<|qh jR)
 (j6 (m5<|Fx mV (jO nY (jG 1)<|jG 5)<|jH (jG 4) jR)
 (j6 (m5<|Fx mV (jO nY (jG 2)<|jG 5)<|jH (jO mC (jG 3)<|eC<|.int 1) jR)
 (ku (eC .non)<|j_ 4)))
 (j6 (ku (pL<|jH (jO nY (jO nY (jG 1)<|jG 5)<|jO nY (jG 6)<|eC<|.int 0)<|jH (jG 4) jR)<|yC 2<|qa (j_ 4)<|qa (Vu (jO nY (jG 1)<|jG 5)<|jO nY (jG 6)<|eC<|.int 0) yw)
 (ku (jO mC (jG 5)<|eC<|.int 1)<|j_ 5))) [row,.ref n,.ref m,.int k,.int x,.int p,x6] S=.nx [row,.ref n,.ref m,.int k,y4,.int p',y6] S'/\Tw B S' n m rs qs T' Q'/\Kp (λr=>B<=r) S S' /\
   ((Gh (T.getD p []) x=[]/\y4=.non/\T'=T.set p (T.getD p []++[x])/\Q'=Q.set p (Q.getD p []++[k+1]))\/∃s t,Gh (T.getD p []) x=s::t/\y4=.int ((T.getD p []).getD s.toNat 0)/\p'=p+1/\T'=T.set p ((T.getD p []).set s.toNat x)/\Q'=Q):=by
 obtain⟨hp,d⟩:=h.t.rows.get hr;obtain⟨hpq,C⟩:=h.q.rows.get hq;have P:t8 (rs.map A.ref) (p:Int)=some (.ref r):=Ao rfl (by rw[aX,hr];rfl);have a2:t8 (qs.map A.ref) (p:Int)=some (.ref q):=Ao rfl (by rw[aX,hq];rfl);have Z:=h.t.top;have tq':=h.q.top;generalize hRR:T.getD p []=R at *
 generalize hQQ:Q.getD p []=U at *
 have M:=zy (lo:=0) (hi:=(R.length:Int)) (cap:=[some 4,some 1,some 5]) (t:=qm<|jO LU (jO nY (jO nY (jG 2)<|jG 3)<|jG 0)<|jG 1) (e:=jG 0) (τ:=[row,.ref n,.ref m,.int k,.int x,.int p,x6]) (src:=qM<|kC (f1 su)<|jH (jO nY (jG 1)<|jG 5) jR) (S:=S) (S1:=S)
  (uh (by dsimp[kg,mz,bools,Z,P,d,aG])<|qz () ()) (λk=>decide<|R.getD k.toNat 0>x) A.int
  (λk k0 k1=>by
   have:=OD (r:=R) (i:=k) (k:=k.toNat) () ();show qm (jO LU (jO nY (jO nY (jG 2)<|jG 3)<|jG 0)<|jG 1) [.int k,.int x,.ref n,.int p] S=_;dsimp[kg,mz,bools,Z,P,d,this]) (λk _ _ _=>by
   show jG 0 (.int k::_) S=_;dsimp[kg,mz]) ()
 obtain⟨S1,K⟩:∃S1,S1=S++[O.lst<|(Gh R x).map .int]:=⟨_,rfl⟩;have M:kH [none,some 4,some 1,some 5] (qM<|kC (f1 su)<|jH (jO nY (jG 1)<|jG 5) jR) (j_ 0) (qm<|jO LU (jO nY (jO nY (jG 2)<|jG 3)<|jG 0)<|jG 1) (jG 0) [row,.ref n,.ref m,.int k,.int x,.int p,x6] S=.ok (.ref S.length) S1:=by rw[K];exact M
 have k1:ly S S1:=by rw[K];kcf_m
 have g1:jI S1 S.length=some ((Gh R x).map .int):=by rw[K];exact jX
 obtain⟨S2,G⟩:∃S2,S2=S1++[O.lst []]:=⟨_,rfl⟩;have nl:newL ([]:ae) S1=.ok (.ref S1.length) S2:=by rw[G];exact pX (show 0<=16777216 by decide)
 have k2:ly S1 S2:=by rw[G];kcf_m
 have g2:jI S2 S1.length=some []:=by rw[G];exact jX
 have N:=k2.lst _ _ (λz=>z) g1;have g:=F9<|TZ N g2;have f:=k1.trans k2;have h2:=h.wC f;have L:=h2.t.top;have W:=h2.q.top;have j:=f.lst _ _ (λz=>z) d;have F:=f.lst _ _ (λz=>z) C;have rq:r≠q:=λz=>h.dj r (aQ _<|aS hr) (by rw[z];exact aQ _<|aS hq);have rm:r≠m:=λz=>h.dj r (aQ _<|aS hr) (by rw[z];exact aO ..)
 cases hs:Gh R x with
 | nil=>
  rw[hs]at g;obtain⟨h3,V⟩:=h2.Z7 (ys:=R++[x]) hr;obtain⟨h4,k4⟩:=h3.abG (ys:=U++[k+1]) hq;refine⟨.non,p,.ref S.length,_,_,_,?_,h4,(f.of0.trans V).trans k4,.inl ⟨rfl,rfl,rfl,rfl⟩⟩;have Y:jI (S2.set r<|.lst<|R.map A.int++[.int x]) m=some (qs.map .ref):=mQ (by rw[bL rm];exact jW W);have J:jI (S2.set r<|.lst<|R.map A.int++[.int x]) q=some (U.map .int):=mQ (by rw[bL rq];exact jW F);have g:uc false (.ref S.length) (.ref S1.length) S2=.ok (.bl true) S2:=g;dsimp[kg,mz,bools,↓M,nl,g,L,P,j,aG,pI<|show R.length<16777216 by lia,Y,a2,J,pI<|show U.length<16777216 by lia,bC,bI,fK]
 | cons s t=>
  rw[hs]at g N;have ms:s∈Gh R x:=by rw[hs];exact aO ..
  have ms:=EH.mp (cg.mp ms).1;have g:uc false (.ref S.length) (.ref S1.length) S2=.ok (.bl false) S2:=g;rw[bI]at N;have e1:t8 (R.map A.int) s=some (.int<|R.getD s.toNat 0):=OD (k:=s.toNat) () ();have e2:EK R.length s=some s.toNat:=zN () ();obtain⟨h3,V⟩:=h2.Z7 (ys:=R.set s.toNat x) hr;refine⟨.int<|R.getD s.toNat 0,p+1,.ref S.length,_,_,_,?_,h3,f.of0.trans V,.inr ⟨s,t,rfl,rfl,rfl,rfl,rfl⟩⟩;dsimp[kg,mz,bools,↓M,nl,g,L,P,j,N,xx,e1,yv,aG,e2,map_set];rfl
end K66
namespace K66
open PySem L2 Am
def aa0{x:Int}:GO true (.int x) .non S=.ok (.bl true) S:=rfl
def abx:GO true .non .non S=.ok (.bl false) S:=rfl
def IS{t:Te}{c:Am.Sm}{N:Nat}(h:t τ S=.ok true S)(hb:c τ S=.nx τ' S'):kK t c (N+1) τ S=kK t c N τ' S':=by
 conv=>lhs;unfold kK
 rw[h];show(match c τ S with
  | .nx τ' S'=>kK t c N τ' S'
  | .ct τ' S'=>kK t c N τ' S'
  | .bk τ' S'=>.nx τ' S'
  | r=>r)=_
 rw[hb]
def SV{t:Te}{c:Am.Sm}{N:Nat}(h:t τ S=.ok false S):kK t c (N+1) τ S=.nx τ S:=by
 conv=>lhs;unfold kK
 rw[h];rfl
theorem My{B n:Nat}{row:A}{k:Int}{res:yk×yk}:∀(f N:Nat) {S:jK}{rs qs:am}{T Q:yk}{x:Int}{p:Nat}{x6:A},f+1<=N->tw k f T Q x p=some res->Tw B S n m rs qs T Q->B<=S.length ->
  ∃(y4 y5 y6:A) (rs' qs':am) (S':jK),kK mZ oH N [row,.ref n,.ref m,.int k,.int x,.int p,x6] S=.nx [row,.ref n,.ref m,.int k,y4,y5,y6] S'/\Tw B S' n m rs' qs' res.1 res.2/\Kp (λr=>B<=r) S S'
 | 0,_,_,_,_,_,_,_,_,_,_,h,_,_=>nomatch h
 | f+1,0,_,_,_,_,_,_,_,_,hN,_,_,_=>absurd hN (Nat.not_succ_le_zero _)
 | f+1,N+1,S,rs,qs,T,Q,x,p,x6,hN,h,hT,bS=>by
  obtain⟨C,j⟩:∃C,C=(if p=T.length then T++[[]]else T):=⟨_,rfl⟩;obtain⟨z,d⟩:∃z,z=(if p=T.length then Q++[[]]else Q):=⟨_,rfl⟩;unfold tw at h;dsimp only at h;rw[<- j,<- d]at h;by_cases g:p<C.length/\p<z.length/\C.length<=10/\z.length<=10/\(C.getD p []).length<=10/\(z.getD p []).length<=10
  case neg=>rw[aM g]at h;cases h
  rw[aN g]at h;obtain⟨g1,g2,L,J,g5,g6⟩:=g;have W:T.length<=10:=by
   by_cases c:p=T.length
   ·rw[j,aN c,aW]at L;lia
   ·rw[j,aM c]at L;exact L
  have lQ:Q.length<=10:=by
   by_cases c:p=T.length
   ·rw[d,aN c,aW]at J;lia
   ·rw[d,aM c]at J;exact J
  obtain⟨rs',qs',S1,x1,h1,G⟩:=XX (p:=p) (x3:=.int k) (x4:=.int x) (x6:=x6) (row:=row) hT W lQ;rw[<- j,<- d]at h1;have l1:=h1.t.len;have l2:=h1.q.len;have P:=G.len;obtain⟨y4,U,y6,S2,T2,Q2,Z,h2,K,cs⟩:=T7 (x:=x) (k:=k) (row:=row) (x6:=x6) h1 (aI<|show p<rs'.length by lia) (aI<|show p<qs'.length by lia) g5 g6 ();have V:=K.len;have hb:oH [row,.ref n,.ref m,.int k,.int x,.int p,x6] S=.nx [row,.ref n,.ref m,.int k,y4,.int U,y6] S2:=by
   unfold oH;dsimp[kg,↓x1];exact Z
  have t0:mZ [row,.ref n,.ref m,.int k,.int x,.int p,x6] S=.ok true S:=by
   unfold mZ;dsimp[kg,mz,bools,aa0]
  rcases cs with⟨c1,rfl,rfl,rfl⟩|⟨s,t,c1,rfl,rfl,rfl,rfl⟩
  ·rw[c1]at h
   cases h
   obtain⟨O,rfl⟩:∃O,N=O+1:=⟨N-1,()⟩;refine⟨.non,.int U,y6,rs',qs',S2,?_,h2,G.trans K⟩;rw[IS t0 hb];exact SV (by
    unfold mZ;dsimp[kg,mz,bools,abx])
  ·rw[c1]at h;obtain⟨z4,Y,z6,M,F,S3,x3,h3,k3⟩:=My f N (x6:=y6) () h h2 ();refine⟨z4,Y,z6,M,F,S3,?_,h3,(G.trans K).trans k3⟩;rw[IS t0 hb];exact x3
abbrev BJ:Nat->ag->yk->yk->Option (yk×yk)
 | _,[],T,Q=>some (T,Q)
 | k,x::xs,T,Q=>match tw (k:Int) 20 T Q x 0 with
  | some r=>BJ (k+1) xs r.1 r.2
  | none=>none
theorem Fy:∀(xs:ag) (k:Nat) (x:Int) (T Q:yk),BJ k (xs++[x]) T Q=(BJ k xs T Q).bind λr=>(tw ((k+xs.length:Nat):Int) 20 r.1 r.2 x 0).bind λr=>some (r.1,r.2)
 | [],k,x,T,Q=>by
  show(match tw (k:Int) 20 T Q x 0 with
   | some r=>BJ (k+1) [] r.1 r.2
   | none=>none)=_
  show _=(tw ((k+0:Nat):Int) 20 T Q x 0).bind _;rw[Nat.add_zero]
  cases tw (k:Int) 20 T Q x 0<;>rfl
 | y::xs,k,x,T,Q=>by
  show(match tw (k:Int) 20 T Q y 0 with
   | some r=>BJ (k+1) (xs++[x]) r.1 r.2
   | none=>none)=Option.bind (match tw (k:Int) 20 T Q y 0 with
   | some r=>BJ (k+1) xs r.1 r.2
   | none=>none) _
  cases tw (k:Int) 20 T Q y 0 with
  | none=>rfl
  | some r=>
   show BJ (k+1) (xs++[x]) r.1 r.2=(BJ (k+1) xs r.1 r.2).bind _;rw[Fy xs (k+1) x r.1 r.2,bG,show k+1+xs.length=k+(xs.length+1)by lia]
def RA {xs ys:ag}{k:Nat}{T Q:yk}(h:BJ k (xs++ys) T Q≠none):BJ k xs T Q≠none:=by
 revert k T Q
 induction xs with
 | nil=>intro k T Q _ z;cases z
 | cons x xs d=>
  intro k T Q h z;revert h z;show(match tw (k:Int) 20 T Q x 0 with
   | some r=>BJ (k+1) (xs++ys) r.1 r.2
   | none=>none)≠none->(match tw (k:Int) 20 T Q x 0 with
   | some r=>BJ (k+1) xs r.1 r.2
   | none=>none)=none->False
  cases tw (k:Int) 20 T Q x 0 with
  | none=>exact λh _=>h rfl
  | some r=>exact λh z=>d h z
def OC{S:jK}{res:yk×yk}(h:BJ 0 o [] []=some res) :
  ∃(n m:Nat) (rs qs:am) (S':jK),ni [tq o] S=.ok (.tup [.ref n,.ref m]) S'/\Tw S.length S' n m rs qs res.1 res.2/\ly S S':=by
 obtain⟨S1,j⟩:∃S1,S1=S++[O.lst []]:=⟨_,rfl⟩;have k1:ly S S1:=by rw[j];kcf_m
 have l1:jI S1 S.length=some []:=by rw[j];exact jX
 have n1:S1.length=S.length+1:=by rw[j,aW];rfl
 have G:newL ([]:ae) S=.ok (.ref S.length) S1:=by rw[j];exact pX (show 0<=16777216 by decide)
 obtain⟨S2,g⟩:∃S2,S2=S1++[O.lst []]:=⟨_,rfl⟩;have L:ly S1 S2:=by rw[g];kcf_m
 have l2:jI S2 S1.length=some []:=by rw[g];exact jX
 have J:newL ([]:ae) S1=.ok (.ref S1.length) S2:=by rw[g];exact pX (show 0<=16777216 by decide)
 have h0:Tw S.length S2 S.length S1.length [] [] [] []:=⟨Tab.nil<|L.lst _ _ (λz=>z) l1,Tab.nil l2,(λr F hq=>by rw[aP.mp F]at hq;have:=aP.mp hq;lia),λr F=>by
  rcases F with z|z
  ·rw[aP.mp z];exact aK _
  ·rw[aP.mp z];lia⟩
 have t:∃(k q f d:A) (rs qs:am) (S':jK),lV qC (yC 2<|qa (j_ 3)<|qa (j_ 4) yw) qO [tq o,.ref S.length,.ref S1.length,.unb,.unb,.unb,.unb] S2=.nx [tq o,.ref S.length,.ref S1.length,k,q,f,d] S'/\Tw S.length S' S.length S1.length rs qs res.1 res.2/\Kp (λr=>S.length<=r) S2 S':=by
  refine VD (xs:=o.map .int) (S1:=S2) (show qC _ _=_ from NY<|by dsimp[kg,mz,uq];rfl)
   (λi τ T=>∃(k q f d:A) (rs qs:am) (r:yk×yk),τ=[tq o,.ref S.length,.ref S1.length,k,q,f,d]/\BJ 0 (o.take i) [] []=some r/\Tw S.length T S.length S1.length rs qs r.1 r.2/\Kp (λr=>S.length<=r) S2 T)
   (λZ=>∃(k q f d:A) (rs qs:am) (S':jK),Z=.nx [tq o,.ref S.length,.ref S1.length,k,q,f,d] S'/\Tw S.length S' S.length S1.length rs qs res.1 res.2/\Kp (λr=>S.length<=r) S2 S')
   ⟨_,_,_,_,[],[],([],[]),rfl,by rw[cW];rfl,h0,Kp.refl⟩ ?_ ?_
  ·rintro i z τ T M ⟨k,q,f,d,rs,qs,r,rfl,e,K,kp⟩;rw[aX]at M;obtain⟨x,N,rfl⟩:=aY.mp M;have hi:=(aJ.mp N).1;have e1:o.take (i+1)=o.take i++[x]:=by rw[bZ,N];rfl
   have ne:BJ 0 (o.take<|i+1) [] []≠none:=by
    refine RA (ys:=o.drop<|i+1) ?_;rw[eW,h];exact λz=>nomatch z
   have e2:=Fy (o.take i) 0 x [] [];rw[e,bP,cI,Nat.min_eq_left<|dR hi]at e2;have e2:BJ 0 (o.take i++[x]) [] []=(tw (i:Int) 20 r.1 r.2 x 0).bind λr=>some (r.1,r.2):=e2
   cases c:tw (i:Int) 20 r.1 r.2 x 0 with
   | none=>rw[c,<- e1]at e2;exact absurd e2 ne
   | some r2=>
    rw[c,<- e1]at e2;have len:=kp.len;have P:S2.length=S1.length+1:=by rw[g,aW];rfl
    obtain⟨z4,V,Y,C,B,T1,x1,h1,W⟩:=My (row:=tq o) (p:=0) (x6:=d) 20 1000000 ⋯ c K ();refine⟨[tq o,.ref S.length,.ref S1.length,.int i,.int x,f,d],T,rfl,.inl ⟨[tq o,.ref S.length,.ref S1.length,.int i,z4,V,Y],T1,?_,_,_,_,_,C,B,r2,rfl,e2,h1,kp.trans W⟩⟩;unfold qO;dsimp[kg,mz,bools];exact x1
  ·rintro τ T ⟨k,q,f,d,rs,qs,r,rfl,e,K,kp⟩;rw[aG,b7,h]at e
   cases e
   exact⟨k,q,f,d,rs,qs,T,rfl,K,kp⟩
 obtain⟨k,q,f,d,rs,qs,S3,U,h3,k3⟩:=t;refine⟨S.length,S1.length,rs,qs,S3,?_,h3,(k1.trans L).old k3 λn hn _ z=>()⟩;unfold ni tX tQ;dsimp[kg,mz,bools,mW,Nat.reduceAdd,Nat.reduceSub,G,J,↓U,yv,NF]
end K66
namespace K66
open PySem L2 Am
open Eu (inj)
theorem Vp{x:ag}:∀(L:Os),Us S (tq x) (L.map tq)=some (decide<|x∈L)
 | []=>rfl
 | y::L=>by
  show(vJ S 12 (tq y)<|tq x).bind (λa=>(Us S (tq x)<|L.map tq).map λb=>a || b)=_;rw[Vp L,show vJ S 12 (tq y) (tq x)=some (decide<|y=x)from se y x];show some (decide (y=x) || decide (x∈L))=_;by_cases c:y=x
  ·rw[bg c,c,bg<|aO ..];rfl
  ·rw[bB c,fY];congr 1;exact eK.mpr ⟨λz=>aQ _ z,λz=>(bF.mp z).resolve_left λw=>c w.symm⟩
def LY{x:ag}{L:Os}{r:Nat}(h:jI S r=some (L.map tq)):DZ false (tq x) (.ref r) S=.ok (.bl<|decide<|x∈L) S:=by
 show opt (jI S r) _=_;rw[h,jY,Vp];rfl
abbrev tb1 (o:ag):Option yk:=(BJ 0 o [] []).map (·.1)
abbrev chk (n:Nat)(G:List Os):Bool:=(inj n n).all λa=>(BJ 0 a [] []).isSome && (match G.filter (λh=>decide<|a∈h)with
 | []=>false
 | h::_=>(inj n n).all λb=>decide (b∈h) == decide (tb1 a=tb1 b))
structure Ok4 (n:Nat)(G:List Os):Prop where
 n1:1<=n
 n4:n<=4
 hi:∀o∈inj n n,o.length=n/\∀x∈o,1<=x/\x<=(n:Int)
 hl:(inj n n).length<=24
 bk:((inj n n).filter GV).length=G.length
 fl:kB G.flatten=inj n n
 ck:chk n G=true
 pm:∀o:ag,o.Perm (lU 1<|(n:Int)+1)->o∈inj n n
 rh:∀S:jK,∃(r:Nat) (S':jK),k_ [.int n] S=.ok (.ref r) S'/\Hs S' r r G/\S.length<=r/\ly S S'
def Ok4.pair{n:Nat}{G:List Os}(h:Ok4 n G){a b:ag}(ha:a∈inj n n)(hb:b∈inj n n):∃r1 r2:yk×yk,∃g t,BJ 0 a [] []=some r1/\BJ 0 b [] []=some r2/\G.filter (λh=>decide<|a∈h)=g::t/\decide (b∈g)=decide (r1.1=r2.1):=by
 have f:=dO.mp h.ck a ha;have j:=dO.mp h.ck b hb;rw[gh]at f j;obtain⟨r1,e1⟩:=cY.mp f.1;obtain⟨r2,e2⟩:=cY.mp j.1;have d:=f.2
 cases hg:G.filter (λh=>decide<|a∈h)with
 | nil=>rw[hg]at d;cases d
 | cons g t=>
  rw[hg]at d;have:=dO.mp d b hb;have:=eq_of_beq this;refine⟨r1,r2,g,t,e1,e2,rfl,this.trans ?_⟩;unfold tb1;rw[e1,e2];exact eK.mpr ⟨λz=>bf z,λz=>by show some r1.1=some r2.1;rw[z]⟩
def TM{n:Nat}{G:List Os}{r:Nat}{ns:ag}{i:Nat}(h:Ok4 n G)(hr:Hs S r r G)(hi:i<8) :
  ∃(y4 y5 y6 y7:A) (S':jK),yR [.frz<|ns.map .int,.int n,.ref r,.int<|0+(i:Int),x4,x5,x6,x7] S=.nx [.frz<|ns.map .int,.int n,.ref r,.int<|0+(i:Int),y4,y5,y6,y7] S'/\ly S S':=by
 obtain⟨c,ec⟩:=Jo (S:=S) (ns:=ns) (k:=1+(0+(i:Int))) ();obtain⟨S1,e1,b1,k1⟩:=HH (S:=S) (c:=c) (k:=2+(0+(i:Int))) () ();have h1:=h.n1;have h4:=h.n4;obtain⟨a,S2,e2,pa,Z,k2⟩:=E2 (n:=(n:Int)) b1 () ();obtain⟨b,S3,e3,pb,b3,k3⟩:=E2 (n:=(n:Int)) Z () ();have e2:mD [.ref S.length,.int n] S1=.ok (tq a) S2:=e2;have e3:mD [.ref S.length,.int n] S2=.ok (tq b) S3:=e3;have L:ly S S3:=(k1.old k2 λm hm _ z=>()).old k3 λm hm _ z=>()
 obtain⟨hs,h5,K,Y⟩:=hr.ex;obtain⟨r1,r2,g,t,t1,t2,hg,hq⟩:=h.pair (h.pm a pa)<|h.pm b pb;have P:=L.lst _ _ (λz=>z) h5;have F:∀z∈hs,jI S3 z.2=some (z.1.map tq):=λz j=>L.lst _ _ (λz=>z) (Y z j).1;have lG:hs.length<=1000000:=by
  have e:=c7 List.length K;rw[aG]at e;have:=h.bk;have:=cM GV<|inj n n;have:=h.hl
  lia
 have J:=Fb (cap:=[some 5]) (src:=mP<|jG 2) (t:=qm<|jO (DZ false) (jG 1)<|jG 0) (e:=jG 0) (τ:=[.frz<|ns.map .int,.int n,.ref r,.int<|0+(i:Int),.ref S.length,tq a,tq b,x7]) (S:=S3) (xs:=hs.map λz=>A.ref z.2) (mw (by dsimp[kg,mz]) P) P
  (λx=>match x with
   | .ref q=>decide (a∈((jI S3 q).getD []).map un)
   | _=>false) (λx=>x) (λx N=>by
   obtain⟨z,j,rfl⟩:=bu.mp N;have i1:=LY (x:=a)<|F z j;have M:((jI S3 z.2).getD []).map un=z.1:=by
    rw[F z j];show(z.1.map tq).map un=_;rw[bz];exact(cB λo _=>yx o).trans (gQ _)
   show qm (jO (DZ false) (jG 1)<|jG 0) [.ref z.2,tq a] S3=.ok (decide<|a∈((jI S3 z.2).getD []).map un) S3;rw[M];dsimp[kg,mz,bools,uq,i1]) (λx N _=>by
   obtain⟨z,j,rfl⟩:=bu.mp N;show jG 0 (.ref z.2::_) S3=_;dsimp[kg,mz]) (by rw[aG];lia)
 have fe:(((hs.map λz=>A.ref z.2).filter λx=>match x with
   | .ref q=>decide (a∈((jI S3 q).getD []).map un)
   | _=>false).map λx=>x)=(hs.filter λz=>decide<|a∈z.1).map λz=>.ref z.2:=by
  rw[jy,dI];have:hs.filter ((λx=>match x with
   | A.ref q=>decide (a∈((jI S3 q).getD []).map un)
   | _=>false) ∘ λz=>A.ref z.2)=hs.filter λz=>decide (a∈z.1):=ig λz j=>by
   show decide (a∈((jI S3 z.2).getD []).map un)=_;have M:((jI S3 z.2).getD []).map un=z.1:=by
    rw[F z j];show(z.1.map tq).map un=_;rw[bz];exact(cB λo _=>yx o).trans (gQ _)
   rw[M]
  rw[this]
 rw[fe]at J;obtain⟨d,t0,B⟩:∃d t0,(hs.filter λz=>decide<|a∈z.1)=d::t0:=by
  cases c:hs.filter λz=>decide (a∈z.1)with
  | nil=>
   have:(hs.map (·.1)).filter (λh=>decide<|a∈h)=[]:=by
    rw[dI,show hs.filter ((λh=>decide<|a∈h) ∘ (·.1))=[]from c];rfl
   rw[K,hg]at this
   cases this
  | cons d t0=>exact⟨d,t0,rfl⟩
 have z1:d.1=g:=by
  have:(hs.map (·.1)).filter (λh=>decide<|a∈h)=d.1::t0.map (·.1):=by
   rw[dI,show hs.filter ((λh=>decide<|a∈h) ∘ (·.1))=d::t0 from B];rfl
  rw[K,hg]at this;exact(List.cons.inj this).1.symm
 have zm:d∈hs:=(cg.mp<|by rw[B];exact aO ..).1;rw[B]at J;obtain⟨C,f⟩:∃C,C=S3++[O.lst<|(d::t0).map λz=>.ref z.2]:=⟨_,rfl⟩;rw[<- f]at J;have W:ly S3 C:=by rw[f];kcf_m
 have l4:jI C S3.length=some (.ref d.2::t0.map λz=>.ref z.2):=by rw[f];exact jX
 have lz:=W.lst _ _ (λz=>z)<|F d zm;rw[z1]at lz;have V:=LY (x:=b) lz;rw[hq]at V;obtain⟨n1,m1,rs1,qs1,S5,f1,w1,k5⟩:=OC (S:=C) t1;obtain⟨n2,m2,rs2,qs2,S6,f2,w2,U⟩:=OC (S:=S5) t2;have eq:=F9<|(w1.wC U).t.eq w2.t;refine⟨.ref S.length,tq a,tq b,.ref d.2,S6,?_,((L.trans W).trans k5).trans U⟩;unfold yR;have nb:∀(p:Bool) (T:jK),uc true (.bl p) (.bl p) T=.ok (.bl false) T:=λp T=>by cases p<;>rfl
 dsimp[kg,mz,bools,ec,e1,e2,e3,↓J,l4,xx,uq,V,f1,f2,eq,nb]
end K66
namespace K66
open PySem L2 Am
open Eu (inj)
def Dr{n:Nat}{o:ag}(h:o.Perm<|lU 1<|(n:Int)+1):o∈inj n n:=Eu.RC.mpr h
def hi1:∀o∈inj 1 1,o.length=1/\∀x∈o,1<=x/\x<=((1:Nat):Int):=by decide +kernel
def hi2:∀o∈inj 2 2,o.length=2/\∀x∈o,1<=x/\x<=((2:Nat):Int):=by decide +kernel
def hi3:∀o∈inj 3 3,o.length=3/\∀x∈o,1<=x/\x<=((3:Nat):Int):=by decide +kernel
def hi4:∀o∈inj 4 4,o.length=4/\∀x∈o,1<=x/\x<=((4:Nat):Int):=by decide +kernel
def II{n:Nat}{G:List Os}(hn:n<=4)(h:Okn n 200 (ao n)<|lz (ao n) C)(hg:Ri (ao n) (lz (ao n) C)=G)(S:jK):∃(r:Nat) (S':jK),k_ [.int n] S=.ok (.ref r) S'/\Hs S' r r G/\S.length<=r/\ly S S':=by
 rw[<- hg];exact WH hn h
def ok1:Ok4 1 Gq1:=⟨by decide,by decide,hi1,by decide +kernel,by decide +kernel,by decide +kernel,by decide +kernel,λ_ h=>Dr h,II ⋯ on1 gt1⟩
def ok2:Ok4 2 Gq2:=⟨by decide,by decide,hi2,by decide +kernel,by decide +kernel,by decide +kernel,by decide +kernel,λ_ h=>Dr h,II ⋯ on2 gt2⟩
def ok3:Ok4 3 Gq3:=⟨by decide,by decide,hi3,by decide +kernel,by decide +kernel,by decide +kernel,by decide +kernel,λ_ h=>Dr h,II ⋯ on3 gt3⟩
def ok4:Ok4 4 Gq4:=⟨by decide,by decide,hi4,by decide +kernel,by decide +kernel,by decide +kernel,by decide +kernel,λ_ h=>Dr h,II ⋯ on4 gt4⟩
def Hs.kp{r L:Nat}{G:List Os}(h:Hs S r L G)(k:ly S S'):Hs S' r L G:=by
 obtain⟨hs,h1,h2,h3⟩:=h.ex;exact⟨hs,k.lst _ _ (λz=>z) h1,h2,λz d=>⟨k.lst _ _ (λz=>z) (h3 z d).1,(h3 z d).2⟩⟩
def WA(ns:ag)(hl:ns.length<=63):∃S',Bf [.frz<|ns.map .int] []=.ok (.bl true) S':=by
 obtain⟨c0,K⟩:=Jo (S:=[.lst [A.int 4,A.int 3,A.int 4,A.int 2,A.int 1,A.int 4]]) (ns:=ns) (k:=0) ⋯;obtain⟨C,d⟩:∃C:jK,C=[.lst [A.int 4,A.int 3,A.int 4,A.int 2,A.int 1,A.int 4]]:=⟨_,rfl⟩;rw[<- d]at K;have l0:jI C 0=some [A.int 4,A.int 3,A.int 4,A.int 2,A.int 1,A.int 4]:=by rw[d];rfl
 have N:C.length=1:=by rw[d];rfl
 have n0:newL [A.int 4,A.int 3,A.int 4,A.int 2,A.int 1,A.int 4] []=.ok (.ref 0) C:=by rw[d];exact pX (show 6<=16777216 by decide)
 obtain⟨S1,e1,b1,k1⟩:=HH (S:=C) (c:=c0) (k:=1) ⋯ ⋯;obtain⟨q,S2,e2,q0,Y,b2,k2⟩:=digit (m:=6) b1 ⋯ ⋯;have g2:jI S2 0=some [A.int 4,A.int 3,A.int 4,A.int 2,A.int 1,A.int 4]:=k2.lst _ _ (by show ¬0=C.length;lia)<|k1.lst _ _ (λz=>z) l0;rw[N]at e1 e2;obtain⟨n,G,em,ok⟩:∃(n:Nat) (G:List Os),t8 [A.int 4,A.int 3,A.int 4,A.int 2,A.int 1,A.int 4] q=some (.int n)/\Ok4 n G:=by
  have:q=0\/q=1\/q=2\/q=3\/q=4\/q=5:=()
  rcases this with rfl|rfl|rfl|rfl|rfl|rfl
  ·exact⟨4,Gq4,rfl,ok4⟩
  ·exact⟨3,Gq3,rfl,ok3⟩
  ·exact⟨4,Gq4,rfl,ok4⟩
  ·exact⟨2,Gq2,rfl,ok2⟩
  ·exact⟨1,Gq1,rfl,ok1⟩
  ·exact⟨4,Gq4,rfl,ok4⟩
 obtain⟨r,S3,e3,h3,_,k3⟩:=ok.rh S2;obtain⟨hs,h5,h6,h7⟩:=h3.ex;have O:hs.length=G.length:=by have:=c7 List.length h6;rwa [aG]at this
 have lf:G.flatten.length=(inj n n).length:=by rw[<- ok.fl];exact((j8 _).length_eq).symm
 have M:∀o∈G.flatten,o≠[]:=λo ho z=>by
  have:o∈inj n n:=by rw[<- ok.fl];exact(j8 _).mem_iff.mpr ho
  have:=(ok.hi o this).1;have:=ok.n1;rw[z]at *
  simp at *
  lia
 obtain⟨S4,W,k4⟩:=N5 (S:=S3) ok.n4 ok.hi ok.hl;have hl24:=ok.hl;obtain⟨R,S5,e5,l5,k5⟩:=Ur (S:=S4) (h3.kp k4) () M;obtain⟨V,F,e6,l6,k6,_⟩:=IF (S:=S5) (n:=n) (by have:=ok.n4;lia);have L:=k6.lst _ _ (λz=>z) l5;rw[ok.fl]at L;have P:uc true (.ref R) (.ref V) F=.ok (.bl false) F:=Wv<|VF L l6;rw[ok.bk]at W;have U:Hs F r r G:=((h3.kp k4).kp k5).kp k6;have J:∃(B t g f j:A) (S':jK),lV Cc (j_ 3) yR [.frz<|ns.map .int,.int n,.ref r,.unb,.unb,.unb,.unb,.unb] F=.nx [.frz<|ns.map .int,.int n,.ref r,B,t,g,f,j] S':=by
  refine zg (lo:=0) (hi:=8) (S1:=F) (show Cc _ _=_ from uh (by dsimp[kg,bools])<|qz ⋯ ⋯)
   (λi τ T=>∃(B t g f j:A),τ=[.frz<|ns.map .int,.int n,.ref r,B,t,g,f,j]/\Hs T r r G)
   (λZ=>∃(B t g f j:A) (S':jK),Z=.nx [.frz<|ns.map .int,.int n,.ref r,B,t,g,f,j] S')
   ⟨_,_,_,_,_,rfl,U⟩ ?_ ?_
  ·rintro i τ T hi ⟨B,t,g,f,j,rfl,hT⟩;obtain⟨z4,z5,z6,z7,T1,x1,Y⟩:=TM (ns:=ns) (i:=i) (x4:=t) (x5:=g) (x6:=f) (x7:=j) ok hT ();exact .inl ⟨_,T1,x1,_,_,_,_,_,rfl,hT.kp Y⟩
  ·rintro τ T ⟨B,t,g,f,j,rfl,_⟩;exact⟨_,_,_,_,_,T,rfl⟩
 obtain⟨B,t,g,f,j,S7,x7⟩:=J;refine⟨S7,?_⟩;unfold Bf NR P5;have nb:∀(p:Int),(p == p)=true:=λp=>bT p;dsimp[kg,mz,bools,mW,Nat.reduceAdd,Nat.reduceSub,n0,K,e1,e2,g2,em,e3,h5,aG,O,W,nb,bW,e5,e6,P,↓x7]
end K66
namespace K66
open PySem L2 Am
def all_mk{l:PySem.W.OpenLaw}{w:ah}{K:au}{h:aq}{mg:Str->bd}{fa:ak}(X:K.In h)(G:h.Ns mainGlobals mg)(hfa:mg "law" = some (.ref fa))
  (a1:Df K "is_whole" v_)
  (a2:Df K "need_pair" uK)
  (a3:Df K "is_exchange" r9)
  (a4:Df K "exchanged_places" nR)
  (a5:Df K "exchanged" uX)
  (a6:Df K "falls" Dj)
  (a7:Df K "factorial" uQ)
  (a8:Df K "numbered" v9)
  (a9:Df K "as_polynomial" pR)
  (a10:Df K "plus" GH)
  (a11:Df K "times" CV)
  (a12:Df K "put_before" tD)
  (a13:Df K "as_sum" zY)
  (a14:Df K "need_like" uo)
  (a15:Df K "added" Dh)
  (a16:Df K "scaled" AK)
  (a17:Df K "by_exchange" rT)
  (a18:Df K "number_at_one" p9)
  (a19:Df K "kept_by_fall" qG)
  (a20:Df K "found_kept" qu)
  (a21:Df K "leads_among" rL)
  (a22:Df K "all_orders" s_)
  (a23:Df K "has_other_fall" oW)
  (a24:Df K "reached_from" qD)
  (a25:Df K "gathered" v5)
  (a26:Df K "right_hearths" p8)
  (a27:Df K "_law_cell" vQ)
  (a28:Df K "_law_bag" xN)
  (a29:Df K "_law_mixed" uJ)
  (a30:Df K "_law_digit" uS)
  (a31:Df K "_law_order" uN)
  (a32:Df K "_law_tables" tB)
  (a33:Df K "_law_all" x_)
  (a34:Df K "_law_backs" um)
  (a35:Df K "_law_flat" wu)
  (a36:Df K "law" Qx)
  (acg:PySem.W.nsIn K mainGlobals "isinstance" = some none)
  (ach:PySem.W.nsIn K mainGlobals "bool" = some none)
  (acj:PySem.W.nsIn K mainGlobals "int" = some none)
  (ack:PySem.W.nsIn K mainGlobals "len" = some none)
  (acm:PySem.W.nsIn K mainGlobals "list" = some none)
  (acn:PySem.W.nsIn K mainGlobals "tuple" = some none)
  (aco:PySem.W.nsIn K mainGlobals "range" = some none)
  (acp:PySem.W.nsIn K mainGlobals "sorted" = some none)
  (acq:PySem.W.nsIn K mainGlobals "dict" = some none)
  (acr:PySem.W.nsIn K mainGlobals "any" = some none)
  (acs:PySem.W.nsIn K mainGlobals "abs" = some none)
  (acu:PySem.W.nsIn K mainGlobals "enumerate" = some none)
  (acv:PySem.W.nsIn K mainGlobals "all" = some none)
  {acd:Tok} (acw:PySem.W.nsIn K mainGlobals "MOST_THINGS" = some (some<|.int 4 acd))
  {a_AT_A_FALL:ak} (acy:PySem.W.nsIn K mainGlobals "AT_A_FALL" = some (some<|.ref a_AT_A_FALL)) (kp_AT_A_FALL:YG K a_AT_A_FALL=some [((-1:Int),(1:Int)),((1:Int),(-1:Int))])
  : ∃fd:FuncData,(∀(s:aC) (v:af),BindsTo s fd ⟨[v],[]⟩ [("_law_script",v)])/\∀base:aq,K.In base->base.Ns mainGlobals mg->FnOk l.prog w K mg base qb 24 fa fd ["_law_script"] (qZ K 1 Bf):=by
 obtain⟨f,fd,a,F⟩:=a36;have e:=hfa.symm.trans (jj X G a)
 cases e
 have aaO:=cu X G acg;have aa2:=cu X G ach;have aa5:=cu X G acj;have g:=cu X G ack;have q:=cu X G acm;have J:=cu X G acn;have k:=cu X G aco;have z:=cu X G acp;have Z:=cu X G acq;have abJ:=cu X G acr;have abV:=cu X G acs;have U:=cu X G acu;have ab0:=cu X G acv;have abE:∃t,mg "MOST_THINGS" = some (.int 4 t):=⟨acd,jj X G acw⟩;have j:∃a,mg "AT_A_FALL" = some (.ref a)/\YG K a=some [((-1:Int),(1:Int)),((1:Int),(-1:Int))]:=⟨a_AT_A_FALL,jj X G acy,kp_AT_A_FALL⟩;refine⟨fd,λs v=>(by obtain⟨_,_,_,_,_,_,_,_,_,rfl,_,_⟩:=F.ex;exact .of_eq rfl),λbase _ _=>?_⟩;have E:En l.prog w K mg base:=⟨h,X,G⟩;have Y:=a1.kA E (λF=>FF F aaO aa2 aa5)<|F4 λ_ _ _ _ _ _ _=>rfl;have abl:=a2.kA E (λF=>Cd F g)<|D5 λ_ _ _ _ _ _ _ _=>rfl;have aa7:=a3.kA E (λF=>zJ F Y)<|D5 λ_ _ _ _ _ _ _ _=>rfl;have abb:=a4.kA E (λF=>vG F q J)<|us3 λ_ _ _ _ _ _ _ _ _=>rfl;have N:=a5.kA E (λF=>DJ F g aa7 abb)<|D5 λ_ _ _ _ _ _ _ _=>rfl;have p:=a6.kA E (λF=>OJ F k g)<|F4 λ_ _ _ _ _ _ _=>rfl;have O:=a7.kA E (λF=>Cv F k)<|F4 λ_ _ _ _ _ _ _=>rfl;have abH:=a8.kA E (λF=>E6 F q k g J O Y)<|D5 λ_ _ _ _ _ _ _ _=>rfl;have T:=a9.kA E (λF=>xX F z)<|F4 λ_ _ _ _ _ _ _=>rfl;have abi:=a10.kA E (λF=>Rm F Z T)<|D5 λ_ _ _ _ _ _ _ _=>rfl;have V:=a11.kA E (λF=>Mm F T)<|D5 λ_ _ _ _ _ _ _ _=>rfl;have C:=a12.kA E (λF=>Bc F abi)<|us3 λ_ _ _ _ _ _ _ _ _=>rfl;have B:=a13.kA E (λF=>Lc F z)<|F4 λ_ _ _ _ _ _ _=>rfl;have abn:=a14.kA E (λF=>CG F abl)<|D5 λ_ _ _ _ _ _ _ _=>rfl;have aaP:=a15.kA E (λF=>Nv F abn C B)<|D5 λ_ _ _ _ _ _ _ _=>rfl;have aaQ:=a16.kA E (λF=>KC F C V B)<|D5 λ_ _ _ _ _ _ _ _=>rfl;have abA:=a17.kA E (λF=>Af F q j C N p V B)<|D5 λ_ _ _ _ _ _ _ _=>rfl;have P:=a18.kA E (λF=>yd F Z)<|F4 λ_ _ _ _ _ _ _=>rfl;have d:∀{Fs:ae->jK->R A} {kr:Nat},nW l.prog w K mg base (5+2 * kr) "found_kept" lY Fs->nW l.prog w K mg base (5+2 * kr+1) "kept_by_fall" m8 (lN kW<|kR Fs):=λG=>a19.kA E (λF=>yH F N aaP aaQ abA P p G)<|us3 λ_ _ _ _ _ _ _ _ _=>rfl;have abC:=a20.rA E (λF hm hk hb=>uv F p d hm hk hb 8)<|D5 λ_ _ _ _ _ _ _ _=>rfl;have abN:=a21.kA E (λF=>zL F abC P)<|F4 λ_ _ _ _ _ _ _=>rfl;have abM:=a22.kA E (λF=>A2 F k abE O abH)<|F4 λ_ _ _ _ _ _ _=>rfl;have abR:=a23.kA E (λF=>wQ F abJ p)<|D5 λ_ _ _ _ _ _ _ _=>rfl;have abK:=a24.kA E (λF=>yF F)<|D5 λ_ _ _ _ _ _ _ _=>rfl;have abO:=a25.kA E (λF=>EM F z abK)<|F4 λ_ _ _ _ _ _ _=>rfl;have ab1:=a26.kA E (λF=>xJ F abM abN abO abR)<|F4 λ_ _ _ _ _ _ _=>rfl;have aaU:=a27.kA E (λF=>Fd F g)<|D5 λ_ _ _ _ _ _ _ _=>rfl;have aaS:=a28.kA E (λF=>GL F abV)<|D5 λ_ _ _ _ _ _ _ _=>rfl;have aaR:=a29.kA E (λF=>Cw F)<|F4 λ_ _ _ _ _ _ _=>rfl;have L:=a30.kA E (λF=>Cu F k aaR)<|D5 λ_ _ _ _ _ _ _ _=>rfl;have aaV:=a31.kA E (λF=>Ct F q k g J L)<|D5 λ_ _ _ _ _ _ _ _=>rfl;have aaW:=a32.kA E (λF=>A3 F U g k)<|F4 λ_ _ _ _ _ _ _=>rfl;have M:=a33.kA E (λF=>GR F k)<|F4 λ_ _ _ _ _ _ _=>rfl;have ab9:=a34.kA E (λF=>DF F g ab0 U M)<|F4 λ_ _ _ _ _ _ _=>rfl;have ab5:=a35.kA E (λF=>F3 F z)<|F4 λ_ _ _ _ _ _ _=>rfl;exact Xd F g k L aaS aaU ab1 ab5 M ab9 aaV aaW
def walk{l:PySem.W.OpenLaw}{q:aj}{XP:(Str->bd)->aq->Prop}{YP:ah->aq->Prop}{d:DefRec}{K:Params->au}(hn:l.most=some 63)(hdf:d.params.defaults=[])
  (hY:∀(w:ah) (h:aq),YP w h->(K w.params).In h)
  (F:∀(w:ah) (mg:Str->bd) (fa:ak) (h:aq),(K w.params).In h->h.Ns mainGlobals mg->mg d.name=some (.ref fa) ->
   ∃fd:FuncData,(∀(s:aC) (u:af),BindsTo s fd ⟨[u],[]⟩ [("_law_script",u)])/\∀base:aq,(K w.params).In base->base.Ns mainGlobals mg->FnOk l.prog w (K w.params) mg base qb 24 fa fd ["_law_script"] (qZ (K w.params) 1 Bf)) :
  PySem.W.WalkO q loose XP YP l.row.toRowW d [] (λf vs=>PySem.call f vs):=
 L2.Q7 (n:=63) (k:=24) (x := "_law_script") (CX:=λ_=>qb) (sp:=λw=>qZ (K w.params) 1 Bf) hn ⋯ hdf ⟨rfl,by decide,by decide,rfl⟩ hY F (λ_ H a j p g hS=>Lk g hS<|WA j p) λ_ _ _ _ _ z=>z
end K66
open PySem PySem.W PyProof.Rows
namespace PySem.W.Fast
def tw567778248664325107:=Nat
def tw820213351186157290:=Nat
def tw16320971776489978807:=Nat
def tw12608216278489282219:=Nat
def tw13423876834143316466:=Nat
def tw12567840493884018543:=Nat
def tw2667913583184153125:=Nat
def tw4314586903120140733:=Nat
def tw16458145828453589284:=Nat
def tw5880413751470202067:=Nat
def tw17893908648723225096:=Nat
def tw16104346066314750046:=Nat
def tw11396285714805782413:=Nat
def tw1282535583323689271:=Nat
def tw1587546108096218210:=Nat
def tw1387016323932441019:=Nat
def tw11758894228667429985:=Nat
def tw6105618887342320014:=Nat
def tw9932688560379705971:=Nat
def tw6524351595831865625:=Nat
def tw11619296413387009231:=Nat
def tw3964832598360375466:=Nat
def tw4836670846188987856:=Nat
def tw17680628297251358828:=Nat
def tw4885621533123637515:=Nat
def tw10173197893627990618:=Nat
def tw5019225646370614751:=Nat
def tw2469653116362135117:=Nat
def tw13385141873149623126:=Nat
def tw7040588918185531283:=Nat
def tw16765074101818232806:=Nat
def tw6904065566749400723:=Nat
def tw10057708208167048320:=Nat
def tw15273336649776292638:=Nat
def tw3319825068463712782:=Nat
def tw10066553698801108385:=Nat
def tw5553741384318717633:=Nat
def tw13000123926714114278:=Nat
def tw7092549457366026519:=Nat
def tw7916890076334951206:=Nat
def tw5105886134443716362:=Nat
def tw10568580184293146717:=Nat
def tw7107307195201056036:=Nat
def tw6772491501816825869:=Nat
def tw12290107351343054966:=Nat
def tw17352817298775803849:=Nat
def tw4971480680532668045:=Nat
def tw10811649636107058249:=Nat
def tw17226155013378303585:=Nat
def tw13710971593737507134:=Nat
def tw18133403982387401639:=Nat
def tw13509669178978562020:=Nat
def tw12809582396155545372:=Nat
def tw1100910543710156261:=Nat
def tw110039001576053501:=Nat
def tw16384043774421198816:=Nat
def tw10142268386670629076:=Nat
def tw11045611039387084244:=Nat
def tw14600531677890216377:=Nat
def tw6413026125696800535:=Nat
def tw7362880222066080526:=Nat
def tw12570659441999839194:=Nat
def tw17450980836841345593:=Nat
def tw12185559772858575290:=Nat
def tw14662306600712015598:=Nat
def tw18347191733835580838:=Nat
def tw13949954214022149525:=Nat
def tw17613850143908369263:=Nat
def tw14283528490803574105:=Nat
def tw12933656723378774692:=Nat
def tw9673899062016603406:=Nat
def tw9826093246786773107:=Nat
def tw11169758883641264674:=Nat
def tw10746415050656691487:=Nat
def tw10324009442277735855:=Nat
def tw17387324489275135901:=Nat
def tw3468790101276023345:=Nat
def tw1591263182898234963:=Nat
def tw4790656330074653338:=Nat
def tw17333400807322640984:=Nat
def tw7937448819746148984:=Nat
def tw13368130241754810876:=Nat
def tw13928064336285605727:=Nat
def tw6405703945690914186:=Nat
def tw7944176493970469667:=Nat
def tw2603226809464580028:=Nat
def tw17340050071726032511:=Nat
def tw3362759328346397330:=Nat
def tw11255758570630526664:=Nat
def tw3697915959476102925:=Nat
def tw4689468449037662372:=Nat
def tw5718442186171142695:=Nat
def tw17226013141075544749:=Nat
def tw2117531377978390228:=Nat
def tw9314788477284659790:=Nat
def tw14359966969954912172:=Nat
def tw6446002961804844683:=Nat
def tw3377020696651471251:=Nat
def tw7198721214632976174:=Nat
def tw3844500461215127690:=Nat
def tw184755446113138861:=Nat
def tw15563750632483230758:=Nat
def tw14679630477084775711:=Nat
def tw11358891403466243770:=Nat
def tw5812835520784548259:=Nat
def tw5743845862465970559:=Nat
def tw15865784660029487314:=Nat
def tw3311439986033899623:=Nat
def tw12853186112802370508:=Nat
def tw9357658846950555070:=Nat
def tw15279348969281649424:=Nat
def tw435682807795253711:=Nat
def tw17078286139947271419:=Nat
def tw12544255752021466164:=Nat
def tw8975164880737276265:=Nat
def tw13098268643386642579:=Nat
def tw4266358798212633747:=Nat
def tw14263053136191135267:=Nat
def tw4330151248937782649:=Nat
def tw4271455060218502694:=Nat
def tw11651681342588694713:=Nat
def tw13676970071518375270:=Nat
def tw16131599243241887446:=Nat
def tw13650044261852559450:=Nat
def tw3922800959721578201:=Nat
def tw16034373018870220923:=Nat
def tw16253003379530251682:=Nat
def tw14077970412855951198:=Nat
def tw10261521371670059517:=Nat
def tw15835374935341294713:=Nat
def tw535084177990408276:=Nat
def tw5323991213804378257:=Nat
def tw17542806754448252714:=Nat
def tw1271744650023720706:=Nat
def tw2881935812724988760:=Nat
def tw173643710219488623:=Nat
def tw16398881440303984984:=Nat
def tw13198514883058817227:=Nat
def tw14038738948902081017:=Nat
def tw6167040526304884691:=Nat
end PySem.W.Fast
set_option maxRecDepth 100000 in
set_option maxHeartbeats 0 in
theorem PySem.Challenge.cw_undercells_k66_right_hearths_by_tables_holds : PySem.Challenge.rw_undercells_k66_right_hearths_by_tables.Holds := by
 w_on;o_law;k_head;(case hw=>w_witness2)
 k_fill
 refine K66.walk (l:=PySem.Challenge.rw_undercells_k66_right_hearths_by_tables) rfl rfl (fun w h Y=>PySem.W.kIn_of Y) ?F
 case F=>
  intro w mg fa h KX G hmg;refine' K66.all_mk KX G hmg (.of ?_ ?_ ?_ ?_) (.of ?_ ?_ ?_ ?_) (.of ?_ ?_ ?_ ?_) (.of ?_ ?_ ?_ ?_) (.of ?_ ?_ ?_ ?_) (.of ?_ ?_ ?_ ?_) (.of ?_ ?_ ?_ ?_) (.of ?_ ?_ ?_ ?_) (.of ?_ ?_ ?_ ?_) (.of ?_ ?_ ?_ ?_) (.of ?_ ?_ ?_ ?_) (.of ?_ ?_ ?_ ?_) (.of ?_ ?_ ?_ ?_) (.of ?_ ?_ ?_ ?_) (.of ?_ ?_ ?_ ?_) (.of ?_ ?_ ?_ ?_) (.of ?_ ?_ ?_ ?_) (.of ?_ ?_ ?_ ?_) (.of ?_ ?_ ?_ ?_) (.of ?_ ?_ ?_ ?_) (.of ?_ ?_ ?_ ?_) (.of ?_ ?_ ?_ ?_) (.of ?_ ?_ ?_ ?_) (.of ?_ ?_ ?_ ?_) (.of ?_ ?_ ?_ ?_) (.of ?_ ?_ ?_ ?_) (.of ?_ ?_ ?_ ?_) (.of ?_ ?_ ?_ ?_) (.of ?_ ?_ ?_ ?_) (.of ?_ ?_ ?_ ?_) (.of ?_ ?_ ?_ ?_) (.of ?_ ?_ ?_ ?_) (.of ?_ ?_ ?_ ?_) (.of ?_ ?_ ?_ ?_) (.of ?_ ?_ ?_ ?_) (.of ?_ ?_ ?_ ?_) ?_ ?_ ?_ ?_ ?_ ?_ ?_ ?_ ?_ ?_ ?_ ?_ ?_ ?_ ?_ ?_
  any_goals first|k_is|kernel_rfl
