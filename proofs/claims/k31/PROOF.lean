import PyProof.Rows.All
import Wide.All
import OpenK.AllK
import Wide.FinOn
import Lean
import PyProof.EqAt
import PyProof.EqKinds
import PyProof.TupleCall
import PySem.Challenge.RW_undercells_k31_turning_by_any_word
set_option autoImplicit true
set_option relaxedAutoImplicit true
set_option Elab.async false
set_option linter.all false
set_option maxRecDepth 100000
set_option maxHeartbeats 4000000
local macro_rules|`(command|abbrev $n:declId $s:optDeclSig $v:declVal)=>`(command|noncomputable def $n:declId $s:optDeclSig $v:declVal)|`(command|meta abbrev $n:declId $s:optDeclSig $v:declVal)=>`(command|@[reducible]noncomputable def $n:declId $s:optDeclSig $v:declVal)
local macro_rules|`(∅)=>`(by decide +kernel)
local macro_rules|`(⋯)=>`(by decide)
local macro_rules|`(tactic|dsimp[$l,*])=>`(tactic|simp only[$l,*])|`(tactic|dsimp[$l,*]$o:location)=>`(tactic|simp only[$l,*]$o:location)
local macro_rules(kind:=Lean.Parser.Term.structInst)|`({})=>`({cls:=.type "list",data:=.seq ([]:List PySem.Value).toArray})
set_option hygiene false
local macro_rules|`(tactic|room)=>`(tactic|obtain⟨ρ,S,τ,R,r,h⟩:=h9)
local macro_rules|`(tactic|z_go)=>`(tactic|intro X hP hw hK hc i pins s σ H E I hf st hg)
local macro_rules|`(tactic|x_go)=>`(tactic|obtain⟨ρ,S,a,b,R,va,vb,h⟩:=h9)
local macro_rules|`(tactic|w_up)=>`(tactic|intro pins s σ H xs us Q I r h)
local macro_rules|`(tactic|k_ne)=>`(tactic|intro pins s σ H Q I h)
local macro_rules|`(tactic|kt_k)=>`(tactic|obtain⟨f0,f1,f2,f3,f4,f5⟩:=hf it (by simp))
local macro_rules|`(tactic|kd_p)=>`(tactic|refine⟨ρ,S,τ,R,r,jO (jS h) .refl λo S1 h1 ρ1 H1 x e1 R1 v1=>⟨ρ1,S1,τ,R1,r.ext e1,jO (jS h1) e1 λi S2 h2 ρ2 H2 y e2 R2 v2=>?_⟩⟩)
local macro_rules|`(tactic|gn_on)=>`(tactic|obtain⟨w,rfl,ρ,S,x,R,hv,h⟩:=Us h0)
local macro_rules|`(tactic|gp_on)=>`(tactic|obtain⟨xs,hn,h⟩:=jU h)
local macro_rules|`(tactic|kj_on)=>`(tactic|obtain⟨u,rfl,rx⟩:=vals1 r)
local macro_rules|`(tactic|kcf_m)=>`(tactic|intro pins s σ H x y v u Q I rx ry h)
local macro_rules|`(tactic|kcj_m)=>`(tactic|refine⟨ρ2,S2,o,i,a,R2,v1.ext e2,v2,va.ext (e1.trans e2),jO (jS h2) (e1.trans e2) λ_ S3 h3 ρ3 H3 e3 R3=>?_⟩)
local macro_rules|`(tactic|kpc_g)=>`(tactic|obtain⟨ρ,S,τ,R,r,h⟩:=h)
local macro_rules|`(tactic|kpf_c)=>`(tactic|exact I1.EO (aO _) (I1.hok.fresh (aO _)))
local macro_rules|`(tactic|ksr_p)=>`(tactic|refine aZ (wpS_lift (eT ⟨rfl,?_⟩)))
local macro_rules|`(tactic|kst_p)=>`(tactic|exact⟨ρ2,S2,x,as,R2,v1.ext e2,v2,jO h2 (e1.trans e2) λ_ _ z=>z.ext (e1.trans e2)⟩)
local macro_rules|`(tactic|kln_w)=>`(tactic|intro pins s σ H D I h)
local macro_rules|`(tactic|kl_no)=>`(tactic|obtain⟨t,rfl⟩:=rx)
local macro_rules|`(tactic|mg_lt)=>`(tactic|have n0:newL [] S=.ok (.ref S.length) (S++[.lst []]):=kM (show 0<=16777216 by decide))
local macro_rules|`(tactic|cb_eq)=>`(tactic|exact h3 ρ3 H3 σ ((e1.trans e2).trans e3) R3 (r.ext ((e1.trans e2).trans e3)))
local macro_rules|`(tactic|o_rec)=>`(tactic|obtain⟨q1,q2,q3,q4⟩:=nch b hch)
local macro_rules|`(tactic|f_are)=>`(tactic|intro value slice pins s σ H x y v u Q I rx ry h hs)
set_option hygiene true
local macro_rules|`(())=>`(by lia)
@[reducible]def ag:=List Int
@[reducible]def am:=List Nat
@[reducible]def ar:=List PySem.Str
@[reducible]def ba:=List PySem.Value
@[reducible]def bb:=List PySem.Addr
@[reducible]def bd:=Option PySem.Value
@[reducible]def bi:=Option Int
@[reducible]def bj:=Option Bool
@[reducible]def bn:=Option Nat
@[reducible]def bo:=List<|PySem.Addr×PySem.Obj
def aF:=@List.getElem?_eq_getElem
def aG:=@List.length_map
def aH:=@PySem.wpAny_bind
def aI:=@List.getD_eq_getElem?_getD
def aJ:=@if_neg
def aK:=@List.getElem?_eq_some_iff
def aL:=@if_pos
def aM:=@List.mem_cons_self
def aN:=@List.mem_cons_of_mem
def aO:=@Nat.le_refl
def aP:=@List.mem_singleton
def aQ:=@PySem.Heap.get?_push_of_some
def aR:=@PySem.wpAny_pure
def aS:=@List.length_append
def aV:=@List.getElem?_map
def aW:=@List.mem_of_getElem?
def aX:=@List.size_toArray
def aY:=@Option.map_eq_some_iff
def aZ:=@PyProof.Rows.wpS_bind
def a_:=@PySem.Heap.lt_size
def bg:=@decide_eq_true
def bh:=@Option.some.inj
def bq:=@PySem.Heap.get?_push_size
def br:=@List.mem_map
def bu:=@List.mem_cons
def bz:=@List.length_cons
def bA:=@PyProof.Rows.wpS_pure
def bB:=@Nat.le_trans
def bC:=@Nat.ne_of_lt
def bD:=@List.map_map
def bE:=@List.mem_append
def bF:=@Bool.false_eq_true
def bG:=@List.getElem?_append_left
def bH:=@decide_eq_false
def bI:=@List.length_take
def bJ:=@List.map_cons
def bK:=@PySem.PassesOwn.never
def bL:=@Nat.lt_of_lt_of_le
def bM:=@Bool.false_ne_true
def bN:=@List.map_append
def bO:=@of_decide_eq_true
def bP:=@Nat.zero_le
def bQ:=@List.pairwise_cons
def bR:=@Nat.zero_add
def bU:=@List.mem_append_right
def bV:=@beq_self_eq_true
def bW:=@List.getElem?_set_self
def bX:=@Option.bind_eq_some_iff
def bY:=@PySem.W.mg_none_of
def bZ:=@List.length_set
def b7:=@Nat.mul_le_mul_right
def b8:=@List.getElem?_eq_none
def b9:=@PySem.wpAny_newObj_type
def b_:=@List.mem_filter
def cg:=@List.length_nil
def cj:=@if_false
def ck:=@List.append_assoc
def cu:=@List.pairwise_singleton
def cA:=@List.pairwise_iff_getElem
def cB:=@List.getElem?_set_ne
def cC:=@List.pairwise_append
def cD:=@List.forall_mem_cons
def cE:=@Option.bind_some
def cF:=@List.length_range
def cG:=@List.append_nil
def cH:=@PySem.wpAny_call_entry
def cI:=@List.pairwise_map
def cJ:=@PySem.AutoSeq1.wpAny_loadPart'
def cK:=@Nat.lt_of_le_of_lt
def cL:=@PyProof.Rows.slot_tuple_getitem
def cM:=@PySem.F.slot_dict_get
def cN:=@List.length_filter_le
def cO:=@Ne.symm
def cP:=@PyProof.Rows.wpS_forRange
def cQ:=@List.map_congr_left
def cR:=@List.find?_cons
def cT:=@List.length_drop
def cU:=@PySem.wpAny_callSpecial?_slot
def cV:=@Bool.not_true
def cW:=@List.ext_getElem?
def cX:=@PySem.F.slot_dict_keyiterator_next
def cY:=@PySem.W.kia_one
def cZ:=@List.getElem_map
def c6:=@List.take_length
def c7:=@List.length_singleton
def c8:=@PyProof.Rows.callWith_type1
def c9:=@Int.toNat_natCast
def c_:=@if_true
def dc:=@List.foldl_append
def dg:=@List.nodup_cons
def dh:=@Option.map_some
def di:=@List.drop_eq_getElem_cons
def dj:=@Classical.byContradiction
def dm:=@List.replicate_succ
def dw:=@PySem.sizeLine_eq
def dz:=@List.nodup_append
def dB:=@List.take_add_one
def dD:=@List.mem_range
def dF:=@PySem.wpAny_holding
def dG:=@Nat.mul_le_mul
def dH:=@Int.add_zero
def dI:=@Int.zero_add
def dJ:=@List.getElem_inj
def dM:=@List.mem_of_mem_take
def dN:=@Nat.pow_le_pow_right
def dO:=@congrArg
def dP:=@List.getElem?_append_right
def dQ:=@List.take_of_length_le
def dR:=@Array.length_toList
def dS:=@List.getElem?_range
def dU:=@Array.getElem?_toList
def dW:=@PySem.F.type_dict_get
def dX:=@Option.getD_some
def dY:=@of_decide_eq_false
def dZ:=@List.getElem_range
def d7:=@Nat.succ_mul
def d8:=@List.Perm.eq_of_pairwise
def d9:=@List.nodup_nil
def d_:=@PySem.wpAny_typeNameOfWhole_keyiter
def eg:=@PySem.wpAny_truthy_bool
def eB:=@List.flatten_cons
def eE:=@List.length_eq_zero_iff
def eF:=@decide_eq_true_eq
def eG:=@beq_eq_false_iff_ne
def eK:=@PyProof.Rows.wpS_mono
def eL:=@List.getElem_mem
def eN:=@List.mem_reverse
def eO:=@PySem.F.slot_tuple_iterator_next
def eS:=@PySem.Obj.data_mapFields
def eT:=@PySem.wpAny_rule
def eU:=@Bool.not_false
def eV:=@List.Perm.refl
def eW:=@List.getElem?_toArray
def eX:=@List.take_append_drop
def eY:=@List.getElem?_eq_none_iff
def eZ:=@PySem.wpAny_passesOwn
def e8:=@List.foldl_cons
def e_:=@Nat.not_lt_zero
def ff:=@List.mem_append_left
def fh:=@PySem.wpAny_field
def fj:=@Nat.lt_succ_of_lt
def fm:=@List.range_eq_range'
def fq:=@List.take_succ_eq_append_getElem
def fu:=@List.mem_of_mem_drop
def fy:=@Nat.one_mul
def fB:=@Option.isSome_iff_exists
def fC:=@PySem.wpAny_typeNameOf_keyiter
def fF:=@List.idxOf_lt_length_iff
def fG:=@PySem.mem_of_lookup
def fH:=@PySem.Heap.SameBut.update
def fJ:=@List.mem_map_of_mem
def fK:=@List.length_reverse
def fL:=@List.filter_sublist
def fM:=@Bool.and_eq_true
def fN:=@PySem.Heap.size_push
def fO:=@Nat.lt_succ_self
def fP:=@List.take_zero
def fQ:=@List.prefix_refl
def fR:=@List.mem_flatMap
def fS:=@PySem.wpAny_typeOf
def fV:=@PySem.tupleKind_room_in1
def fW:=@PyProof.Rows.wpS_modify
def fX:=@List.prefix_append
def fY:=@Nat.lt_irrefl
def fZ:=@List.any_cons
def f6:=@PySem.Heap.get?_update_self
def f7:=@PySem.builtinLookup_eq_fast
def f9:=@List.set_append_right
def f_:=@List.reverse_cons
def gb:=@List.flatMap_cons
def gc:=@PySem.Around.under_plainId
def gf:=@PySem.isSubtype_type
def gg:=@List.getElem?_of_mem
def gh:=@List.reverse_reverse
def gp:=@List.mem_iff_getElem
def gq:=@List.perm_ext_iff_of_nodup
def gr:=@Int.le_refl
def gu:=@List.lookup_cons
def gv:=@List.ext_getElem
def gw:=@List.any_eq_true
def gz:=@PySem.Calls.call_function_entry
def gA:=@PySem.F.args_dict_keyiterator_next_1
def gB:=@List.getElem?_take_of_lt
def gC:=@PySem.F.args_tuple_add_2
def gD:=@Bool.false_or
def gE:=@PySem.F.entry_dict_keyiterator_next
def gF:=@PySem.F.slot_list_getattribute
def gG:=@List.Pairwise.imp_of_mem
def gH:=@List.sum_cons
def gI:=@PySem.codeAny_builtin
def gJ:=@PySem.wpAny_pyIter_tuple
def gK:=@List.getElem?_drop
def gM:=@Int.emod_lt_of_pos
def gO:=@PySem.F.entry_tuple_add
def gP:=@PySem.F.args_dict_get_3
def gQ:=@PySem.F.slot_tuple_add
def gR:=@List.map_nil
def gS:=@List.pairwise_lt_range
def gT:=@PySem.wpAny_setField
def gU:=@Option.isSome_map
def gW:=@PySem.F.entry_dict_get
def gY:=@PyProof.Rows.wpS_get
def gZ:=@Nat.sub_self
def g_:=@PySem.Heap.get?_push_ne
def h_:=@Array.getElem?_eq_none
def ie:=@Option.map_map
def ig:=@Nat.lt_of_succ_lt_succ
def ir:=@List.eraseIdxIfInBounds_toArray
def iu:=@PySem.Obj.isFreed_of_fields
def iy:=@PySem.wpAny_isOneOf_keyiter
def iz:=@PySem.wpAny_mono
def iA:=@PySem.call_meets
def iB:=@Nat.le_of_not_lt
def iC:=@Nat.le_add_right
def iD:=@PySem.Heap.size_update
def iE:=@PySem.wpAny_attempt
def iF:=@Nat.add_assoc
def iG:=@Int.add_assoc
def iH:=@PySem.F.args_object_init_2
def iI:=@PySem.wpAny_of_eq
def iJ:=@PySem.F.slot_list_reversed
def iK:=@Bool.or_eq_false_iff
def iL:=@PySem.wpAny_execs_nil
def iM:=@PySem.typeLookup_type
def iN:=@Bool.or_eq_true
def iO:=@List.filter_map
def iP:=@Int.emod_nonneg
def iQ:=@List.filterMap_cons
def iR:=@List.flatMap_append
def iS:=@List.filter_eq_self
def iT:=@PySem.codeAny_mono
def iU:=@List.map_set
def iV:=@PySem.wpAny_Call_Name_kw
def iW:=@PySem.wpAny_seqItems
def iX:=@PySem.wpAny_fieldsOf
def iY:=@List.find?_map
def iZ:=@List.find?_eq_none
def i6:=@decide_eq_true_iff
def i7:=@List.getElem_idxOf
def i8:=@PySem.wpAny_pyIter_list
def i9:=@PySem.Obj.cls_mapFields
def i_:=@PySem.wpAny_dictEntries
def ja:=@List.find?_isSome
def jb:=@Nat.add_mul
def jc:=@PySem.Paired.length
def jd:=@PySem.wpAny_newList
def je:=@PySem.W.mg_of
def jf:=@List.not_mem_nil
def jh:=@List.zipIdx_cons
def ji:=@List.all_eq_true
def jk:=@List.filter_cons
def jl:=@List.cons_append
def jm:=@List.flatMap_nil
def jn:=@List.countP_cons
def jo:=@decide_eq_decide
def jq:=@List.isEmpty_nil
def jt:=@Nat.le_of_lt
def ju:=@Nat.ne_of_gt
def jv:=@Int.mul_zero
def jw:=@List.map_id'
def jx:=@List.of_mem_zip
def jy:=@Int.le_antisymm
def jz:=@Bool.eq_iff_iff
def jA:=@Nat.min_eq_left
def jB:=@List.find?_some
def jC:=@List.drop_zero
def jD:=@Array.size_zip
def jE:=@List.foldl_map
def jF:=@List.map_id
@[reducible]def af:=PySem.Value
@[reducible]def ah:=PySem.World
@[reducible]def aj:=PySem.Program
@[reducible]def ak:=PySem.Addr
@[reducible]def aq:=PySem.Heap
@[reducible]def au:=PySem.W.Frag
@[reducible]def az:=PySem.Around
@[reducible]def aA:=PySem.Shared
@[reducible]def aC:=PySem.Expr
@[reducible]def aE:=PySem.Stmt
def anI{a b:Prop}(h:a)(k:b):a/\b:=⟨h,k⟩
open Array (size_map)
open List (all_map map_drop map_take)
open Nat (add_comm add_zero lt_trans)
open Option (getD_none isSome_none isSome_some)
namespace L2
open PySem PySem.Spec PyProof.Rows
meta abbrev Key:=Sum Int Str
abbrev CW:Key->af->Bool
 | .inl k,v=>Value.isInt k v
 | .inr x,v=>Value.isStrOf x v
abbrev acm (w:ah):Key->Int
 | .inl k=>hashInt k
 | .inr x=>hashStr w x
def l_:∀{k:Key}{v:af},CW k v=true->(∃i t,k=Sum.inl i/\v=Value.int i t)\/(∃x t,k=Sum.inr x/\v=Value.str x t)
 | .inl i,v,h=>by
  obtain⟨t,e⟩:=Value.isInt_shape (k:=i) (v:=v) h;exact .inl ⟨i,t,rfl,e⟩
 | .inr x,v,h=>by
  obtain⟨t,e⟩:=Value.isStrOf_shape (x:=x) (v:=v) h;exact .inr ⟨x,t,rfl,e⟩
def M_(i:Int)(t:Tok):CW (.inl i) (.int i t)=true:=by simp[CW,Value.isInt]
def MK(x:Str)(t:Tok):CW (.inr x) (.str x t)=true:=by simp[CW,Value.isStrOf]
def Ww(a b:Int):decide ((Sum.inl a:Key)=Sum.inl b)=(a == b):=by
 by_cases e:a=b
 ·subst e;simp
 ·have h:¬(Sum.inl a:Key)=Sum.inl b:=λq=>e<|Sum.inl.inj q;rw[bH h];exact(eG.mpr e).symm
def WV(a b:Str):decide ((Sum.inr a:Key)=Sum.inr b)=decide (a=b):=by
 by_cases e:a=b
 ·subst e;simp
 ·have h:¬(Sum.inr a:Key)=Sum.inr b:=λq=>e<|Sum.inr.inj q;rw[bH h,bH e]
def Zb(a:Int)(b:Str):decide ((Sum.inl a:Key)=Sum.inr b)=false:=bH λq=>nomatch q
def X9(a:Str)(b:Int):decide ((Sum.inr a:Key)=Sum.inl b)=false:=bH λq=>nomatch q
abbrev kN (prog:aj)(w:ah):PySem.KeyKind prog w Key where
 is:=CW
 hash:=acm w
 inj:=λv a b ha hb=>by
  rcases l_ ha with⟨i,t,rfl,rfl⟩|⟨x,t,rfl,rfl⟩
  ·rcases l_ hb with⟨j,u,rfl,e⟩|⟨y,u,rfl,e⟩
   ·injection e with e1 _;rw[e1]
   ·exact nomatch e
  ·rcases l_ hb with⟨j,u,rfl,e⟩|⟨y,u,rfl,e⟩
   ·exact nomatch e
   ·injection e with e1 _;rw[e1]
 byValue:=λk v h=>by
  rcases l_ h with⟨i,t,rfl,rfl⟩|⟨x,t,rfl,rfl⟩<;>rfl
 pyHash:=λhv h=>by
  rcases l_ hv with⟨i,t,rfl,rfl⟩|⟨x,t,rfl,rfl⟩
  ·exact wpAny_pyHash_int h
  ·exact wpAny_pyHash_str h
 eqBool:=λhu hv h=>by
  rcases l_ hu with⟨i,t,rfl,rfl⟩|⟨x,t,rfl,rfl⟩
  ·rcases l_ hv with⟨j,u,rfl,rfl⟩|⟨y,u,rfl,rfl⟩
   ·rw[Ww]at h;exact wpAny_eqBool_int h
   ·rw[Zb]at h;exact SeqAt.EqAt.int_str i t y u _ _ _ _ h
  ·rcases l_ hv with⟨j,u,rfl,rfl⟩|⟨y,u,rfl,rfl⟩
   ·rw[X9]at h;exact SeqAt.EqAt.str_int x t j u _ _ _ _ h
   ·rw[WV]at h;exact wpAny_eqBool_str h
 «strs»:=λk x t v h=>by
  rcases l_ h with⟨i,u,rfl,e⟩|⟨y,u,rfl,e⟩
  ·exact nomatch e
  ·injection e with e1 _
   subst e1
   cases v<;>rfl
def G6(prog:aj)(w:ah)(i:Int)(t:Tok):(kN prog w).is (.inl i) (.int i t)=true:=M_ i t
def Ga(prog:aj)(w:ah)(x:Str)(t:Tok):(kN prog w).is (.inr x) (.str x t)=true:=MK x t
inductive V where
 | non|bl (b:Bool)|int (i:Int)|str (x:Str)|byt (b:Array UInt8)|flt (b:UInt64)|ref (a:ak)|ty (n:String)
 deriving DecidableEq
abbrev RelV:V->af->Prop
 | .non,u=>u=Value.none
 | .bl b,u=>u=Value.bool b
 | .int i,u=>∃t,u=Value.int i t
 | .str x,u=>∃t,u=Value.str x t
 | .byt b,u=>∃t,u=Value.bytes b t
 | .flt b,u=>∃t,u=Value.float b t
 | .ref a,u=>u=Value.ref a
 | .ty n,u=>u=Value.type n
meta abbrev Vals:List V->ba->Prop:=Paired RelV
def Vals.length{xs:List V}{us:ba}(r:Vals xs us):xs.length=us.length:=jc r
theorem Vals.get:∀{xs:List V}{us:ba}{i:Nat}{x:V},Vals xs us->xs[i]?=some x->∃u,us[i]?=some u/\RelV x u
 | _,_,_,_,.nil,e=>by simp at e
 | _,_,0,_,.cons r _,e=>by simp at e;subst e;exact⟨_,rfl,r⟩
 | _,_,i+1,x,.cons _ t,e=>by
  obtain⟨u,h1,h2⟩:=Vals.get (i:=i) (x:=x) t (by simpa using e);exact⟨u,by simpa using h1,h2⟩
theorem Vals.set{x:V}(r:RelV x u):∀{xs:List V}{us:ba}(i:Nat),Vals xs us->Vals (xs.set i x) (us.set i u)
 | _,_,_,.nil=>.nil
 | _,_,0,.cons _ t=>.cons r t
 | _,_,i+1,.cons q t=>.cons q<|Vals.set r i t
theorem Vals.append:∀{xs ys:List V}{us ws:ba},Vals xs us->Vals ys ws->Vals (xs++ys) (us++ws)
 | _,_,_,_,.nil,s=>s
 | _,_,_,_,.cons r t,s=>.cons r<|Vals.append t s
theorem Vals.take:∀{xs:List V}{us:ba}(n:Nat),Vals xs us->Vals (xs.take n) (us.take n)
 | _,_,0,_=>.nil
 | _,_,_+1,.nil=>.nil
 | _,_,n+1,.cons r t=>.cons r<|Vals.take n t
theorem Vals.drop:∀{xs:List V}{us:ba}(n:Nat),Vals xs us->Vals (xs.drop n) (us.drop n)
 | _,_,0,r=>r
 | _,_,_+1,.nil=>.nil
 | _,_,n+1,.cons _ t=>Vals.drop n t
abbrev zx:Option V->bd->Prop
 | some v,some u=>RelV v u
 | none,none=>True
 | _,_=>False
abbrev KV {κ:Type}:List (κ×V)->List (κ×af)->Prop:=Paired λ(p:κ×V) (q:κ×af)=>p.1=q.1/\RelV p.2 q.2
abbrev kV:Key->V
 | .inl i=>.int i
 | .inr x=>.str x
inductive HO where
 | lst (xs:List V)
 | tup (xs:List V)
 | dK (kvs:List<|Key×V)|dT (kvs:List<|List Key×V)
 | set (S:Int->Bool) (n:Nat)
 | ins (C dx:ak) (fs:List<|Str×V)
 | own (x:ak)
 | xd (fs:List<|Str×V)
 | met (f x:ak)
 | rng (lo hi:Int)
 | frz (o:Obj) (u:HO)
 | tbl (ps:Array af)
 | ext (φ:aq->Prop)
meta abbrev Hp:=ak->Option HO
abbrev upd (H:Hp)(a:ak)(o:HO):Hp:=λb=>if b=a then some o else H b
def kZ{H:Hp}{a:ak}:upd H a o a=some o:=by unfold upd;rw[aL rfl]
def jV{H:Hp}{a:ak}(h:b≠a):upd H a o b=H b:=by unfold upd;rw[aJ h]
def ZN{H:Hp}{a:ak}(h:H a=some o)(h':H b=some u)(d:o≠u):a≠b:=by
 intro e;subst e;rw[h]at h';exact d<|bh h'
def j5{H:Hp}{a:ak}(h:H a=some o)(h':H b=none):a≠b:=by
 intro e;subst e;rw[h]at h';cases h'
abbrev pN (h:aq)(a:ak)(items:Array af):Prop:=∃o,h.get? a=some o/\o.cls=.type "tuple" /\ o.dict=none/\∃n,o.data=.seq items n
def pN.tup{a:ak}:pN h a items->IsTup h a items:=λ⟨o,e,c,_,n,d⟩=>⟨o,e,c,n,d⟩
def pN.new(h:aq)(items:Array af):pN (h.push { cls:=.type "tuple",data:=.seq items }) h.objs.size items:=⟨_,bq _ rfl,rfl,rfl,_,rfl⟩
def pN.lt{h:aq}{a:ak}(x:pN h a items):a<h.objs.size:=let⟨_,ho,_⟩:=x;a_ ho
section
variable (P:aj) (w:ah)
abbrev mj (H:Hp)(h:aq)(a:ak):HO->Prop
 | .lst xs=>xs.length<=sizeLine/\∃(its:ba) (n:Nat),Vals xs its/\h.get? a=some { cls:=.type "list",data:=.seq its.toArray n }
 | .tup xs=>xs.length<=sizeLine/\∃its:ba,Vals xs its/\pN h a its.toArray
 | .dK kvs=>kvs.length<=sizeLine/\(a == sysModules)=false/\∃vs,KV kvs vs/\h.DictOf (kN P w) a vs
 | .dT kvs=>kvs.length<=sizeLine/\(a == sysModules)=false/\∃xs:List<|List Key×ak×af,
   Paired (λ(p:List Key×V) (q:List Key×ak×af)=>p.1=q.1/\H q.2.1=some (.tup<|p.1.map kV)/\RelV p.2 q.2.2) kvs xs /\
   ∃o es ep,h.get? a=some o/\o.ExactDict/\o.data=.dict es ep/\es.toList=xs.map (entryOfKey<|tupleKind<|kN P w)/\(xs.map (·.1)).Nodup
 | .set S n=>h.SetOf (intKind P w) a S n
 | .ins C dx fs=>H dx=some (.own a)/\fs.length<=1000/\dx≠a/\h.get? a=some (PySem.W.instObj C dx) /\
   ∃mA,h.Ns1 dx mA/\(∀f,zx (fs.lookup f)<|mA f)/\PySem.Within mA (fs.map (·.1))
 | .own _=>∃o,h.get? a=some o
 | .xd fs=>∃mA,h.Ns1 a mA/\∀f,zx (fs.lookup f) (mA f)
 | .rng lo hi=>∃t u v,h.get? a=some { cls:=.type "range",data:=.fields #[.int lo t,.int hi u,.int 1 v]}
 | .frz o u=>h.get? a=some o/\mj H h a u
 | .tbl ps=>h.get? a=some { cls:=.none,data:=.fields ps }
 | .met f x=>h.get? a=some (PySem.W.methodObj (.ref f)<|.ref x)
 | .ext φ=>φ h/\(∃o,h.get? a=some o)/\∀h1 h2:aq,φ h1->(∀o,h1.get? a=some o->h2.get? a=some o)->φ h2
abbrev xK (H:Hp)(h:aq):Prop:=∀a o,H a=some o->mj P w H h a o
end
section
variable {P:aj}{w:ah}{H H':Hp}{h h':aq}{a:ak}{o:HO}
def mj.lt(x:mj P w H h a o):a<h.objs.size:=by
 cases o with
 | lst xs=>obtain⟨_,_,_,_,e⟩:=x;exact a_ e
 | tup xs=>obtain⟨_,_,_,p⟩:=x;exact pN.lt p
 | dK kvs=>obtain⟨_,_,_,_,o,_,_,e,_⟩:=x;exact a_ e
 | dT kvs=>obtain⟨_,_,_,_,o,_,_,e,_⟩:=x;exact a_ e
 | set S n=>obtain⟨o,_,_,_,e,_⟩:=x;exact a_ e
 | ins C dx fs=>obtain⟨_,_,_,e,_⟩:=x;exact a_ e
 | own y=>obtain⟨_,e⟩:=x;exact a_ e
 | xd fs=>obtain⟨_,⟨_,_,_,e,_⟩,_⟩:=x;exact a_ e
 | rng lo hi=>obtain⟨_,_,_,e⟩:=x;exact a_ e
 | frz ob u=>obtain⟨e,_⟩:=x;exact a_ e
 | tbl ps=>exact a_ (show h.get? a=some _ from x)
 | met f y=>exact a_ (show h.get? a=some _ from x)
 | ext φ=>obtain⟨_,⟨_,e⟩,_⟩:=x;exact a_ e
theorem Paired.YF{α β:Type}{F G:α->β->Prop}:∀{l₁:List α}{l₂:List β},Paired F l₁ l₂->(∀a b,F a b->G a b)->Paired G l₁ l₂
 | _,_,.nil,_=>.nil
 | _,_,.cons r t,f=>.cons (f _ _ r)<|Paired.YF t f
def mj.stay(x:mj P w H h a o)(k:∀b u,(b=a\/H b=some (.own a))->h.get? b=some u->h'.get? b=some u)
  (ho:∀b,H b=some (.own a)->H' b=some (.own a)) (ht:∀b xs,H b=some (.tup xs)->H' b=some (.tup xs)):mj P w H' h' a o:=by
 induction o with
 | lst xs=>obtain⟨z,its,n,r,e⟩:=x;exact⟨z,its,n,r,k _ _ (.inl rfl) e⟩
 | tup xs=>obtain⟨z,its,r,ob,e,c⟩:=x;exact⟨z,its,r,ob,k _ _ (.inl rfl) e,c⟩
 | dK kvs=>obtain⟨z,y,vs,r,ob,es,ep,e,c⟩:=x;exact⟨z,y,vs,r,ob,es,ep,k _ _ (.inl rfl) e,c⟩
 | dT kvs=>
  obtain⟨z,y,xs,r,ob,es,ep,e,c⟩:=x;exact⟨z,y,xs,Paired.YF r λp q z=>⟨z.1,ht _ _ z.2.1,z.2.2⟩,ob,es,ep,k _ _ (.inl rfl) e,c⟩
 | set S n=>obtain⟨ob,es,ep,t,e,c⟩:=x;exact⟨ob,es,ep,t,k _ _ (.inl rfl) e,c⟩
 | ins C dx fs=>
  obtain⟨d,z,ne,e,mA,⟨od,es,ep,e2,c⟩,r⟩:=x;exact⟨ho _ d,z,ne,k _ _ (.inl rfl) e,mA,⟨od,es,ep,k _ _ (.inr d) e2,c⟩,r⟩
 | own y=>obtain⟨ob,e⟩:=x;exact⟨ob,k _ _ (.inl rfl) e⟩
 | xd fs=>obtain⟨mA,⟨od,es,ep,e,c⟩,r⟩:=x;exact⟨mA,⟨od,es,ep,k _ _ (.inl rfl) e,c⟩,r⟩
 | rng lo hi=>obtain⟨t,u,v,e⟩:=x;exact⟨t,u,v,k _ _ (.inl rfl) e⟩
 | frz ob u ih=>obtain⟨e,q⟩:=x;exact⟨k _ _ (.inl rfl) e,ih q⟩
 | tbl ps=>
  have e:h.get? a=some { cls:=.none,data:=.fields ps }:=x
  skip
  exact k a _ (.inl rfl) e
 | met f y=>
  have e:h.get? a=some (PySem.W.methodObj (.ref f)<|.ref y):=x
  skip
  exact k a _ (.inl rfl) e
 | ext φ=>obtain⟨p,⟨o,e⟩,st⟩:=x;exact⟨st _ _ p λo q=>k _ _ (.inl rfl) q,⟨o,k _ _ (.inl rfl) e⟩,st⟩
def xK.lt(x:xK P w H h)(e:H a=some o):a<h.objs.size:=(x a o e).lt
def xK.fresh(x:xK P w H h)(e:h.objs.size<=a):H a=none:=by
 cases q:H a with
 | none=>rfl
 | some u=>exact absurd (bL (x.lt q) e)<|fY _
def xK.kept(x:xK P w H h)(k:∀b u,h.get? b=some u->h'.get? b=some u):xK P w H h':=λa o e=>
 (x a o e).stay (λb u _ q=>k b u q) (λ_ q=>q) λ_ _ q=>q
def xK.laid(x:xK P w H h)(k:∀b u,h.get? b=some u->h'.get? b=some u)(hp:h.objs.size<=a)(new:mj P w (upd H a o) h' a o):xK P w (upd H a o) h':=λb u e=>by
 have hn:=x.fresh hp;by_cases hb:b=a
 ·subst hb;rw[kZ]at e;cases e;exact new
 ·rw[jV hb]at e;exact(x b u e).stay (λc v _ q=>k c v q) (λc q=>by rw[jV<|j5 q hn];exact q) λc xs q=>by rw[jV<|j5 q hn];exact q
end
abbrev Rd (H:Hp)(a:ak)(u:HO):Prop:=H a=some u\/∃o,H a=some (.frz o u)
def Rd.ok{P:aj}{w:ah}{H:Hp}{a:ak}(r:Rd H a u)(x:xK P w H h):mj P w H h a u:=by
 rcases r with r|⟨o,r⟩
 ·exact x a u r
 ·obtain⟨_,q⟩:=x a _ r;exact q
abbrev Mut:Option HO->Prop
 | some (.lst _)=>True
 | some (.dK _)=>True
 | some (.dT _)=>True
 | some (.set _ _)=>True
 | some (.ins _ _ _)=>True
 | some (.ext _)=>True
 | _=>False
section
variable {P:aj}{w:ah}{H:Hp}{h h':aq}{x e:ak}{o':HO}
def xK.write(ok:xK P w H h)(mu:Mut<|H x)(he:e=x\/H e=some (.own x))(k:∀b u,b≠e->h.get? b=some u->h'.get? b=some u)(heo:∃u,h'.get? e=some u)
  (new:mj P w (upd H x o') h' x o'):xK P w (upd H x o') h':=λb u q=>by
 have nown:∀c y,H c=some (.own y)->c≠x:=λc y r z=>by subst z;rw[r]at mu;exact mu
 have ntup:∀c xs,H c=some (.tup xs)->c≠x:=λc xs r z=>by subst z;rw[r]at mu;exact mu
 by_cases hb:b=x
 ·subst hb;rw[kZ]at q;cases q;exact new
 ·rw[jV hb]at q;by_cases hbe:b=e
  ·have q':H b=some (.own x):=by
    rcases he with z|z
    ·exact absurd (hbe.trans z) hb
    ·rw[hbe];exact z
   rw[q]at q';cases q';obtain⟨v,hv⟩:=heo;exact⟨v,by rw[hbe];exact hv⟩
  ·refine(ok b u q).stay (λc v hc r=>k c v ?_ r) (λc r=>by rw[jV<|nown c b r];exact r) λc xs r=>by rw[jV<|ntup c xs r];exact r
   rcases hc with rfl|hc
   ·exact hbe
   ·rintro rfl
    rcases he with z|z
    ·exact nown c b hc z
    ·rw[hc]at z;cases z;exact hb rfl
end
structure Un (fs ex:bb)(H H':Hp)(h h':aq):Prop where
 keep:∀b o,h.get? b=some o->H b=none->b∉fs->b∉ex->h'.get? b=some o
 slot:∀b o,h.get? b=some o->H b=none->b∈fs->b∉ex->∃sl,h'.get? b=some { o with slots:=sl }
 free:∀b o,h.get? b=some o->H b=none->b∉ex->H' b=none
 there:∀b o,h.get? b=some o->b∉ex->∃o',h'.get? b=some o'
 tups:∀b xs,H b=some (.tup xs)->H' b=some (.tup xs)
 frzs:∀b o u,H b=some (.frz o u)->H' b=some (.frz o u)
 tbls:∀b ps,H b=some (.tbl ps)->∃more,H' b=some (.tbl<|ps++more)
section
variable {fs ex:bb}{H H1:Hp}{h h1 h':aq}{a x e:ak}{o:HO}
def Un.any(u:Un fs ex H H1 h h1){ob:Obj}(q:h.get? b=some ob)(n:H b=none)(hx:b∉ex):∃sl,h1.get? b=some { ob with slots:=sl }:=by
 by_cases hb:b∈fs
 ·exact u.slot b ob q n hb hx
 ·exact⟨ob.slots,u.keep b ob q n hb hx⟩
def Un.kept(k:∀b u,h.get? b=some u->h'.get? b=some u):Un fs ex H H h h':=
 ⟨λb ob q _ _ _=>k b ob q,λb ob q _ _ _=>⟨ob.slots,k b ob q⟩,λ_ _ _ n _=>n,λb ob q _=>⟨ob,k b ob q⟩,λ_ _ q=>q,λ_ _ _ q=>q,λ_ ps q=>⟨#[],by rw[q];simp⟩⟩
def Un.refl:Un fs ex H H h h:=Un.kept λ_ _ q=>q
def Un.laid(k:∀b u,h.get? b=some u->h'.get? b=some u)(hp:h.objs.size<=a)(hn:H a=none):Un fs ex H (upd H a o) h h' where
 keep:=λb u q _ _ _=>k b u q
 slot:=λb u q _ _ _=>⟨u.slots,k b u q⟩
 free:=λb u q n _=>by rw[jV<|bC<|bL (a_ q) hp];exact n
 there:=λb u q _=>⟨u,k b u q⟩
 tups:=λb xs q=>by rw[jV<|j5 q hn];exact q
 frzs:=λb u xs q=>by rw[jV<|j5 q hn];exact q
 tbls:=λb ps q=>⟨#[],by rw[jV<|j5 q hn,q];simp⟩
def Un.write(mu:Mut<|H x)(he:e=x\/H e=some (.own x))(k:∀b u,b≠e->h.get? b=some u->h'.get? b=some u)(heo:∃u,h'.get? e=some u):Un fs ex H (upd H x o) h h':=by
 have hx:∀b,H b=none->b≠x:=λb n z=>by subst z;rw[n]at mu;exact mu
 have hb:∀b,H b=none->b≠e:=λb n z=>by
  subst z
  rcases he with r|r
  ·exact hx b n r
  ·rw[n]at r;cases r
 have hm:∀b u,H b=some u->¬Mut (some u)->b≠x:=λb u q nm z=>by subst z;rw[q]at mu;exact nm mu
 refine⟨λb u q n _ _=>k b u (hb b n) q,λb u q n _ _=>⟨u.slots,k b u (hb b n) q⟩,λb u q n _=>by rw[jV<|hx b n];exact n,λb u q _=>?_,
  λb xs q=>by rw[jV<|hm b _ q λz=>z];exact q,λb u xs q=>by rw[jV<|hm b _ q λz=>z];exact q,λb ps q=>⟨#[],by rw[jV<|hm b _ q λz=>z,q];simp⟩⟩
 by_cases hbe:b=e
 ·subst hbe;exact heo
 ·exact⟨u,k b u hbe q⟩
end
abbrev trk (h:aq)(H:Hp):bb:=(List.range h.objs.size).filter λa=>(H a).isSome
abbrev Et (h:aq)(H:Hp):aq:=PySem.W.hideAll h<|trk h H
def MR(h:aq)(H:Hp):(Et h H).objs.size=h.objs.size:=PySem.W.hideAll_size _ _
def Rl{h:aq}{H:Hp}(e:h.get? b=some o)(n:H b=none):(Et h H).get? b=some o:=
 PySem.W.hideAll_get _ e λhm=>by
  have q:(H b).isSome=true:=(b_.mp hm).2;rw[n]at q;simp at q
def T5{h:aq}{H:Hp}(e:(Et h H).get? b=some o):h.get? b=some o/\H b=none:=by
 have e':h.get? b=some o:=PySem.W.of_hideAll (trk h H) e;refine⟨e',?_⟩
 cases q:H b with
 | none=>rfl
 | some x=>
  have hm:b∈trk h H:=b_.mpr ⟨dD.mpr<|a_ e',by simp[q]⟩;have z:(Et h H).get? b=none:=PySem.W.hideAll_none (trk h H) hm;rw[z]at e;cases e
abbrev SV (g h:aq)(L:ak):bo:=(List.range h.objs.size).filterMap λa=>if a=L\/(g.get? a).isSome=true then none else(h.get? a).map λo=>(a,o)
abbrev rest (g h:aq)(L d:ak):bo:=(SV g h L).filter λp=>decide<|p.1≠d
structure Mod (K:au)(mg:Str->bd)(base:aq):Prop where
 kin:K.In base
 glob:base.Ns mainGlobals mg
 blt:∃mb,base.Ns builtinsNs mb/\∀x:Str,x ≠ "__name__" -> mb x=bootBuiltins x
 nolimit:base.NoLimit
structure Cx where
 prog:aj
 w:ah
 K:au
 mg:Str->bd
 base:aq
 A:az
 N:ar
 s₀:aA
 H₀:Hp
 env:Env
 outer:List Env
 stack:List Env
 ex:bb
 fn:Str->Bool
 calm:Bool
 pn:bo
 xe:af->aA->Prop
abbrev frs (l:List Env):bb:=l.filterMap (·.frame)
meta abbrev Cx.fs (X:Cx):bb:=frs X.outer
abbrev ZT (sc:Scope)(x:Str):Prop:=sc.names.lookup x=some .local\/sc.names.lookup x=some .cell\/sc.names.lookup x=some .free
abbrev Loc (sc:Scope)(x:Str):Prop:=sc.names.lookup x=some .local\/sc.names.lookup x=some .cell
abbrev Look (env:Env)(h:aq)(m:Str->bd)(x:Str)(u:af):Prop:=
 (env.kindOf x=some .local/\m x=some u)\/((env.kindOf x=some .cell\/env.kindOf x=some .free)/\∃c,env.cells.lookup x=some c/\h.IsCell c (some u))
structure Cx.Ok (X:Cx):Prop where
 mod:Mod X.K X.mg X.base
 kind:X.env.scope.kind=.function
 glob:X.env.globals=mainGlobals
 blt:X.env.builtins=builtinsNs
 above:X.s₀.heap.objs.size<=X.env.locals
 inj:∀x y c,X.env.cells.lookup x=some c->X.env.cells.lookup y=some c->x=y
 has:∀x,(X.env.kindOf x=some .cell\/X.env.kindOf x=some .free)->∃c,X.env.cells.lookup x=some c
 cab:∀x c,X.fn x=true->X.env.cells.lookup x=some c->X.s₀.heap.objs.size<=c
 hd:X.calm=true->X.A.handled=none
 frames:X.A.frames=some X.stack
 stk:X.stack=X.outer\/(X.stack=X.env::X.outer/\X.env.frame=some X.env.locals)
 exf:∀b∈X.ex,b≠X.env.locals/\∀x c,X.env.cells.lookup x=some c->c≠b
 bs:∀b o,X.base.get? b=some o->X.s₀.heap.get? b=some o/\X.H₀ b=none
 bsz:X.base.objs.size<=X.s₀.heap.objs.size
 noex:∀b o,X.base.get? b=some o->b∉X.ex
 exfs:∀b∈X.ex,b∉X.fs
 Bc:X.s₀.heap.FunFrames X.base X.outer
 frf:∀b∈X.fs,X.H₀ b=none
structure Inv (X:Cx)(pins:bo)(σ:List (Option V))(H:Hp)(s:aA):Prop where
 ok:X.Ok
 os:s.os=X.s₀.os
 bare:AllBare s.gens
 base:Un X.fs X.ex X.H₀ H X.s₀.heap s.heap
 loc:∃m,s.heap.Ns X.env.locals m/\∀(i:Nat) (x:Str) (v:V),X.N[i]?=some x->σ[i]?=some (some v)->ZT X.env.scope x->∃u,RelV v u/\Look X.env s.heap m x u
 cell:∀x c,X.env.cells.lookup x=some c->∃v,s.heap.IsCell c v
 free:H X.env.locals=none
 freeC:∀x c,X.env.cells.lookup x=some c->H c=none
 pin:∀p∈X.pn++pins,s.heap.get? p.1=some p.2/\H p.1=none/\p.1≠X.env.locals/\p.1∉X.fs/\∀v,p.2.data≠.cell v
 hok:xK X.prog X.w H s.heap
 len:σ.length=X.N.length
section
variable {X:Cx}{pins:bo}{σ:List (Option V)}{H H':Hp}{s:aA}{h':aq}
def Cx.Ok.acg(ok:X.Ok)(e:X.base.get? b=some o):b∉X.fs:=λhb=>by
 have:=(ok.Bc.mem hb).1;rw[e]at this;cases this
def Inv.bs(I:Inv X pins σ H s):∀b o,X.base.get? b=some o->s.heap.get? b=some o/\H b=none:=λb o e=>
 ⟨I.base.keep b o (I.ok.bs b o e).1 (I.ok.bs b o e).2 (I.ok.acg e)<|I.ok.noex b o e,I.base.free b o (I.ok.bs b o e).1 (I.ok.bs b o e).2<|I.ok.noex b o e⟩
def Inv.bk(I:Inv X pins σ H s):∀b o,X.base.get? b=some o->s.heap.get? b=some o:=λb o e=>(I.bs b o e).1
def Inv.mod(I:Inv X pins σ H s):Mod X.K X.mg X.base:=I.ok.mod
def Inv.Fj(I:Inv X pins σ H s):X.K.In s.heap:=I.ok.mod.kin.keeps I.bk
def Inv.lt(I:Inv X pins σ H s):X.env.locals<s.heap.objs.size:=let⟨_,hn,_⟩:=I.loc;hn.lt
def Inv.sz(I:Inv X pins σ H s):X.s₀.heap.objs.size<=s.heap.objs.size:=bB I.ok.above<|jt I.lt
def Inv.acw(I:Inv X pins σ H s){a:ak}(h:s.heap.objs.size<=a):a∉X.fs:=λhb=>by
 obtain⟨_,o,ho,_⟩:=I.ok.Bc.mem hb;exact absurd (bL (a_ ho)<|bB I.sz h)<|fY _
def Inv.XR(I:Inv X pins σ H s):∀x c,X.env.cells.lookup x=some c->c≠X.env.locals:=λx c e z=>by
 obtain⟨v,o,ho,hd⟩:=I.cell x c e;obtain⟨m,⟨o',es,ep,ho',hd',_⟩,_⟩:=I.loc;rw[z,ho']at ho;cases ho;rw[hd']at hd;cases hd
def Inv.Bc(I:Inv X pins σ H s):s.heap.FunFrames X.base X.outer:=by
 have all:∀(l:List Env),(∀b∈frs l,b∈X.fs)->X.s₀.heap.FunFrames X.base l->s.heap.FunFrames X.base l:=by
  intro l
  induction l with
  | nil=>intro _ _;trivial
  | cons env r ih=>
   intro hs hl;obtain⟨hk,⟨L,o,hf,hn,ho,hd⟩,hr⟩:=hl;have hL:L∈X.fs:=hs L (by unfold frs;rw[iQ,hf];exact aM);obtain⟨sl,e⟩:=I.base.slot L o ho (I.ok.frf L hL) hL λz=>I.ok.exfs L z hL;exact⟨hk,⟨L,_,hf,hn,e,hd⟩,ih (λb hb=>hs b<|by unfold frs;rw[iQ,hf];exact aN _ hb) hr⟩
 exact all X.outer (λ_ hb=>hb) I.ok.Bc
def Inv.stack(I:Inv X pins σ H s):s.heap.FunFrames X.base X.stack:=by
 rcases I.ok.stk with e|⟨e,hf⟩
 ·rw[e];exact I.Bc
 ·rw[e];obtain⟨m,hn,_⟩:=I.loc;refine .cons (by rw[I.ok.kind];decide) hf hn ?_ I.Bc;exact Heap.get?_none_of_le<|bB I.ok.bsz I.ok.above
def Inv.HP(I:Inv X pins σ H s):∀b∈frs X.stack,b∈X.env.locals::X.fs:=λb hb=>by
 rcases I.ok.stk with e|⟨e,hf⟩
 ·rw[e]at hb;exact aN _ hb
 ·rw[e]at hb;unfold frs at hb;rw[iQ,hf]at hb;exact hb
def Inv.LS(I:Inv X pins σ H s):∀b∈frs X.stack,H b=none:=λb hb=>by
 rcases bu.mp (I.HP b hb)with e|hb
 ·rw[e];exact I.free
 ·obtain⟨_,o,ho,_⟩:=I.ok.Bc.mem hb;exact I.base.free b o ho (I.ok.frf b hb) λz=>I.ok.exfs b z hb
def Inv.step{g':Array GenState}{t':Nat}{d':Drawn}{ch:bb}(I:Inv X pins σ H s)
  (hch:∀b∈ch,(b∈X.ex\/X.s₀.heap.objs.size<=b)/\b≠X.env.locals/\(∀x c,X.env.cells.lookup x=some c->c≠b)/\∀p∈X.pn++pins,p.1≠b)
  (keep:∀b o,b≠X.env.locals->b∉X.fs->b∉ch->s.heap.get? b=some o->H b=none->h'.get? b=some o)
  (slot:∀b o,b≠X.env.locals->b∈X.fs->b∉ch->s.heap.get? b=some o->H b=none->∃sl,h'.get? b=some { o with slots:=sl }) (free:∀b o,b∉ch->s.heap.get? b=some o->H b=none->H' b=none)
  (there:∀b o,b∉ch->s.heap.get? b=some o->∃o',h'.get? b=some o')
  (tups:∀b xs,H b=some (.tup xs)->H' b=some (.tup xs)) (frzs:∀b o u,H b=some (.frz o u)->H' b=some (.frz o u)) (tbls:∀b ps,H b=some (.tbl ps)->∃more,H' b=some (.tbl<|ps++more))
  (ns:∀m,s.heap.Ns X.env.locals m->h'.Ns X.env.locals m) (hok:xK X.prog X.w H' h') (hg:AllBare g') :
  Inv X pins σ H' { s with heap:=h',gens:=g',drawn:=d',toks:=t' }:=by
 have neL:∀b o,X.s₀.heap.get? b=some o->b≠X.env.locals:=λb o e=>bC<|bL (a_ e) I.ok.above;have neC:∀b o,X.s₀.heap.get? b=some o->b∉X.ex->b∉ch:=λb o e hx hb=>by
  rcases(hch b hb).1 with z|z
  ·exact hx z
  ·exact absurd (bL (a_ e) z)<|fY _
 have cellK:∀x c,X.env.cells.lookup x=some c->∀v,s.heap.IsCell c v->h'.IsCell c v:=λx c e v ⟨o,ho,hd⟩=>by
  have nch:c∉ch:=λz=>(hch c z).2.2.1 x c e rfl;by_cases hc:c∈X.fs
  ·obtain⟨sl,q⟩:=slot c o (I.XR x c e) hc nch ho<|I.freeC x c e;exact⟨_,q,hd⟩
  ·exact⟨o,keep c o (I.XR x c e) hc nch ho<|I.freeC x c e,hd⟩
 refine⟨I.ok,I.os,hg,⟨λb o e n hb hx=>?_,λb o e n hb hx=>?_,λb o e n hx=>?_,λb o e hx=>?_,λb xs e=>tups b xs<|I.base.tups b xs e,λb o xs e=>frzs b o xs<|I.base.frzs b o xs e,λb ps e=>?_⟩,?_,λx c e=>?_,?_,λx c e=>?_,λp hp=>?_,hok,I.len⟩
 ·exact keep b o (neL b o e) hb (neC b o e hx) (I.base.keep b o e n hb hx) (I.base.free b o e n hx)
 ·obtain⟨sl,e1⟩:=I.base.slot b o e n hb hx;obtain⟨sl',e2⟩:=slot b _ (neL b o e) hb (neC b o e hx) e1<|I.base.free b o e n hx;exact⟨sl',e2⟩
 ·obtain⟨o',e1⟩:=I.base.there b o e hx;exact free b o' (neC b o e hx) e1 (I.base.free b o e n hx)
 ·obtain⟨o',e1⟩:=I.base.there b o e hx;exact there b o' (neC b o e hx) e1
 ·obtain⟨m1,e1⟩:=I.base.tbls b ps e;obtain⟨m2,e2⟩:=tbls b _ e1;exact⟨m1++m2,by rw[e2,Array.append_assoc]⟩
 ·obtain⟨m,hn,hl⟩:=I.loc;refine⟨m,ns m hn,λi x v e1 e2 e3=>?_⟩;obtain⟨u,r,l⟩:=hl i x v e1 e2 e3;refine⟨u,r,?_⟩
  rcases l with l|⟨k,c,e,z⟩
  ·exact .inl l
  ·exact .inr ⟨k,c,e,cellK x c e _ z⟩
 ·obtain⟨v,z⟩:=I.cell x c e;exact⟨v,cellK x c e v z⟩
 ·obtain⟨m,⟨o,_,_,ho,_⟩,_⟩:=I.loc;exact free _ o (λz=>(hch _ z).2.1 rfl) ho I.free
 ·obtain⟨v,o,ho,hd⟩:=I.cell x c e;exact free c o (λz=>(hch c z).2.2.1 x c e rfl) ho (I.freeC x c e)
 ·obtain⟨e,n,ne,nf,d⟩:=I.pin p hp;have nch:p.1∉ch:=λz=>(hch p.1 z).2.2.2 p hp rfl;exact⟨keep p.1 p.2 ne nf nch e n,free p.1 p.2 nch e n,ne,nf,d⟩
def Inv.un{t':Nat}(I:Inv X pins σ H s)(u:Un X.fs [] H H' s.heap h')(hok:xK X.prog X.w H' h'):Inv X pins σ H' { s with heap:=h',toks:=t' }:=by
 obtain⟨m,⟨o,es,ep,ho,r⟩,_⟩:=id I.loc;obtain⟨sl,hL⟩:=u.any ho I.free (by simp);exact I.step (g':=s.gens) (d':=s.drawn) (ch:=[]) (nofun) (λb o _ hb _ e n=>u.keep b o e n hb<|by simp) (λb o _ hb _ e n=>u.slot b o e n hb<|by simp) (λb o _ e n=>u.free b o e n<|by simp) (λb o _ e=>u.there b o e<|by simp) u.tups u.frzs u.tbls (λm' hm=>by
  obtain⟨o',es',ep',ho',r'⟩:=hm;rw[ho]at ho';cases ho';exact⟨_,es',ep',hL,r'⟩) hok I.bare
def Inv.call{g':Array GenState}{t':Nat}{d':Drawn}{ch:bb}(I:Inv X pins σ H s)(u:Un (frs X.stack) ch H H' s.heap h')(hok:xK X.prog X.w H' h')(hg:AllBare g')
  (hch:∀b∈ch,(b∈X.ex\/X.s₀.heap.objs.size<=b)/\b≠X.env.locals/\(∀x c,X.env.cells.lookup x=some c->c≠b)/\∀p∈X.pn++pins,p.1≠b) :
  Inv X pins σ H' { s with heap:=h',gens:=g',drawn:=d',toks:=t' }:=by
 obtain⟨m,⟨o,es,ep,ho,r⟩,_⟩:=id I.loc;obtain⟨sl,hL⟩:=u.any ho I.free λz=>(hch _ z).2.1 rfl;exact I.step (ch:=ch) hch (λb o hL hb hc e n=>u.keep b o e n (λz=>(bu.mp<|I.HP b z).elim hL hb) hc) (λb o _ _ hc e n=>u.any e n hc) (λb o hc e n=>u.free b o e n hc) (λb o hc e=>u.there b o e hc) u.tups u.frzs u.tbls (λm' hm=>by
  obtain⟨o',es',ep',ho',r'⟩:=hm;rw[ho]at ho';cases ho';exact⟨_,es',ep',hL,r'⟩) hok hg
def Inv.turned{t':Nat}{it:ak}(I:Inv X pins σ H s)(k:∀b o,b≠it->s.heap.get? b=some o->h'.get? b=some o)(hn:H it=none)(hL:it≠X.env.locals)
  (h1:it∈X.ex\/X.s₀.heap.objs.size<=it) (h2:∀x c,X.env.cells.lookup x=some c->c≠it) (h3:∀p∈X.pn++pins,p.1≠it):Inv X pins σ H { s with heap:=h',toks:=t' }:=by
 have nit:∀b u,H b=some u->b≠it:=λb u e z=>by rw[z,hn]at e;cases e
 refine I.step (g':=s.gens) (d':=s.drawn) (ch:=[it]) (λb hb=>?_) (λb o _ _ hc e _=>k b o (λz=>hc<|by simp[z]) e) (λb o _ _ hc e _=>⟨o.slots,k b o (λz=>hc<|by simp[z]) e⟩) (λ_ _ _ _ n=>n)
  (λb o hc e=>⟨o,k b o (λz=>hc<|by simp[z]) e⟩) (λ_ _ e=>e) (λ_ _ _ e=>e) (λb ps e=>⟨#[],by rw[e];simp⟩) (λm hm=>?_) (λb u e=>?_) I.bare
 ·have e:b=it:=by simpa using hb
  subst e;exact⟨h1,hL,h2,h3⟩
 ·obtain⟨o,es,ep,ho,r⟩:=hm;exact⟨o,es,ep,k _ o (cO hL) ho,r⟩
 ·refine(I.hok b u e).stay (λc v hc q=>k c v ?_ q) (λ_ q=>q) λ_ _ q=>q
  rcases hc with z|z
  ·rw[z];exact nit b u e
  ·exact nit c _ z
def Inv.tok(I:Inv X pins σ H s)(t:Nat):Inv X pins σ H { s with toks:=t }:=I.un (h':=s.heap) (t':=t) Un.refl I.hok
def Inv.kept{t':Nat}(I:Inv X pins σ H s)(k:∀b u,s.heap.get? b=some u->h'.get? b=some u):Inv X pins σ H { s with heap:=h',toks:=t' }:=I.un (Un.kept k)<|I.hok.kept k
def Inv.laid{a:ak}{t':Nat}(I:Inv X pins σ H s)(k:∀b u,s.heap.get? b=some u->h'.get? b=some u)(hp:s.heap.objs.size<=a)(new:mj X.prog X.w (upd H a o) h' a o) :
  Inv X pins σ (upd H a o) { s with heap:=h',toks:=t' }:=I.un (Un.laid k hp<|I.hok.fresh hp)<|I.hok.laid k hp new
def Inv.write{x e:ak}{t':Nat}(I:Inv X pins σ H s)(mu:Mut<|H x)(he:e=x\/H e=some (.own x))(k:∀b u,b≠e->s.heap.get? b=some u->h'.get? b=some u)(heo:∃u,h'.get? e=some u)
  (new:mj X.prog X.w (upd H x o) h' x o):Inv X pins σ (upd H x o) { s with heap:=h',toks:=t' }:=I.un (Un.write mu he k heo)<|I.hok.write mu he k heo new
def Inv.LD{pins':bo}(I:Inv X pins σ H s)(h:∀p∈pins',s.heap.get? p.1=some p.2/\H p.1=none/\p.1≠X.env.locals/\p.1∉X.fs/\∀v,p.2.data≠.cell v):Inv X pins' σ H s:=
 ⟨I.ok,I.os,I.bare,I.base,I.loc,I.cell,I.free,I.freeC,λp hp=>(bE.mp hp).elim (λz=>I.pin p<|ff _ z)<|h p,I.hok,I.len⟩
def Hj{N:ar}(hN:N.Nodup){i j:Nat}{x:Str}(a:N[i]?=some x)(b:N[j]?=some x):i=j:=by
 obtain⟨h1,e1⟩:=aK.mp a;obtain⟨h2,e2⟩:=aK.mp b;exact(dJ hN).mp (e1.trans e2.symm)
def M8{A:az}{E:af->aA->Prop}{i:Nat}{x:Str}{v:V}{Q:Unit->aA->Prop}(I:Inv X pins σ H s)(hN:X.N.Nodup)(hi:X.N[i]?=some x)(hx:Loc X.env.scope x)(r:RelV v u)
  (h:∀s',Inv X pins (σ.set i<|some v) H s'->(∃a,Heap.SameBut a s.heap s'.heap/\(a=X.env.locals\/X.env.cells.lookup x=some a))->Q Unit.unit s') (hf:X.fn x=true\/X.env.scope.names.lookup x=some .local:=by first|exact .inl rfl|exact .inr rfl|assumption):wpAny M A (storeName X.env x u) Q E s:=by
 obtain⟨m,hn,hl⟩:=id I.loc;have hcls:(X.env.scope.kind == .class || (X.env.scope.kind == .module && X.env.locals != X.env.globals))=false:=by rw[I.ok.kind];rfl
 have hiσ:i<σ.length:=by rw[I.len];exact(aK.mp hi).1
 have XR:=I.XR;have tracked:∀{a:ak} {h':aq},(∃o,s.heap.get? a=some o/\H a=none)->Heap.SameBut a s.heap h'->xK X.prog X.w H h':=λ{a h'} ha hs b ob e=>by
  obtain⟨_,_,hfree⟩:=ha;refine(I.hok b ob e).stay (λc w' hc q=>(hs.2 c ?_).trans q) (λ_ q=>q) λ_ _ q=>q;rintro rfl
  rcases hc with rfl|hc
  ·rw[hfree]at e;cases e
  ·rw[hfree]at hc;cases hc
 rcases hx with hk|hk
 ·refine wpAny_storeName_local hk hn (λh' hn' hs=>?_) hcls;obtain⟨oL,_,_,hoL,_⟩:=id hn;refine h _ ⟨I.ok,I.os,I.bare,⟨λb o e n hb hx=>?_,λb o e n hb hx=>?_,I.base.free,λb o e hx=>?_,I.base.tups,I.base.frzs,I.base.tbls⟩,⟨_,hn',λj y v' e1 e2 e3=>?_⟩,λy c e=>?_,I.free,I.freeC,λp hp=>?_,tracked ⟨oL,hoL,I.free⟩ hs,by simpa using I.len⟩ ⟨_,hs,.inl rfl⟩
  ·exact(hs.2 b<|bC<|bL (a_ e) I.ok.above).trans (I.base.keep b o e n hb hx)
  ·obtain⟨sl,e1⟩:=I.base.slot b o e n hb hx;exact⟨sl,(hs.2 b<|bC<|bL (a_ e) I.ok.above).trans e1⟩
  ·obtain⟨o',e1⟩:=I.base.there b o e hx;exact⟨o',(hs.2 b<|bC<|bL (a_ e) I.ok.above).trans e1⟩
  ·by_cases hj:j=i
   ·subst hj;rw[hi]at e1;cases e1;rw[bW hiσ]at e2
    cases e2
    exact⟨u,r,.inl ⟨hk,by simp⟩⟩
   ·rw[cB<|cO hj]at e2;obtain⟨u',r',q⟩:=hl j y v' e1 e2 e3;refine⟨u',r',?_⟩
    rcases q with⟨k,e⟩|⟨k,c,e,z⟩
    ·refine .inl ⟨k,?_⟩;have:y≠x:=λe=>hj<|Hj hN e1<|e ▸ hi;simp[this,e]
    ·exact .inr ⟨k,c,e,z.sameBut hs<|XR y c e⟩
  ·obtain⟨w',z⟩:=I.cell y c e;exact⟨w',z.sameBut hs<|XR y c e⟩
  ·obtain⟨e,n,ne,nf,d⟩:=I.pin p hp;exact⟨(hs.2 p.1 ne).trans e,n,ne,nf,d⟩
 ·have hfn:X.fn x=true:=by
   rcases hf with z|z
   ·exact z
   ·rw[z]at hk;cases hk
  obtain⟨c,hc⟩:=I.ok.has x<|.inl hk;obtain⟨w',z⟩:=I.cell x c hc;refine wpAny_storeName_cell I.ok.kind hk hc z λh' hc' hs=>?_;obtain⟨oc,hoc,hocd⟩:=id z;refine h { s with heap:=h' } ⟨I.ok,I.os,I.bare,⟨λb o e n hb hx=>?_,λb o e n hb hx=>?_,I.base.free,λb o e hx=>?_,I.base.tups,I.base.frzs,I.base.tbls⟩,⟨m,hn.sameBut hs<|cO<|XR x c hc,λj y v' e1 e2 e3=>?_⟩,λy c' e=>?_,I.free,I.freeC,λp hp=>?_,tracked ⟨oc,hoc,I.freeC x c hc⟩ hs,by simpa using I.len⟩ ⟨c,hs,.inr hc⟩
  ·exact(hs.2 b<|bC<|bL (a_ e)<|I.ok.cab x c hfn hc).trans (I.base.keep b o e n hb hx)
  ·obtain⟨sl,e1⟩:=I.base.slot b o e n hb hx;exact⟨sl,(hs.2 b<|bC<|bL (a_ e)<|I.ok.cab x c hfn hc).trans e1⟩
  ·obtain⟨o',e1⟩:=I.base.there b o e hx;exact⟨o',(hs.2 b<|bC<|bL (a_ e)<|I.ok.cab x c hfn hc).trans e1⟩
  ·by_cases hj:j=i
   ·subst hj;rw[hi]at e1;cases e1;rw[bW hiσ]at e2
    cases e2
    exact⟨u,r,.inr ⟨.inl hk,c,hc,hc'⟩⟩
   ·rw[cB<|cO hj]at e2;obtain⟨u',r',q⟩:=hl j y v' e1 e2 e3;refine⟨u',r',?_⟩
    rcases q with q|⟨k,c',e,z'⟩
    ·exact .inl q
    ·refine .inr ⟨k,c',e,z'.sameBut hs ?_⟩;rintro rfl;exact hj<|Hj hN e1<|I.ok.inj _ _ _ e hc ▸ hi
  ·by_cases hcc:c'=c
   ·subst hcc;exact⟨_,hc'⟩
   ·obtain⟨w2,z2⟩:=I.cell y c' e;exact⟨w2,z2.sameBut hs hcc⟩
  ·obtain⟨e,n,ne,nf,d⟩:=I.pin p hp;refine⟨(hs.2 p.1 ?_).trans e,n,ne,nf,d⟩;intro q;rw[q,hoc]at e;have q':oc=p.2:=bh e;exact d w'<|by rw[<- q'];exact hocd
def Gq{A:az}{E:af->aA->Prop}{i:Nat}{x:Str}{v:V}{Q:Unit->aA->Prop}(I:Inv X pins σ H s)(hN:X.N.Nodup)(hi:X.N[i]?=some x)(hx:Loc X.env.scope x)(r:RelV v u)
  (h:∀s',Inv X pins (σ.set i<|some v) H s'->Q Unit.unit s') (hf:X.fn x=true\/X.env.scope.names.lookup x=some .local:=by first|exact .inl rfl|exact .inr rfl|assumption):wpAny M A (storeName X.env x u) Q E s:=
 M8 I hN hi hx r (λs' I' _=>h s' I') hf
def Inv.VW{s':aA}{ch:bb}(I:Inv X pins σ H s)(ho:s'.os=s.os)(u:Un (frs X.stack) ch H H' s.heap s'.heap)(hok:xK X.prog X.w H' s'.heap)(hg:AllBare s'.gens)
  (hch:∀b∈ch,(b∈X.ex\/X.s₀.heap.objs.size<=b)/\b≠X.env.locals/\(∀x c,X.env.cells.lookup x=some c->c≠b)/\∀p∈X.pn++pins,p.1≠b):Inv X pins σ H' s':=by
 obtain⟨h',g',d',t',o'⟩:=s';have e:o'=s.os:=ho;subst e;exact I.call (g':=g') (t':=t') (d':=d') u hok hg hch
end
meta abbrev XK:=af->Option ak->Hp->Prop
meta abbrev St:=List<|Option V
meta abbrev VK:=V->Hp->Prop
meta abbrev TE:=St->Hp->VK->Prop
meta abbrev TT:=St->Hp->(Bool->Hp->Prop)->Prop
meta abbrev TA:=St->Hp->(List V->Hp->Prop)->Prop
structure Ends where
 nx:St->Hp->Prop
 rt:VK
 bk:St->Hp->Prop:=λ_ _=>False
 ct:St->Hp->Prop:=λ_ _=>False
meta abbrev TS:=Ends->St->Hp->Prop
abbrev EP (X:Cx)(pins:bo)(σ:St)(Q:VK)(u:af)(s':aA):Prop:=∃v H',Inv X pins σ H' s'/\RelV v u/\Q v H'
abbrev TP (X:Cx)(pins:bo)(σ:St)(Q:Bool->Hp->Prop)(b:Bool)(s':aA):Prop:=∃H',Inv X pins σ H' s'/\Q b H'
abbrev AP (X:Cx)(pins:bo)(σ:St)(Q:List V->Hp->Prop)(us:ba)(s':aA):Prop:=∃vs H',Inv X pins σ H' s'/\Vals vs us/\Q vs H'
abbrev SP (X:Cx)(pins:bo)(D:Ends)(f:Flow)(s':aA):Prop:=
 match f with
 | .next=>∃σ' H',Inv X pins σ' H' s'/\D.nx σ' H'
 | .brk=>∃σ' H',Inv X pins σ' H' s'/\D.bk σ' H'
 | .cont=>∃σ' H',Inv X pins σ' H' s'/\D.ct σ' H'
 | .ret u=>∃v σ' H',Inv X pins σ' H' s'/\RelV v u/\D.rt v H'
abbrev PE (X:Cx)(e:aC)(t:TE):Prop:=
 ∀(pins:bo) (s:aA) (σ:St) (H:Hp) (Q:VK),Inv X pins σ H s->t σ H Q->wpAny (model X.prog X.w) X.A (eval e X.env) (EP X pins σ Q) X.xe s
abbrev PT (X:Cx)(e:aC)(t:TT):Prop:=
 ∀(pins:bo) (s:aA) (σ:St) (H:Hp) (Q:Bool->Hp->Prop),Inv X pins σ H s->t σ H Q->wpAny (model X.prog X.w) X.A (isTrue e X.env<|eval e X.env) (TP X pins σ Q) X.xe s
abbrev PW (X:Cx)(e:aC)(t:TT):Prop:=
 ∀(whole:Sem af) (pins:bo) (s:aA) (σ:St) (H:Hp) (Q:Bool->Hp->Prop),Inv X pins σ H s->t σ H Q->wpAny (model X.prog X.w) X.A (isTrue e X.env whole) (TP X pins σ Q) X.xe s
abbrev PA (X:Cx)(es:List aC)(t:TA):Prop:=
 ∀(pos:Pos) (pins:bo) (s:aA) (σ:St) (H:Hp) (Q:List V->Hp->Prop),Inv X pins σ H s->t σ H Q->wpAny (model X.prog X.w) X.A (spliced<|backTo pos<|starEach es X.env) (AP X pins σ Q) X.xe s
abbrev PS (X:Cx)(st:aE)(t:TS):Prop:=
 ∀(pins:bo) (s:aA) (σ:St) (H:Hp) (D:Ends),Inv X pins σ H s->t D σ H->wpAny (model X.prog X.w) X.A (exec st X.env) (SP X pins D) X.xe s
abbrev EG (X:Cx)(st:List aE)(t:TS):Prop:=
 ∀(pins:bo) (s:aA) (σ:St) (H:Hp) (D:Ends),Inv X pins σ H s->t D σ H->wpAny (model X.prog X.w) X.A (execs st X.env) (SP X pins D) X.xe s
def nK{α:Type}{t:Sem α}{Q Q':α->aA->Prop}{A:az}{E:af->aA->Prop}(h:wpAny M A t Q E s)(hQ:∀a s,Q a s->Q' a s):wpAny M A t Q' E s:=iz h hQ λ_ _ x=>x
section
variable {X:Cx}
abbrev Z5 (i:Nat):TE:=λσ H Q=>∃v,σ[i]?=some (some v)/\Q v H
abbrev tC (v:V):TE:=λ_ H Q=>Q v H
def Ph{i:Nat}{x:Str}(hN:X.N[i]?=some x)(hv:ZT X.env.scope x)(hd:(x == ("__debug__" : Str))=false:=by decide)(hcd:(x == ("__classdict__" : Str))=false:=by decide):PE X (.Name x pos) (Z5 i):=by
 k_ne;obtain⟨v,e,h⟩:=h;obtain⟨m,hn,hl⟩:=I.loc;obtain⟨u,r,l⟩:=hl i x v hN e hv;have fin:EP X pins σ Q u s:=⟨v,H,I,r,h⟩
 rcases l with⟨hk,hm⟩|⟨hk,c,hc,hcell⟩
 ·exact wpAny_Name (wpAny_loadName_local I.ok.kind hk hn hm fin) hd
 ·rcases hk with hk|hk
  ·exact wpAny_Name (wpAny_loadName_cell I.ok.kind hk hc hcell fin) hd
  ·exact wpAny_Name (wpAny_loadName_free I.ok.kind hk hc hcell fin hcd) hd
def Yc{i j pos}:PE X (.Constant (.int i) j pos) (tC<|.int i):=λ_ _ _ H _ I h=>wpAny_Constant_int ⟨.int i,H,I.tok _,⟨_,rfl⟩,h⟩
def aaP{b j pos}:PE X (.Constant (.bool b) j pos) (tC<|.bl b):=λ_ _ _ H _ I h=>Constant_bool ⟨.bl b,H,I,rfl,h⟩
abbrev Gl (X:Cx)(x:Str):Prop:=X.env.kindOf x=some .globalImplicit
def JH{E:af->aA->Prop}{H:Hp}{x:Str}{Q:af->aA->Prop}(I:Inv X pins σ H s)(hg:Gl X x)(hm:X.mg x=some u)(h:Q u s)
  (hd:(x == ("__debug__" : Str))=false:=by decide):wpAny (model X.prog X.w) X.A (eval (.Name x pos) X.env) Q E s:=
 Calls.Name_function_global I.ok.kind hg (Calls.loadGlobal_global (by rw[I.ok.glob];exact I.mod.glob.keeps I.bk) hm h) hd
def uZ{E:af->aA->Prop}{H:Hp}{x:Str}{Q:af->aA->Prop}(I:Inv X pins σ H s)(hg:Gl X x)(hm:X.mg x=none)(hv:bootBuiltins x=some u)(h:Q u s)
  (hn:x ≠ "__name__" := by decide) (hd:(x == ("__debug__" : Str))=false:=by decide):wpAny (model X.prog X.w) X.A (eval (.Name x pos) X.env) Q E s:=by
 obtain⟨mb,h1,h2⟩:=I.mod.blt;exact Calls.Name_function_global I.ok.kind hg (Calls.loadGlobal_builtin (by rw[I.ok.glob];exact I.mod.glob.keeps I.bk) hm (by rw[I.ok.blt];exact h1.keeps I.bk) ((h2 x hn).trans hv) h) hd
def Up{x:Str}{v:V}(hg:Gl X x)(hm:X.mg x=some u)(r:RelV v u)(hd:(x == ("__debug__" : Str))=false:=by decide):PE X (.Name x pos) (tC v):=
 λ_ _ _ H _ I h=>JH I hg hm ⟨v,H,I,r,h⟩ hd
def U6{x:Str}{v:V}(hg:Gl X x)(hm:X.mg x=none)(hv:bootBuiltins x=some u)(r:RelV v u)(hn:x ≠ "__name__" := by decide)(hd:(x == ("__debug__" : Str))=false:=by decide):PE X (.Name x pos) (tC v):=
 λ_ _ _ H _ I h=>uZ I hg hm hv ⟨v,H,I,r,h⟩ hn hd
variable {a b:aC}{ta tb:TE}{pos:Pos}
variable {tA tB':TT}{rest:List aC}
abbrev aat (t u:TT):TT:=λσ H Q=>t σ H λc H1=>if c=true then u σ H1 Q else Q false H1
abbrev tOr (t u:TT):TT:=λσ H Q=>t σ H λc H1=>if c=true then Q true H1 else u σ H1 Q
abbrev abZ (t:TT):TT:=λσ H Q=>t σ H λc H1=>Q (!c) H1
def Uj(ha:PT X a tA):PW X (.BoolOp .And [a] pos) tA:=by
 intro wh pins s σ H Q I h;refine isTrue_and (nK (ha pins s σ H Q I h) λc s1 e=>?_)
 cases c with
 | true=>exact isTrue_and_nil e
 | false=>exact e
def WY(ha:PT X a tA):PW X (.BoolOp .Or [a] pos) tA:=by
 intro wh pins s σ H Q I h;refine isTrue_or (nK (ha pins s σ H Q I h) λc s1 e=>?_)
 cases c with
 | false=>exact isTrue_or_nil e
 | true=>exact e
def Xv(ha:PT X a tA)(hb:PW X (.BoolOp .And (b::rest) pos) tB'):PW X (.BoolOp .And (a::b::rest) pos) (aat tA tB'):=by
 intro wh pins s σ H Q I h;refine isTrue_and (nK (ha pins s σ H _ I h) λc s1 ⟨H1,I1,q1⟩=>?_)
 cases c with
 | true=>exact hb wh pins s1 σ H1 Q I1 q1
 | false=>exact⟨H1,I1,q1⟩
def aaJ(ha:PT X a tA)(hb:PW X (.BoolOp .Or (b::rest) pos) tB'):PW X (.BoolOp .Or (a::b::rest) pos) (tOr tA tB'):=by
 intro wh pins s σ H Q I h;refine isTrue_or (nK (ha pins s σ H _ I h) λc s1 ⟨H1,I1,q1⟩=>?_)
 cases c with
 | true=>exact⟨H1,I1,q1⟩
 | false=>exact hb wh pins s1 σ H1 Q I1 q1
def Ym(ha:PT X a tA):PT X (.UnaryOp .Not a pos) (abZ tA):=by
 k_ne;exact isTrue_not<|ha pins s σ H (λc H1=>Q (!c) H1) I h
abbrev aaq (ta tb:TE):TE:=λσ H Q=>ta σ H λx H1=>∃c,x=.bl c/\if c=true then tb σ H1 Q else Q (.bl false) H1
abbrev aaz (ta:TE):TE:=λσ H Q=>ta σ H λx H1=>∃c,x=.bl c/\Q (.bl<|!c) H1
def Yt{op}{t:TE}(h:PE X a t):PE X (.BoolOp op [a] pos) t:=λpins s σ H Q I hw=>BoolOp_one<|h pins s σ H Q I hw
def WJ(ha:PE X a ta)(hb:PE X (.BoolOp .And (b::rest) pos) tb):PE X (.BoolOp .And (a::b::rest) pos) (aaq ta tb):=by
 k_ne;refine BoolOp_and<|nK (ha pins s σ H _ I h) λv s1 ⟨x,H1,I1,r1,q1⟩=>?_;obtain⟨c,rfl,q1⟩:=q1
 cases r1
 refine eg ?_
 cases c with
 | true=>exact hb pins s1 σ H1 Q I1 q1
 | false=>exact⟨.bl false,H1,I1,rfl,q1⟩
def Y7(ha:PE X a ta):PE X (.UnaryOp .Not a pos) (aaz ta):=by
 k_ne;refine UnaryOp_<|nK (ha pins s σ H _ I h) λv s1 ⟨x,H1,I1,r1,q1⟩=>?_;obtain⟨c,rfl,q1⟩:=q1
 cases r1
 exact not_of<|eg ⟨.bl<|!c,H1,I1,rfl,q1⟩
end
abbrev nJ (K:au)(H:Hp)(a:ak)(xs:List V):Prop:=
 Rd H a (.lst xs) \/
  ∃(o:Obj) (its:Array af) (n:Nat),K.lookup a=some o/\o.cls=.type "list" /\ o.dict=none/\o.data=.seq its n/\its.size<=sizeLine/\Vals xs its.toList
abbrev nO (K:au)(H:Hp)(a:ak)(xs:List V):Prop:=
 Rd H a (.tup xs) \/
  ∃(o:Obj) (its:Array af) (n:Nat),K.lookup a=some o/\o.cls=.type "tuple" /\ o.dict=none/\o.data=.seq its n/\its.size<=sizeLine/\Vals xs its.toList
abbrev abA:af->Option V
 | .none=>some .non
 | .bool b=>some (.bl b)
 | .int i _=>some (.int i)
 | .str x _=>some (.str x)
 | .bytes b _=>some (.byt b)
 | .float b _=>some (.flt b)
 | .ref a=>some (.ref a)
 | .type n=>some (.ty n)
 | _=>none
def RelV.abs{x:V}(r:RelV x u):abA u=some x:=by
 cases x with
 | non=>cases r;rfl
 | bl _=>cases r;rfl
 | int _=>obtain⟨t,rfl⟩:=r;rfl
 | str _=>obtain⟨t,rfl⟩:=r;rfl
 | byt _=>obtain⟨t,rfl⟩:=r;rfl
 | flt _=>obtain⟨t,rfl⟩:=r;rfl
 | ref _=>cases r;rfl
 | ty _=>cases r;rfl
def RelV.inj{x:V}(r:RelV x u)(q:RelV y u):x=y:=bh<|r.abs.symm.trans q.abs
theorem Vals.inj:∀{xs ys:List V}{us:ba},Vals xs us->Vals ys us->xs=ys
 | _,_,_,.nil,.nil=>rfl
 | _,_,_,.cons r t,.cons r' t'=>by rw[r.inj r',Vals.inj t t']
section
variable {X:Cx}{pins:bo}{σ:St}{H:Hp}{s:aA}{a:ak}{xs ys:List V}
def nJ.of{K:au}(h:H a=some (.lst xs)):nJ K H a xs:=.inl<|.inl h
def nO.of{K:au}(h:H a=some (.tup xs)):nO K H a xs:=.inl<|.inl h
def Inv.list(I:Inv X pins σ H s)(h:nJ X.K H a xs):∃its:ba,Vals xs its/\PlainL s.heap a its.toArray/\xs.length<=sizeLine:=by
 rcases h with h|⟨o,its,n,hk,hc,hd,hs,hz,r⟩
 ·obtain⟨z,its,n,r,e⟩:=h.ok I.hok;exact⟨its,r,⟨_,n,e,rfl,rfl,rfl⟩,z⟩
 ·refine⟨its.toList,r,⟨o,n,I.Fj a o hk,hc,hd,by simpa using hs⟩,?_⟩;have e:=r.length;dsimp[dR]at e
  lia
def Inv.tuple(I:Inv X pins σ H s)(h:nO X.K H a xs):∃its:ba,Vals xs its/\IsTup s.heap a its.toArray/\xs.length<=sizeLine:=by
 rcases h with h|⟨o,its,n,hk,hc,_,hs,hz,r⟩
 ·obtain⟨z,its,r,p⟩:=h.ok I.hok;exact⟨its,r,p.tup,z⟩
 ·refine⟨its.toList,r,⟨o,I.Fj a o hk,hc,n,by simpa using hs⟩,?_⟩;have e:=r.length;dsimp[dR]at e
  lia
def Inv.yH(I:Inv X pins σ H s)(h:nJ X.K H a xs)(h':nJ X.K H a ys):xs=ys:=by
 obtain⟨its,r,⟨o,n,e,_,_,d⟩,_⟩:=I.list h;obtain⟨its',r',⟨o',n',e',_,_,d'⟩,_⟩:=I.list h';rw[e]at e';cases e';rw[d]at d'
 injection d' with d1 _
 have:its=its':=by simpa using dO Array.toList d1
 subst this;exact r.inj r'
def Inv.za(I:Inv X pins σ H s)(h:nO X.K H a xs)(h':nO X.K H a ys):xs=ys:=by
 obtain⟨its,r,⟨o,e,_,n,d⟩,_⟩:=I.tuple h;obtain⟨its',r',⟨o',e',_,n',d'⟩,_⟩:=I.tuple h';rw[e]at e';cases e';rw[d]at d'
 injection d' with d1 _
 have:its=its':=by simpa using dO Array.toList d1
 subst this;exact r.inj r'
end
meta abbrev Cx.CD (X:Cx)(E:af->aA->Prop):Cx:={ X with xe:=E }
meta abbrev Cx.Zw (X:Cx):Cx:=X.CD λ_ _=>False
def Cx.Ok.CD{X:Cx}(ok:X.Ok)(E:af->aA->Prop):(X.CD E).Ok:=
 ⟨ok.mod,ok.kind,ok.glob,ok.blt,ok.above,ok.inj,ok.has,ok.cab,ok.hd,ok.frames,ok.stk,ok.exf,ok.bs,ok.bsz,ok.noex,ok.exfs,ok.Bc,ok.frf⟩
def Cx.Ok.uY{X:Cx}{E:af->aA->Prop}(ok:(X.CD E).Ok):X.Ok:=
 ⟨ok.mod,ok.kind,ok.glob,ok.blt,ok.above,ok.inj,ok.has,ok.cab,ok.hd,ok.frames,ok.stk,ok.exf,ok.bs,ok.bsz,ok.noex,ok.exfs,ok.Bc,ok.frf⟩
section
variable {X:Cx}{pins:bo}{σ:St}{H:Hp}{s:aA}{E:af->aA->Prop}
def Inv.CD(I:Inv X pins σ H s)(E:af->aA->Prop):Inv (X.CD E) pins σ H s:=⟨I.ok.CD E,I.os,I.bare,I.base,I.loc,I.cell,I.free,I.freeC,I.pin,I.hok,I.len⟩
def Inv.uY(I:Inv (X.CD E) pins σ H s):Inv X pins σ H s:=⟨I.ok.uY,I.os,I.bare,I.base,I.loc,I.cell,I.free,I.freeC,I.pin,I.hok,I.len⟩
def SP.uY{D:Ends}{f:Flow}(h:SP (X.CD E) pins D f s'):SP X pins D f s':=by
 cases f with
 | next=>obtain⟨σ',H',I,q⟩:=h;exact⟨σ',H',I.uY,q⟩
 | brk=>obtain⟨σ',H',I,q⟩:=h;exact⟨σ',H',I.uY,q⟩
 | cont=>obtain⟨σ',H',I,q⟩:=h;exact⟨σ',H',I.uY,q⟩
 | ret u=>obtain⟨v,σ',H',I,r,q⟩:=h;exact⟨v,σ',H',I.uY,r,q⟩
def EG.Zw{st:List aE}{t:TS}(h:EG X.Zw st t):EG X st t:=λpins s σ H D I hw=>
 iz (h pins s σ H D (I.CD _) hw) (λ_ _ q=>q.uY) λ_ _ z=>False.elim z
end
section
variable {X:Cx}{st:aE}{rest:List aE}{t u:TS}{e:aC}{te:TE}{pos:Pos}
abbrev Zr:TS:=λD σ H=>D.nx σ H
abbrev ZO (t u:TS):TS:=λD σ H=>t { D with nx:=u D } σ H
def Uo:EG X [] Zr:=λ_ _ σ H _ I h=>iL ⟨σ,H,I,h⟩
def Rj(h1:PS X st t)(h2:EG X rest u):EG X (st::rest) (ZO t u):=by
 kln_w;refine wpAny_execs_cons (nK (h1 pins s σ H { D with nx:=u D } I h) λf s1 q=>?_)
 cases f with
 | next=>
  obtain⟨σ',H',I',q⟩:=q;exact h2 pins s1 σ' H' D I' q
 | ret v=>exact q
 | brk=>exact q
 | cont=>exact q
def TR(h1:PS X st t):EG X [st] t:=by
 kln_w;refine wpAny_execs_cons (nK (h1 pins s σ H D I h) λf s1 q=>?_)
 cases f with
 | next=>exact iL q
 | ret v=>exact q
 | brk=>exact q
 | cont=>exact q
def Inv.quiet{H:Hp}(I:Inv X pins σ H s):interactive X.env=false:=by simp[interactive,I.ok.kind]
abbrev Zl (te:TE):TS:=λD σ H=>te σ H λ_ H1=>D.nx σ H1
def Vc(he:PE X e te)(hs:swapsWith e none pos.line X.env=pure false:=by rfl):PS X (.Expr e pos) (Zl te):=by
 kln_w;exact wpAny_Expr_any (nK (he pins s σ H _ I h) λv s1 ⟨x,H1,I1,r1,q1⟩=>⟨σ,H1,I1,q1⟩) I.quiet hs
abbrev acz (te:TE):TS:=λD σ H=>te σ H D.rt
def YX(he:PE X e te):PS X (.Return (some e) pos) (acz te):=by
 kln_w;exact wpAny_Return_some<|nK (he pins s σ H _ I h) λv s1 ⟨x,H1,I1,r1,q1⟩=>⟨x,σ,H1,I1,r1,q1⟩
abbrev aby (c:TT)(t u:TS):TS:=λD σ H=>c σ H λb H1=>if b=true then t D σ H1 else u D σ H1
def aaH{c:aC}{a:List aE}{tc:TT}(hc:PT X c tc)(ha:EG X a t)(hb:EG X b u):PS X (.If c a b pos) (aby tc t u):=by
 kln_w;refine wpAny_If (nK (hc pins s σ H _ I h) λd s1 ⟨H1,I1,q1⟩=>?_)
 cases d with
 | true=>exact ha pins s1 σ H1 D I1 q1
 | false=>exact hb pins s1 σ H1 D I1 q1
abbrev Y0:TS:=λ_ _ _=>False
def P0:PS X st Y0:=λ_ _ _ _ _ _ h=>h.elim
end
meta abbrev TG:=V->St->Hp->(St->Hp->Prop)->Prop
meta abbrev VA:=List V->St->Hp->(St->Hp->Prop)->Prop
abbrev PG (X:Cx)(target:aC)(t:TG):Prop:=
 ∀(pins:bo) (s:aA) (σ:St) (H:Hp) (v:V) (u:af) (Q:St->Hp->Prop),Inv X pins σ H s->RelV v u->t v σ H Q ->
  wpAny (model X.prog X.w) X.A (assign target X.env u) (λ_ s'=>∃σ' H',Inv X pins σ' H' s'/\Q σ' H') X.xe s
abbrev ZI (X:Cx)(ts:List aC)(t:VA):Prop:=
 ∀(pins:bo) (s:aA) (σ:St) (H:Hp) (vs:List V) (us:ba) (Q:St->Hp->Prop),Inv X pins σ H s->Vals vs us->t vs σ H Q ->
  wpAny (model X.prog X.w) X.A (assignInOrder ((assignEach ts X.env).map (·.2)) us) (λ_ s'=>∃σ' H',Inv X pins σ' H' s'/\Q σ' H') X.xe s
meta abbrev Mp:=V->V->V->Hp->(Hp->Prop)->Prop
abbrev MS (X:Cx)(t:Mp):Prop:=
 ∀(pins:bo) (s:aA) (σ:St) (H:Hp) (o i v:V) (ov iv u:af) (Q:Hp->Prop),Inv X pins σ H s->RelV o ov->RelV i iv->RelV v u->t o i v H Q ->
  wpAny (model X.prog X.w) X.A (setItem ov iv u) (λ_ s'=>∃H',Inv X pins σ H' s'/\Q H') X.xe s
section
variable {X:Cx}{pos:Pos}
abbrev Rg (i:Nat):TG:=λv σ H Q=>Q (σ.set i<|some v) H
def JQ{i:Nat}{x:Str}(hN:X.N.Nodup)(hi:X.N[i]?=some x)(hx:Loc X.env.scope x)(hf:X.fn x=true\/X.env.scope.names.lookup x=some .local:=by first|exact .inl rfl|exact .inr rfl|assumption):PG X (.Name x pos) (Rg i):=by
 intro pins s σ H v u Q I r h;exact wpAny_assign_Name<|Gq I hN hi hx r (λs' I'=>⟨_,H,I',h⟩) hf
abbrev abw:VA:=λvs σ H Q=>vs=[]/\Q σ H
abbrev aay (t:TG)(u:VA):VA:=λvs σ H Q=>∃v r,vs=v::r/\t v σ H λσ' H'=>u r σ' H' Q
def U7:ZI X [] abw:=by
 intro pins s σ H vs us Q I r h;obtain⟨e,h⟩:=h;subst e
 cases r
 exact assignInOrder_nil ⟨σ,H,I,h⟩
def Q8{e:aC}{t:TG}{u:VA}(h1:PG X e t)(h2:ZI X es u)
  (hs:(assignEach (e::es) X.env).map (·.2)=assign e X.env::(assignEach es X.env).map (·.2):=by rfl):ZI X (e::es) (aay t u):=by
 intro pins s σ H vs us Q I r h;obtain⟨v,vr,e1,h⟩:=h;subst e1
 cases r with
 | cons r rr=>
  rw[hs];refine assignInOrder_cons<|nK (h1 pins s σ H _ _ _ I r h) λ_ s1 ⟨σ1,H1,I1,q1⟩=>?_;exact h2 pins s1 σ1 H1 _ _ Q I1 rr q1
abbrev abr (K:au)(n:Nat)(t:VA):TG:=λv σ H Q=>∃a xs,v=.ref a/\nO K H a xs/\xs.length=n/\t xs σ H Q
def WH{k:Nat}{t:VA}{n:Nat}(hc:X.calm=true)(h:ZI X es t)
  (hn:(assignEach es X.env).length=n:=by rfl) (hst:(assignEach es X.env).findIdx? (·.1)=none:=by rfl):PG X (.Tuple es k pos) (abr X.K n t):=by
 intro pins s σ H v u Q I r hw;obtain⟨a,xs,e1,hq,hl,hw⟩:=hw;subst e1
 cases r
 obtain⟨its,rv,ht,hz⟩:=I.tuple hq;refine assign_Tuple_tuple (I.ok.hd hc) ht (by simp[hn,<- hl,rv.length]) hst λh' hx=>?_;have I1:Inv X pins σ H { s with heap:=h' }:=I.kept (t':=s.toks) λb o e=>hx b o (bC<|a_ e) e;exact h pins _ σ H xs _ Q I1 (by simpa using rv) hw
abbrev ab8 (to ti:TE)(t:Mp):TG:=λv σ H Q=>to σ H λo H1=>ti σ H1 λi H2=>t o i v H2 λH3=>Q σ H3
def Ii{to ti:TE}{t:Mp}(ho:PE X o to)(hi:PE X i ti)(hs:MS X t)
  (ha:∀v,assign (.Subscript o i pos) X.env v=(do
   let ov <- holding [v] (eval o X.env)
   let iv <- holding [v,ov] (eval i X.env)
   standAt pos
   holding [v,ov,iv] (setItem ov iv v)
   release [v,ov,iv] []):=by intro _;rfl):PG X (.Subscript o i pos) (ab8 to ti t):=by
 intro pins s σ H v u Q I r h;rw[ha];refine aH<|dF<|nK (ho pins s σ H _ I h) λov s1 ⟨x,H1,I1,r1,q1⟩=>?_;refine aH<|dF<|nK (hi pins s1 σ H1 _ I1 q1) λiv s2 ⟨y,H2,I2,r2,q2⟩=>?_;refine aH<|wpAny_standAt<|aH<|dF<|nK (hs pins s2 σ H2 x y v ov iv u _ I2 r1 r2 r q2) λ_ s3 ⟨H3,I3,q3⟩=>?_;exact wpAny_release ⟨σ,H3,I3,q3⟩
abbrev UR (te:TE)(g:TG):TS:=λD σ H=>te σ H λx H1=>g x σ H1 D.nx
def XA{tg e:aC}{te:TE}{g:TG}(he:PE X e te)(hg:PG X tg g)(hs:swapsWithSole [tg] e pos.line X.env=pure false:=by rfl)(hw:swappedStores [tg] e X.env=pure none:=by rfl)
  (h1:(assignEach [tg] X.env).map (·.2)=[assign tg X.env]:=by rfl):PS X (.Assign [tg] e pos) (UR te g):=by
 kln_w;refine wpAny_Assign_stores (nK (he pins s σ H _ I h) λv s1 ⟨x,H1,I1,r1,q1⟩=>?_) hs hw;rw[h1];exact nK (hg pins s1 σ H1 x v _ I1 r1 q1) λ_ s2 q=>q
def Xb{i:Nat}{x:Str}{e:aC}{te:TE}(hN:X.N.Nodup)(hi:X.N[i]?=some x)(hx:Loc X.env.scope x)(he:PE X e te)(hs:swapsWith e (some<|.Name x pos') pos.line X.env=pure false:=by rfl)(hf:X.fn x=true\/X.env.scope.names.lookup x=some .local:=by first|exact .inl rfl|exact .inr rfl|assumption) :
  PS X (.Assign [.Name x pos'] e pos) (UR te<|Rg i):=by
 kln_w;refine wpAny_Assign_Name (nK (he pins s σ H _ I h) λv s1 ⟨y,H1,I1,r1,q1⟩=>?_) hs;exact Gq I1 hN hi hx r1 (λs2 I2=>⟨_,H1,I2,q1⟩) hf
end
section
variable {X:Cx}{pos:Pos}
abbrev Se (c:TT)(tb:TS):TS:=λD σ H=>∃W:Nat->St->Hp->Prop,(∃m,W m σ H)/\∀m σ H,W m σ H ->
 c σ H λb H1=>if b=true then ∃N:St->Hp->Prop,(∀σ' H',N σ' H'->∃m',m'<m/\W m' σ' H')/\tb { D with nx:=N,ct:=N,bk:=D.nx } σ H1 else D.nx σ H1
def NO{c:aC}{tc:TT}{tb:TS}(hp:PassesOwn (model X.prog X.w) X.A X.env X.xe)(hc:PT X c tc)(hb:EG X body tb):PS X (.While c body [] pos) (Se tc tb):=by
 kln_w;obtain⟨W,⟨m0,w0⟩,turn⟩:=h;refine wpAny_While<|codeAny_whileLoop (λn s'=>∃σ' H',Inv X pins σ' H' s'/\W n σ' H') ?_ m0 ⟨σ,H,I,w0⟩;rintro n s1 ⟨σ1,H1,I1,w1⟩;refine eZ hp (nK (hc pins s1 σ1 H1 _ I1<|turn n σ1 H1 w1) λb s2 ⟨H2,I2,q2⟩=>?_)
 cases b with
 | true=>
  obtain⟨N,hN,q2⟩:=q2;rw[aL rfl];refine eZ hp (nK (hb pins s2 σ1 H2 _ I2 q2) λf s3 q3=>?_)
  cases f with
  | next=>
   obtain⟨σ3,H3,I3,n3⟩:=q3;obtain⟨m',hm,w3⟩:=hN σ3 H3 n3;exact⟨m',hm,σ3,H3,I3,w3⟩
  | cont=>
   obtain⟨σ3,H3,I3,n3⟩:=q3;obtain⟨m',hm,w3⟩:=hN σ3 H3 n3;exact⟨m',hm,σ3,H3,I3,w3⟩
  | brk=>exact q3
  | ret v=>exact q3
 | false=>
  rw[aJ bM];exact iL ⟨σ1,H2,I2,q2⟩
end
structure It where
 go:Nat->Hp->Prop
 yld:Nat->Hp->V->Hp->Prop
 stop:Nat->Hp->Prop
abbrev zm (X:Cx)(pins:bo)(H:Hp)(b:ak):Prop:=
 H b=none/\b≠X.env.locals/\b∉X.fs/\(b∈X.ex\/X.s₀.heap.objs.size<=b)/\(∀x c,X.env.cells.lookup x=some c->c≠b)/\∀p∈X.pn++pins,p.1≠b
def Inv.EO{X:Cx}{H H':Hp}{s:aA}(I:Inv X pins σ H s)(hb:s.heap.objs.size<=b)(hn:H' b=none):zm X pins H' b:=by
 refine⟨hn,ju<|bL I.lt hb,I.acw hb,.inr<|bB I.sz hb,λx c e z=>?_,λp hp z=>?_⟩
 ·obtain⟨v,q⟩:=I.cell x c e;exact absurd (bL q.lt<|by rw[z];exact hb) (fY _)
 ·exact absurd (bL (a_ (I.pin p hp).1)<|by rw[z];exact hb)<|fY _
structure Turn (P:aj)(w:ah)(K:au)(tg:aC)(J:It)(fp:bb)(it:ak)(tn:Nat->aq->Prop):Prop where
 mem:it∈fp
 obj:∀i h,tn i h->∀b∈fp,∃o,h.get? b=some o/\∀v,o.data≠.cell v
 keep:∀i h h',tn i h->(∀b∈fp,∀o,h.get? b=some o->h'.get? b=some o)->tn i h'
 item:∀(X:Cx),X.prog=P->X.w=w->X.K=K->X.calm=true->∀(i:Nat) (pins:bo) (s:aA) (σ:St) (H:Hp) (E:af->aA->Prop),Inv X pins σ H s->(∀b∈fp,zm X pins H b)->tn i s.heap->J.go i H ->
  wpAny (model P w) X.A (pyNext<|.ref it) (λr s1=>∃u,r=some u /\
   wpAny (model P w) X.A (letOwnedTupleGo tg (.ref it) u) (λ_ s2=>∃x H',Inv X pins σ H' s2/\RelV x u/\J.yld i H x H'/\tn (i+1) s2.heap/\∀b∈fp,H' b=none) E s1) E s
 done:∀(X:Cx),X.prog=P->X.w=w->X.K=K->X.calm=true->∀(i:Nat) (pins:bo) (s:aA) (σ:St) (H:Hp) (E:af->aA->Prop),Inv X pins σ H s->(∀b∈fp,zm X pins H b)->tn i s.heap->J.stop i H ->
  wpAny (model P w) X.A (pyNext<|.ref it) (λr s1=>r=none/\Inv X pins σ H s1) E s
 self:∀(A:az) (i:Nat) (s:aA) (Q:af->aA->Prop) (E:af->aA->Prop),tn i s.heap->Q (.ref it) s->wpAny (model P w) A (pyIter<|.ref it) Q E s
meta abbrev TI:=St->Hp->(It->Hp->Prop)->Prop
abbrev PIE (X:Cx)(pins:bo)(σ:St)(tg:aC)(R:It->Hp->Prop)(itv:af)(s2:aA):Prop:=
 ∃(it:ak) (fp:bb) (tn:Nat->aq->Prop) (J:It) (H':Hp),itv=.ref it/\Inv X pins σ H' s2/\Turn X.prog X.w X.K tg J fp it tn/\tn 0 s2.heap/\(∀b∈fp,zm X pins H' b)/\R J H'
abbrev PI (X:Cx)(tg iter:aC)(wi:TI):Prop:=
 ∀(pins:bo) (s:aA) (σ:St) (H:Hp) (R:It->Hp->Prop),Inv X pins σ H s->wi σ H R ->
  wpAny (model X.prog X.w) X.A (eval iter X.env) (λv s1=>wpAny (model X.prog X.w) X.A (pyIter v) (PIE X pins σ tg R) X.xe s1) X.xe s
def F7{A:az}{E:af->aA->Prop}{s:aA}{o:Obj}{n:String}{Q:Unit->aA->Prop}(ho:s.heap.get? it=some o)(hc:o.cls=.type n)(hd:o.data=.fields vs)
  (hn:["enumerate", "zip", "dict_itemiterator", "dict_reverseitemiterator", "odict_iterator", "itertools.zip_longest", "itertools.pairwise"].contains n=false) (hQ:Q Unit.unit s):wpAny M A (letOwnedTupleGo tg (.ref it) u) Q E s:=by
 unfold letOwnedTupleGo
 cases tg<;>first
  | exact aR hQ
  | (cases u<;>first
    | exact aR hQ
    | (refine aH (wpAny_load ho ?_)
       rw[hc,hd];show wpAny M A (if (["enumerate", "zip", "dict_itemiterator", "dict_reverseitemiterator", "odict_iterator", "itertools.zip_longest", "itertools.pairwise"].contains n && vs[0]? == some (rawInt _))=true then _ else _) Q E s;rw[aJ<|by intro h;rw[hn,Bool.false_and]at h;cases h];exact aR hQ))
abbrev Itl (K:au)(a:ak):It:=
 ⟨λi H=>∃xs x,nJ K H a xs/\xs[i]?=some x,λi H x H'=>H'=H/\∀xs,nJ K H a xs->xs[i]?=some x,λi H=>∃xs,nJ K H a xs/\xs.length<=i⟩
abbrev Zg (K:au)(a:ak):It:=
 ⟨λi H=>∃xs x,nO K H a xs/\xs[i]?=some x,λi H x H'=>H'=H/\∀xs,nO K H a xs->xs[i]?=some x,λi H=>∃xs,nO K H a xs/\xs.length<=i⟩
abbrev Zm (lo:Int)(n:Nat):It:=⟨λi _=>i<n,λi H x H'=>H'=H/\x=.int (lo+i),λi _=>n<=i⟩
def My{P:aj}{w:ah}{K:au}(a it:ak):Turn P w K tg (Itl K a) [it] it (λi h=>h.IsListIter it a i) where
 mem:=by simp
 obj:=λi h st b hb=>by
  have e:b=it:=by simpa using hb
  subst e;obtain⟨o,e,c,d⟩:=st;exact⟨o,e,λv z=>by rw[d]at z;cases z⟩
 keep:=λi h h' st k=>st.at λo e=>k it (by simp) o e
 item:=by
  z_go;subst hP hw hK;obtain⟨xs,x,hq,hx⟩:=hg;obtain⟨its,rv,p,hz⟩:=I.list hq;obtain⟨u,hu,ru⟩:=rv.get hx;kt_k;refine wpAny_pyNext_list_item st p.isList (x:=u) (by simpa using hu) λh' st' sb=>?_;have I1:Inv X pins σ H { s with heap:=h' }:=I.turned (t':=s.toks) (λb o hb e=>(sb.2 b hb).trans e) f0 f1 f3 f4 f5;obtain⟨o,e,c,d⟩:=id st';exact⟨u,rfl,F7 (s:={ s with heap:=h' }) e c d ⋯ ⟨x,H,I1,ru,⟨rfl,λys hy=>by rw[I.yH hy hq];exact hx⟩,st',λb hb=>(hf b hb).1⟩⟩
 done:=by
  z_go;subst hP hw hK;obtain⟨xs,hq,hx⟩:=hg;obtain⟨its,rv,p,hz⟩:=I.list hq;kt_k;have hl:=rv.length;exact wpAny_pyNext_list_end (I.ok.hd hc) st p.isList (by simp;omega) λh' eb=>⟨rfl,I.turned (t':=s.toks) (λb o hb e=>eb b o hb e) f0 f1 f3 f4 f5⟩
 self:=λ_ _ _ _ _ st h=>wpAny_pyIter_listiter st h
def HD{P:aj}{w:ah}{K:au}(a it:ak):Turn P w K tg (Zg K a) [it] it (λi h=>h.IsTupleIter it a i) where
 mem:=by simp
 obj:=λi h st b hb=>by
  have e:b=it:=by simpa using hb
  subst e;obtain⟨o,e,c,d⟩:=st;exact⟨o,e,λv z=>by rw[d]at z;cases z⟩
 keep:=λi h h' st k=>st.at λo e=>k it (by simp) o e
 item:=by
  z_go;subst hP hw hK;obtain⟨xs,x,hq,hx⟩:=hg;obtain⟨its,rv,p,hz⟩:=I.tuple hq;obtain⟨u,hu,ru⟩:=rv.get hx;kt_k;refine wpAny_pyNext_tuple_item st (show s.heap.IsTuple a its.toArray from p) (x:=u) (by simpa using hu) λh' st' sb=>?_;have I1:Inv X pins σ H { s with heap:=h' }:=I.turned (t':=s.toks) (λb o hb e=>(sb.2 b hb).trans e) f0 f1 f3 f4 f5;obtain⟨o,e,c,d⟩:=id st';exact⟨u,rfl,F7 (s:={ s with heap:=h' }) e c d ⋯ ⟨x,H,I1,ru,⟨rfl,λys hy=>by rw[I.za hy hq];exact hx⟩,st',λb hb=>(hf b hb).1⟩⟩
 done:=by
  z_go;subst hP hw hK;obtain⟨xs,hq,hx⟩:=hg;obtain⟨its,rv,p,hz⟩:=I.tuple hq;kt_k;have hl:=rv.length;exact wpAny_pyNext_tuple_end (I.ok.hd hc) st (show s.heap.IsTuple a its.toArray from p) (by simp;lia) λh' eb=>⟨rfl,I.turned (t':=s.toks) (λb o hb e=>eb b o hb e) f0 f1 f3 f4 f5⟩
 self:=λ_ _ _ _ _ st h=>wpAny_pyIter_tupleiter st h
def HB{P:aj}{w:ah}{K:au}(it:ak)(lo:Int)(n:Nat):Turn P w K tg (Zm lo n) [it] it (λi h=>IsRangeIter h it (lo+(i:Nat) * 1) ((n:Int)-(i:Nat)) 1) where
 mem:=by simp
 obj:=λi h st b hb=>by
  have e:b=it:=by simpa using hb
  subst e;exact⟨_,st,λv z=>by
   have z':Data.fields _=Data.cell v:=z
   cases z'⟩
 keep:=λi h h' st k=>k it (by simp) _ st
 item:=by
  z_go;subst hP hw hK;kt_k;have W:=Walks.range (prog:=X.prog) (w:=X.w) (I.ok.hd hc) it lo 1 n;refine W.item i s _ _ hg st λv h' tk hv st' kk=>?_;obtain⟨t,rfl⟩:=hv;have I1:Inv X pins σ H { s with heap:=h',toks:=tk }:=I.turned (λb o hb e=>kk b o (by simpa using hb) e) f0 f1 f3 f4 f5;refine⟨_,rfl,F7 (s:={ s with heap:=h',toks:=tk }) (n := "range_iterator") st' rfl rfl ⋯ ⟨.int<|lo+i,H,I1,⟨t,?_⟩,⟨rfl,rfl⟩,st',λb hb=>(hf b hb).1⟩⟩;rw[Int.mul_one]
 done:=by
  z_go;subst hP hw hK;kt_k;exact wpAny_pyNext_range_end (I.ok.hd hc) st (by have:n<=i:=hg;lia) λh' eb=>⟨rfl,I.turned (t':=s.toks) (λb o hb e=>eb b o hb e) f0 f1 f3 f4 f5⟩
 self:=λ_ _ _ _ _ st h=>wpAny_pyIter_rangeiter st h
section
variable {X:Cx}{tg:aC}
abbrev aaj (K:au)(tl:TE):TI:=λσ H R=>tl σ H λx H1=>∃a,x=.ref a/\(∃xs,nJ K H1 a xs)/\R (Itl K a) H1
abbrev abQ (K:au)(tl:TE):TI:=λσ H R=>tl σ H λx H1=>∃a,x=.ref a/\(∃xs,nO K H1 a xs)/\R (Zg K a) H1
def KQ{l:aC}{tl:TE}(hl:PE X l tl):PI X tg l (aaj X.K tl):=by
 intro pins s σ H R I h;refine nK (hl pins s σ H _ I h) λv s1 ⟨x,H1,I1,r1,q1⟩=>?_;obtain⟨a,e,⟨xs,hq⟩,q⟩:=q1;subst e
 cases r1
 obtain⟨its,rv,p,hz⟩:=I1.list hq;refine i8 p.isList ?_;refine⟨s1.heap.objs.size,[s1.heap.objs.size],_,_,H1,rfl,I1.kept (t':=s1.toks) λb o e=>aQ _ e,My a _,⟨_,bq _ rfl,rfl,rfl⟩,λb hb=>?_,q⟩;have e:b=s1.heap.objs.size:=by simpa using hb
 subst e;kpf_c
def Rt{l:aC}{tl:TE}(hl:PE X l tl):PI X tg l (abQ X.K tl):=by
 intro pins s σ H R I h;refine nK (hl pins s σ H _ I h) λv s1 ⟨x,H1,I1,r1,q1⟩=>?_;obtain⟨a,e,⟨xs,hq⟩,q⟩:=q1;subst e
 cases r1
 obtain⟨its,rv,p,hz⟩:=I1.tuple hq;refine gJ (show s1.heap.IsTuple a its.toArray from p) ?_;refine⟨s1.heap.objs.size,[s1.heap.objs.size],_,_,H1,rfl,I1.kept (t':=s1.toks) λb o e=>aQ _ e,HD a _,⟨_,bq _ rfl,rfl,rfl⟩,λb hb=>?_,q⟩;have e:b=s1.heap.objs.size:=by simpa using hb
 subst e;kpf_c
def Gv{H:Hp}{s:aA}{R:It->Hp->Prop}{E:af->aA->Prop}{lo hi:Int}{t v:Tok}{tk:Nat}(I:Inv X pins σ H s)(h1:-(2 ^ 62)<=lo)(h2:lo<2 ^ 62)(h3:-(2 ^ 62)<=hi)(h4:hi<2 ^ 62)
  (q:R (Zm lo (hi-lo).toNat) H):wpAny (model X.prog X.w) X.A (pyIter<|.ref s.heap.objs.size) (PIE X pins σ tg R) E { s with heap:=s.heap.push { cls:=.type "range",data:=.fields #[.int lo t,.int hi u,.int 1 v]},toks:=tk }:=by
 refine wpAny_pyIter_range (IsRange.new ..) (small_one h1 h2 h3 h4) ?_;have I1:Inv X pins σ H { s with heap:=s.heap.push { cls:=.type "range",data:=.fields #[.int lo t,.int hi u,.int 1 v]},toks:=tk }:=I.kept λb o e=>aQ _ e;refine⟨(s.heap.push { cls:=.type "range",data:=.fields #[.int lo t,.int hi u,.int 1 v]}).objs.size,[(s.heap.push { cls:=.type "range",data:=.fields #[.int lo t,.int hi u,.int 1 v]}).objs.size],_,_,H,rfl,
  I1.kept (t':=tk) λb o e=>aQ _ e,HB _ lo (hi-lo).toNat,?_,λb hb=>?_,q⟩
 ·have e1:lo+((0:Nat):Int) * 1=lo:=by simp
  have e2:(((hi-lo).toNat:Nat):Int)-((0:Nat):Int)=Builtin.Range.rangeSize lo hi 1:=by rw[rangeSize_one];split<;>lia
  skip
  rw[e1,e2];exact bq _ rfl
 ·have e:b=(s.heap.push { cls:=.type "range",data:=.fields #[.int lo t,.int hi u,.int 1 v]}).objs.size:=by simpa using hb
  subst e;kpf_c
abbrev yw (ta:TA):TI:=λσ H R=>ta σ H λvs H1=>∃j:Int,vs=[.int j]/\-(2 ^ 62)<=j/\j<2 ^ 62/\R (Zm 0 j.toNat) H1
abbrev sj (ta:TA):TI:=λσ H R=>ta σ H λvs H1=>∃i j:Int,vs=[.int i,.int j]/\(-(2 ^ 62)<=i/\i<2 ^ 62/\-(2 ^ 62)<=j/\j<2 ^ 62)/\R (Zm i (j-i).toNat) H1
def MG{a:aC}{ta:TA}{p:Pos}(hg:Gl X "range")(hm:X.mg "range" = none)(ha:PA X [a] ta)(hs:starEach [a] X.env=[(false,eval a X.env)]:=by rfl):PI X tg (.Call (.Name "range" p) [a] [] pos) (yw ta):=by
 intro pins s σ H R I h;refine Call_<|uZ I hg hm boot_range<|c8 (nK (ha pos pins s σ H _ I h) λus s1 ⟨vs,H1,I1,r1,q1⟩=>?_) hs rfl;obtain⟨j,e,q1,q2,q⟩:=q1;subst e
 cases r1 with
 | cons r rr=>
  cases rr
  obtain⟨t,rfl⟩:=r;exact call_range_1<|Gv I1 () () q1 q2<|by simpa using q
def M5{a b:aC}{ta:TA}{p:Pos}(hg:Gl X "range")(hm:X.mg "range" = none)(ha:PA X [a,b] ta)(hs:starEach [a,b] X.env=[(false,eval a X.env),(false,eval b X.env)]:=by rfl)(hs2:starEach [b] X.env=[(false,eval b X.env)]:=by rfl) :
  PI X tg (.Call (.Name "range" p) [a,b] [] pos) (sj ta):=by
 intro pins s σ H R I h;refine Call_ (uZ I hg hm boot_range<|c8 (nK (ha pos pins s σ H _ I h) λus s1 ⟨vs,H1,I1,r1,q1⟩=>?_) (by rw[hs,hs2])<|by rw[hs2];rfl);obtain⟨i,j,e,⟨q1,q2,q3,q4⟩,q⟩:=q1;subst e
 cases r1 with
 | cons r rr=>
  cases rr with
  | cons r' rr=>
   cases rr
   obtain⟨t,rfl⟩:=r;obtain⟨t',rfl⟩:=r';exact call_range_2<|Gv I1 q1 q2 q3 q4 q
abbrev ach (wi:TI)(g:TG)(tb:TS):TS:=λD σ H=>wi σ H λJ H1=>∃W:Nat->Nat->St->Hp->Prop,(∃m,W 0 m σ H1)/\∀i m σ H,W i m σ H ->
 (J.stop i H/\D.nx σ H)\/(J.go i H/\∃N:St->Hp->Prop,(∀σ' H',N σ' H'->∃m',m'<m/\W (i+1) m' σ' H')/\∀x H',J.yld i H x H'->g x σ H' λσ2 H2=>tb { D with nx:=N,ct:=N,bk:=D.nx } σ2 H2)
abbrev B9 (fp:bb)(h:aq):bo:=fp.filterMap λb=>(h.get? b).map λo=>(b,o)
def qU{fp:bb}{h:aq}{b:ak}(hb:b∈fp)(e:h.get? b=some o):(b,o)∈B9 fp h:=List.mem_filterMap.mpr ⟨b,hb,by rw[e];rfl⟩
def Nb{fp:bb}{h:aq}{p:ak×Obj}(hp:p∈B9 fp h):p.1∈fp/\h.get? p.1=some p.2:=by
 obtain⟨b,hb,e⟩:=List.mem_filterMap.mp hp
 cases q:h.get? b with
 | none=>rw[q]at e;cases e
 | some o=>
  rw[q]at e;have e':(b,o)=p:=bh e;subst e';exact⟨hb,q⟩
def Inv.pinned{H:Hp}{s:aA}{fp:bb}(I:Inv X pins σ H s)(hf:∀b∈fp,zm X pins H b)(ho:∀b∈fp,∃o,s.heap.get? b=some o/\∀v,o.data≠.cell v):Inv X (pins++B9 fp s.heap) σ H s:=
 I.LD λp hp=>(bE.mp hp).elim (λz=>I.pin p<|bU _ z) λz=>by
  obtain⟨hb,e⟩:=Nb z;obtain⟨f0,f1,f2,_⟩:=hf p.1 hb;obtain⟨o,e',d⟩:=ho p.1 hb;rw[e]at e';cases e';exact⟨e,f0,f1,f2,d⟩
def Inv.vV{pl:bo}{H:Hp}(I:Inv X (pins++pl) σ H s):Inv X pins σ H s:=I.LD λp hp=>I.pin p<|bU _<|ff _ hp
def WL{iter:aC}{wi:TI}{g:TG}{tb:TS}(hp:PassesOwn (model X.prog X.w) X.A X.env X.xe)(hc:X.calm=true)(hi:PI X tg iter wi)(hg:PG X tg g)(hb:EG X body tb)
  (hs:∀x,foldedSetIterable iter X.env x=pure x:=by intro _;rfl):PS X (.For tg iter body [] pos) (ach wi g tb):=by
 kln_w;refine wpAny_For (nK (hi pins s σ H _ I h) λv s1 h1=>nK h1 λitv s2 h2=>?_) hs;obtain⟨it,fp,tn,J,H2,e,I2,T,st2,f2,W,⟨m0,w0⟩,turn⟩:=h2;subst e;have stat:∀{H':Hp},(∀b∈fp,H' b=none)->∀b∈fp,zm X pins H' b:=λhn b hb=>⟨hn b hb,(f2 b hb).2⟩;refine codeAny_forLoop_any (λn s'=>∃i σ' H',Inv X pins σ' H' s'/\tn i s'.heap/\(∀b∈fp,H' b=none)/\W i n σ' H') ?_ m0 ⟨0,σ,H2,I2,st2,λb hb=>(f2 b hb).1,w0⟩;rintro n s3 ⟨i,σ3,H3,I3,st3,fr3,w3⟩
 rcases turn i n σ3 H3 w3 with⟨stop,qn⟩|⟨go,N,hN,step⟩
 ·refine eZ hp<|nK (T.done X rfl rfl rfl hc i pins s3 σ3 H3 X.xe I3 (stat fr3) st3 stop) λr s4 ⟨hr,I4⟩=>?_;subst hr;exact iL ⟨σ3,H3,I4,qn⟩
 ·refine eZ hp<|nK (T.item X rfl rfl rfl hc i pins s3 σ3 H3 X.xe I3 (stat fr3) st3 go) λr s4 ⟨u,hr,h4⟩=>?_;subst hr;refine eZ hp<|nK h4 λ_ s5 ⟨x,H5,I5,r5,y5,st5,fr5⟩=>?_;have I5':=I5.pinned (stat fr5)<|T.obj _ _ st5;refine eZ hp<|nK (hg _ s5 σ3 H5 x u _ I5' r5<|step x H5 y5) λ_ s6 ⟨σ6,H6,I6,q6⟩=>?_;refine eZ hp<|nK (hb _ s6 σ6 H6 _ I6 q6) λf s7 q7=>?_;have again:∀{σ7:St} {H7:Hp},Inv X (pins++B9 fp s5.heap) σ7 H7 s7->N σ7 H7->∃m,m<n/\∃i σ' H',Inv X pins σ' H' s7/\tn i s7.heap/\(∀b∈fp,H' b=none)/\W i m σ' H':=λ{σ7 H7} I7 n7=>by
   obtain⟨m',hm,w7⟩:=hN σ7 H7 n7;refine⟨m',hm,i+1,σ7,H7,I7.vV,T.keep _ _ _ st5 λb hb o e=>(I7.pin (b,o)<|bU _<|bU _<|qU hb e).1,λb hb=>?_,w7⟩;obtain⟨o,e,d⟩:=T.obj _ _ st5 b hb;exact(I7.pin (b,o)<|bU _<|bU _<|qU hb e).2.1
  cases f with
  | next=>obtain⟨σ7,H7,I7,n7⟩:=q7;exact again I7 n7
  | cont=>obtain⟨σ7,H7,I7,n7⟩:=q7;exact again I7 n7
  | brk=>obtain⟨σ7,H7,I7,q7⟩:=q7;exact⟨σ7,H7,I7.vV,q7⟩
  | ret v=>obtain⟨x7,σ7,H7,I7,r7,q7⟩:=q7;exact⟨x7,σ7,H7,I7.vV,r7,q7⟩
end
def Jy{K:au}{a:ak}{xs:List V}{g:TG}{tb:TS}{D:Ends}{H:Hp}(Pv:Nat->St->Hp->Prop)(h0:Pv 0 σ H)(hl:∀i σ H,i<=xs.length->Pv i σ H->nO K H a xs)
  (hs:∀i x σ H,xs[i]?=some x->Pv i σ H->g x σ H λσ2 H2=>tb { D with nx:=Pv<|i+1,ct:=Pv<|i+1,bk:=D.nx } σ2 H2) (hd:∀σ H,Pv xs.length σ H->D.nx σ H) :
  ∃W:Nat->Nat->St->Hp->Prop,(∃m,W 0 m σ H)/\∀i m σ H,W i m σ H ->
   ((Zg K a).stop i H/\D.nx σ H)\/((Zg K a).go i H/\∃N:St->Hp->Prop,(∀σ' H',N σ' H'->∃m',m'<m/\W (i+1) m' σ' H')/\∀x H',(Zg K a).yld i H x H'->g x σ H' λσ2 H2=>tb { D with nx:=N,ct:=N,bk:=D.nx } σ2 H2):=by
 refine⟨λi m σ H=>m=xs.length-i/\i<=xs.length/\Pv i σ H,⟨xs.length,by simp,bP _,h0⟩,?_⟩;rintro i m σ H ⟨rfl,hi,p⟩;have q:=hl i σ H hi p;by_cases hlt:i<xs.length
 ·refine .inr ⟨⟨xs,xs[i],q,by simp[hlt]⟩,Pv<|i+1,λσ' H' p'=>⟨xs.length-(i+1),(),rfl,hlt,p'⟩,λx H' y=>?_⟩;obtain⟨e,y⟩:=y;subst e;exact hs i x σ _ (y xs q) p
 ·have e:i=xs.length:=()
  subst e;exact .inl ⟨⟨xs,q,aO _⟩,hd σ H p⟩
def vf{c:TT}{tb:TS}{D:Ends}{H:Hp}(Pv:St->Hp->Prop)(μ:St->Hp->Nat)(h0:Pv σ H)
  (hs:∀σ H,Pv σ H->c σ H λb H1=>if b=true then tb { D with nx:=λσ' H'=>Pv σ' H'/\μ σ' H'<μ σ H,ct:=λσ' H'=>Pv σ' H'/\μ σ' H'<μ σ H,bk:=D.nx } σ H1 else D.nx σ H1)
  (mono:∀σ H Q Q',(∀b H1,Q b H1->Q' b H1)->c σ H Q->c σ H Q'):Se c tb D σ H:=by
 refine⟨λm σ H=>m=μ σ H/\Pv σ H,⟨_,rfl,h0⟩,?_⟩;rintro m σ H ⟨rfl,p⟩;refine mono σ H _ _ (λb H1 q=>?_) (hs σ H p)
 cases b with
 | true=>exact⟨_,λσ' H' ⟨p',l⟩=>⟨_,l,rfl,p'⟩,q⟩
 | false=>exact q
meta abbrev R2:=V->V->Hp->VK->Prop
abbrev pV (X:Cx)(f:af->af->Sem af)(r:R2):Prop:=
 ∀(pins:bo) (s:aA) (σ:St) (H:Hp) (x y:V) (v u:af) (Q:VK),Inv X pins σ H s->RelV x v->RelV y u->r x y H Q ->
  wpAny (model X.prog X.w) X.A (f v u) (EP X pins σ Q) X.xe s
abbrev UnR (X:Cx)(f:af->Sem af)(r:V->Hp->VK->Prop):Prop:=
 ∀(pins:bo) (s:aA) (σ:St) (H:Hp) (x:V) (v:af) (Q:VK),Inv X pins σ H s->RelV x v->r x H Q ->
  wpAny (model X.prog X.w) X.A (f v) (EP X pins σ Q) X.xe s
abbrev kF (X:Cx)(f:af)(r:List V->Hp->VK->Prop):Prop:=
 ∀(pins:bo) (s:aA) (σ:St) (H:Hp) (xs:List V) (us:ba) (Q:VK),Inv X pins σ H s->Vals xs us->r xs H Q ->
  wpAny (model X.prog X.w) X.A (call f us) (EP X pins σ Q) X.xe s
abbrev ab7 (X:Cx)(r:V->Hp->(Bool->Hp->Prop)->Prop):Prop:=
 ∀(pins:bo) (s:aA) (σ:St) (H:Hp) (x:V) (v:af) (Q:Bool->Hp->Prop),Inv X pins σ H s->RelV x v->r x H Q ->
  wpAny (model X.prog X.w) X.A (truthy v) (TP X pins σ Q) X.xe s
abbrev tOp (r:R2)(ta tb:TE):TE:=λσ H Q=>ta σ H λx H1=>tb σ H1 λy H2=>r x y H2 Q
abbrev tUn (r:V->Hp->VK->Prop)(ta:TE):TE:=λσ H Q=>ta σ H λx H1=>r x H1 Q
abbrev rI (C:Int->Int->Prop)(g:Int->Int->V):R2:=λx y H Q=>∃i j,x=.int i/\y=.int j/\C i j/\Q (g i j) H
abbrev VQ (g:Int->Int->V):R2:=λx y H Q=>∃i j,x=.int i/\y=.int j/\Q (g i j) H
abbrev rU (g:Int->V):V->Hp->VK->Prop:=λx H Q=>∃i,x=.int i/\Q (g i) H
section
variable {X:Cx}{a b:aC}{ta tb:TE}{pos:Pos}
def Xk(ha:PE X a ta)(hb:PE X b tb){H:Hp}{R:V->V->Hp->Prop}(I:Inv X pins σ H s)
  (h:ta σ H λx H1=>tb σ H1 λy H2=>R x y H2) {Q:af->aA->Prop} {f:af->af->Sem af}
  (hf:∀v u s2 x y H2,Inv X pins σ H2 s2->RelV x v->RelV y u->R x y H2->wpAny (model X.prog X.w) X.A (f v u) Q X.xe s2) :
  wpAny (model X.prog X.w) X.A (eval a X.env) (λv s₁=>wpAny (model X.prog X.w) X.A (eval b X.env) (λu s₂=>wpAny (model X.prog X.w) X.A (f v u) Q X.xe s₂) X.xe s₁) X.xe s:=by
 refine nK (ha pins s σ H _ I h) λv s1 ⟨x,H1,I1,r1,q1⟩=>?_;refine nK (hb pins s1 σ H1 _ I1 q1) λu s2 ⟨y,H2,I2,r2,q2⟩=>?_;exact hf v u s2 x y H2 I2 r1 r2 q2
def Zt{r:R2}(ho:pV X (binaryOp op) r)(ha:PE X a ta)(hb:PE X b tb):PE X (.BinOp a op b pos) (tOp r ta tb):=by
 k_ne;exact wpAny_BinOp<|Xk ha hb I h λv u s2 x y H2 I2 rx ry q=>ho pins s2 σ H2 x y v u Q I2 rx ry q
def aaQ{r:V->Hp->VK->Prop}(ho:UnR X (unaryOp op) r)(ha:PE X a ta):PE X (.UnaryOp op a pos) (tUn r ta):=by
 k_ne;exact UnaryOp_<|nK (ha pins s σ H _ I h) λv s1 ⟨x,H1,I1,r1,q1⟩=>ho pins s1 σ H1 x v Q I1 r1 q1
def opI{f:af->af->Sem af}{C:Int->Int->Prop}{g:Int->Int->Int}
  (rule:∀(i j:Int) (t u:Tok) (s:aA) (Q:af->aA->Prop) (E:af->aA->Prop),C i j->Q (.int (g i j) s.toks) { s with toks:=s.toks+1 }->wpAny (model X.prog X.w) X.A (f (.int i t)<|.int j u) Q E s) :
  pV X f (rI C λi j=>.int<|g i j):=by
 kcf_m;obtain⟨i,j,rfl,rfl,hc,q⟩:=h;kl_no;obtain⟨t',rfl⟩:=ry;exact rule i j t t' s _ _ hc ⟨.int<|g i j,H,I.tok _,⟨_,rfl⟩,q⟩
def ZC{f:af->af->Sem af}{g:Int->Int->Int}
  (rule:∀(i j:Int) (t u:Tok) (s:aA) (Q:af->aA->Prop) (E:af->aA->Prop),Q (.int (g i j) s.toks) { s with toks:=s.toks+1 }->wpAny (model X.prog X.w) X.A (f (.int i t)<|.int j u) Q E s) :
  pV X f (VQ λi j=>.int<|g i j):=by
 kcf_m;obtain⟨i,j,rfl,rfl,q⟩:=h;kl_no;obtain⟨t',rfl⟩:=ry;exact rule i j t t' s _ _ ⟨.int<|g i j,H,I.tok _,⟨_,rfl⟩,q⟩
def UA{f:af->af->Sem af}{g:Int->Int->Bool}
  (rule:∀(i j:Int) (t u:Tok) (s:aA) (Q:af->aA->Prop) (E:af->aA->Prop),Q (.bool<|g i j) s->wpAny (model X.prog X.w) X.A (f (.int i t)<|.int j u) Q E s) :
  pV X f (VQ λi j=>.bl<|g i j):=by
 kcf_m;obtain⟨i,j,rfl,rfl,q⟩:=h;kl_no;obtain⟨t',rfl⟩:=ry;exact rule i j t t' s _ _ ⟨.bl<|g i j,H,I,rfl,q⟩
abbrev abF (i j:Int):Prop:=0<=j/\j<=1000000/\i.natAbs<2 ^ 64
abbrev Uu (i j:Int):Prop:=(-(2 ^ 64)<i/\i<2 ^ 64)\/(-(2 ^ 64)<j/\j<2 ^ 64)
def Uu.ok{i j:Int}(h:Uu i j):IntMulOk i j:=by
 rcases h with⟨h1,h2⟩|⟨h1,h2⟩
 ·exact .of_left (intBits_le_64 h1 h2)
 ·exact .of_right<|intBits_le_64 h1 h2
def XM:pV X (binaryOp .Add) (VQ λi j=>.int<|i+j):=ZC λ_ _ _ _ _ _ _ q=>add_int q
def YR:pV X (binaryOp .Sub) (VQ λi j=>.int<|i-j):=ZC λ_ _ _ _ _ _ _ q=>sub_int q
def W4:pV X (binaryOp .Mult) (rI Uu λi j=>.int<|i * j):=opI λ_ _ _ _ _ _ _ hc q=>mul_int q hc.ok
def Xx:pV X (binaryOp .Mod) (rI (λ_ j=>0<j) λi j=>.int<|i % j):=opI λi j _ _ _ _ _ hc q=>by
 have h1:(0:Int)<j:=hc;exact mod_int' ()<|by rw[Int.fmod_eq_emod_of_nonneg i ()];exact q
def W6:pV X (binaryOp .Pow) (rI abF λi j=>.int<|i ^ j.toNat):=opI λ_ _ _ _ _ _ _ hc q=>pow_int_small hc.1 hc.2.1 hc.2.2 q
def unI{f:af->Sem af}{g:Int->Int}
  (rule:∀(i:Int) (t:Tok) (s:aA) (Q:af->aA->Prop) (E:af->aA->Prop),Q (.int (g i) s.toks) { s with toks:=s.toks+1 }->wpAny (model X.prog X.w) X.A (f<|.int i t) Q E s) :
  UnR X f (rU λi=>.int<|g i):=by
 intro pins s σ H x v Q I rx h;obtain⟨i,rfl,q⟩:=h;kl_no;exact rule i t s _ _ ⟨.int<|g i,H,I.tok _,⟨_,rfl⟩,q⟩
def XX:UnR X (unaryOp .USub) (rU λi=>.int<|-i):=unI λ_ _ _ _ _ q=>neg_int q
end
section
variable {X:Cx}{a b c:aC}{ta tb tc:TE}{pos:Pos}
def Z7:pV X (compareOp .Lt) (VQ λi j=>.bl<|decide<|i<j):=UA λ_ _ _ _ _ _ _ q=>lt_int q
def Z4:pV X (compareOp .LtE) (VQ λi j=>.bl<|decide<|i<=j):=UA λ_ _ _ _ _ _ _ q=>le_int q
def ZV:pV X (compareOp .Gt) (VQ λi j=>.bl<|decide<|j<i):=UA λ_ _ _ _ _ _ _ q=>gt_int q
def ZH:pV X (compareOp .GtE) (VQ λi j=>.bl<|decide<|j<=i):=UA λ_ _ _ _ _ _ _ q=>ge_int q
def PV(b:aC)(h:op≠.In:=by decide)(h2:op≠.NotIn:=by decide):behindInMarks op b=false:=by
 have e1:(op == CmpOp.In)=false:=by cases op<;>first|rfl|exact absurd rfl h
 have e2:(op == CmpOp.NotIn)=false:=by cases op<;>first|rfl|exact absurd rfl h2
 cases b<;>simp[behindInMarks,e1,e2]
def US{op:CmpOp}{r:R2}(ho:pV X (compareOp op) r)(ha:PE X a ta)(hb:PE X b tb)(hm:behindInMarks op b=false):PE X (.Compare a [op] [b] pos) (tOp r ta tb):=by
 k_ne;exact wpAny_Compare1 (Xk ha hb I h λv u s2 x y H2 I2 rx ry q=>ho pins s2 σ H2 x y v u Q I2 rx ry q) hm
abbrev aaZ (t:TE):TT:=λσ H Q=>t σ H λx H'=>∃k,x=.bl k/\Q k H'
def Tp{op:CmpOp}{r:R2}(ho:pV X (compareOp op) r)(ha:PE X a ta)(hb:PE X b tb)(hm:behindInMarks op b=false):PT X (.Compare a [op] [b] pos) (aaZ<|tOp r ta tb):=by
 k_ne;refine wpAny_isTrue_Compare1 (nK (ha pins s σ H _ I h) λv s1 ⟨x,H1,I1,r1,q1⟩=>nK (hb pins s1 σ H1 _ I1 q1) λu s2 ⟨y,H2,I2,r2,q2⟩=>
  nK (ho pins s2 σ H2 x y v u _ I2 r1 r2 q2) λc s3 ⟨z,H3,I3,r3,k,e,q3⟩=>?_) hm
 subst e
 cases r3
 exact eg ⟨H3,I3,q3⟩
abbrev P8 (r r':R2)(ta tb tc:TE):TE:=λσ H Q=>ta σ H λx H1=>tb σ H1 λy H2=>r x y H2 λz H3=>∃k,z=.bl k /\
 (if k=true then tc σ H3 λw' H4=>r' y w' H4 Q else Q (.bl false) H3)
def OG{r r':R2}(ho:pV X (compareOp op) r)(ho':pV X (compareOp op') r')(ha:PE X a ta)(hb:PE X b tb)(hc:PE X c tc)
  (hm:lastMarks [op,op'] [b,c]=false:=by with_unfolding_all rfl):PE X (.Compare a [op,op'] [b,c] pos) (P8 r r' ta tb tc):=by
 k_ne;refine Compare_chain (nK (ha pins s σ H _ I h) λv s1 ⟨x,H1,I1,r1,q1⟩=>chain_link (nK (hb pins s1 σ H1 _ I1 q1) λu s2 ⟨y,H2,I2,r2,q2⟩=>
  nK (ho pins s2 σ H2 x y v u _ I2 r1 r2 q2) λd s3 ⟨z,H3,I3,r3,k,e,q3⟩=>?_)) hm
 subst e
 cases r3
 refine eg ?_
 cases k with
 | false=>exact ite_ff ⟨.bl false,H3,I3,rfl,q3⟩
 | true=>exact ite_tt<|chain_last<|nK (hc pins s3 σ H3 _ I3 q3) λw' s4 ⟨z',H4,I4,r4,q4⟩=>ho' pins s4 σ H4 y z' u w' Q I4 r2 r4 q4
abbrev WQ (K:au)(x:V)(H:Hp)(k:Bool):Prop:=
 match x with
 | .non=>k=false
 | .bl b=>k=b
 | .int i=>k=(i != 0)
 | .str y=>y.length<=sizeLine/\k=((y.length:Int) != 0)
 | .byt y=>y.size<=sizeLine/\k=((y.size:Int) != 0)
 | .ref p=>(∃xs,nJ K H p xs/\k=!xs.isEmpty)\/(∃xs,nO K H p xs/\k=!xs.isEmpty)\/∃kvs,H p=some (.dK kvs)/\k=!kvs.isEmpty
 | _=>False
def IF{κ:Type}{kvs:List<|κ×V}{vs:List<|κ×af}(r:KV kvs vs):(!vs.isEmpty)=!kvs.isEmpty:=by
 cases r<;>rfl
def BV{xs:List V}{its:ba}(r:Vals xs its):(!its.toArray.isEmpty)=!xs.isEmpty:=by
 cases r<;>simp
def zC:(sizeLine:Nat)<2 ^ 63:=by rw[dw];decide
def WD:ab7 X (λx H Q=>∃k,WQ X.K x H k/\Q k H):=by
 intro pins s σ H x v Q I rx h;obtain⟨k,e,q⟩:=h;have hl:=zC;have hs:sizeLine=16777216:=dw
 cases x with
 | non=>
  cases rx
  have e':k=false:=e;subst e';exact truthy_none ⟨H,I,q⟩
 | bl b=>
  cases rx
  have e':k=b:=e;subst e';exact eg ⟨H,I,q⟩
 | int i=>
  kl_no;have e':k=(i != 0):=e;subst e';exact PySem.P.truthy_int ⟨H,I,q⟩
 | str y=>
  kl_no;obtain⟨hy,e'⟩:y.length<=sizeLine/\k=((y.length:Int) != 0):=e;subst e';exact PySem.P.truthy_str () ⟨H,I.tok _,q⟩
 | byt y=>
  kl_no;obtain⟨hy,e'⟩:y.size<=sizeLine/\k=((y.size:Int) != 0):=e;subst e';exact PySem.W.truthy_bytes () ⟨H,I.tok _,q⟩
 | ref p=>
  cases rx
  have e':(∃xs,nJ X.K H p xs/\k=!xs.isEmpty)\/(∃xs,nO X.K H p xs/\k=!xs.isEmpty)\/∃kvs,H p=some (.dK kvs)/\k=!kvs.isEmpty:=e
  rcases e' with⟨xs,hx,e'⟩|⟨xs,hx,e'⟩|⟨kvs,hx,e'⟩
  ·subst e';obtain⟨its,r,pl,hz⟩:=I.list hx;have hlen:=r.length;exact wpAny_truthy_list pl.isList (by dsimp[aX];lia) ⟨H,I.tok _,by rw[BV r];exact q⟩
  ·subst e';obtain⟨its,r,pl,hz⟩:=I.tuple hx;have hlen:=r.length;exact truthy_tuple pl (by dsimp[aX];lia) ⟨H,I.tok _,by rw[BV r];exact q⟩
  ·subst e';obtain⟨hz,hS,vs,r,m⟩:kvs.length<=sizeLine/\(p == sysModules)=false/\∃vs,KV kvs vs/\s.heap.DictOf (kN X.prog X.w) p vs:=I.hok p _ hx;have hlen:kvs.length=vs.length:=jc r;exact wpAny_truthy_dict hS m () ⟨H,I.tok _,by rw[IF r];exact q⟩
 | _=>exact(show False from e).elim
def OY(ha:PE X a ta)(he:∀whole,isTrue a X.env whole=(do let v <- whole;standAt a.pos;holding [v] (truthy v))) :
  PT X a (λσ H Q=>ta σ H λx H'=>∃k,WQ X.K x H' k/\Q k H'):=by
 k_ne;exact isTrue_plain (nK (ha pins s σ H _ I h) λv s1 ⟨x,H1,I1,r1,q1⟩=>WD pins s1 σ H1 x v Q I1 r1 q1)<|he _
def Jh:pV X (binaryOp .Add) (λx y H Q=>∃i j,x=.str i/\y=.str j/\i.length+j.length<=sizeLine/\Q (.str<|i++j) H):=by
 kcf_m;obtain⟨i,j,rfl,rfl,hz,q⟩:=h;kl_no;obtain⟨t',rfl⟩:=ry;exact add_str (λt' tk=>⟨.str<|i++j,H,I.tok _,⟨_,rfl⟩,q⟩) hz
def vals1{x:V}(r:Vals [x] us):∃u,us=[u]/\RelV x u:=by
 cases r with
 | cons r1 r2=>cases r2;exact⟨_,rfl,r1⟩
def vals2{x:V}(r:Vals [x,y] us):∃u w',us=[u,w']/\RelV x u/\RelV y w':=by
 cases r with
 | cons r1 r2=>
  cases r2 with
  | cons r3 r4=>cases r4;exact⟨_,_,rfl,r1,r3⟩
def MI(hc:X.calm=true):kF X (.builtin "max") (λxs H Q=>∃i j,xs=[.int i,.int j]/\Q (.int<|if j>i then j else i) H):=by
 w_up;obtain⟨i,j,rfl,q⟩:=h;obtain⟨u,w',rfl,⟨t,rfl⟩,⟨t',rfl⟩⟩:=vals2 r;refine max_two_ints (I.ok.hd hc) λh' tk k=>⟨_,H,I.kept k,?_,q⟩;by_cases hj:j>i
 ·rw[aL hj,aL hj];exact⟨_,rfl⟩
 ·rw[aJ hj,aJ hj];exact⟨_,rfl⟩
def M0(hc:X.calm=true):kF X (.builtin "min") (λxs H Q=>∃i j,xs=[.int i,.int j]/\Q (.int<|if j<i then j else i) H):=by
 w_up;obtain⟨i,j,rfl,q⟩:=h;obtain⟨u,w',rfl,⟨t,rfl⟩,⟨t',rfl⟩⟩:=vals2 r;refine min_two_ints (I.ok.hd hc) λh' tk k=>⟨_,H,I.kept k,?_,q⟩;by_cases hj:j<i
 ·rw[aL hj,aL hj];exact⟨_,rfl⟩
 ·rw[aJ hj,aJ hj];exact⟨_,rfl⟩
def C7:kF X (.type "int") (λxs H Q=>(∃i,xs=[.int i]/\Q (.int i) H)\/∃k,xs=[.bl k]/\Q (.int<|if k then 1 else 0) H):=by
 w_up
 rcases h with⟨i,rfl,q⟩|⟨k,rfl,q⟩
 ·obtain⟨u,rfl,t,rfl⟩:=vals1 r;exact call_int_int ⟨.int i,H,I,⟨_,rfl⟩,q⟩
 ·obtain⟨u,rfl,r1⟩:=vals1 r
  cases r1
  exact call_int_bool ⟨.int<|if k then 1 else 0,H,I.tok _,⟨_,rfl⟩,q⟩
abbrev acA (K:au)(x:V)(H:Hp)(n:Nat):Prop:=
 match x with
 | .str y=>y.length<=sizeLine/\n=y.length
 | .byt y=>y.size<=sizeLine/\n=y.size
 | .ref p=>(∃xs,nJ K H p xs/\n=xs.length)\/∃xs,nO K H p xs/\n=xs.length
 | _=>False
def RP:kF X (.builtin "len") (λxs H Q=>∃x n,xs=[x]/\acA X.K x H n/\Q (.int n) H):=by
 w_up;obtain⟨x,n,rfl,e,q⟩:=h;kj_on;have hl:=zC;have hs:sizeLine=16777216:=dw
 cases x with
 | str y=>
  kl_no;obtain⟨hy,e'⟩:y.length<=sizeLine/\n=y.length:=e;subst e';exact len_str () ⟨.int _,H,I.tok _,⟨_,rfl⟩,q⟩
 | byt y=>
  kl_no;obtain⟨hy,e'⟩:y.size<=sizeLine/\n=y.size:=e;subst e';exact PySem.W.len_bytes () ⟨.int _,H,I.tok _,⟨_,rfl⟩,q⟩
 | ref p=>
  cases rx
  have e':(∃xs,nJ X.K H p xs/\n=xs.length)\/∃xs,nO X.K H p xs/\n=xs.length:=e
  rcases e' with⟨xs,hx,e'⟩|⟨xs,hx,e'⟩
  ·subst e';obtain⟨its,r',pl,hz⟩:=I.list hx;have hlen:=r'.length;exact Calls.call_len_list pl.isList (by dsimp[aX];lia) ⟨.int xs.length,H,I.tok _,⟨_,by dsimp[aX];rw[hlen]⟩,q⟩
  ·subst e';obtain⟨its,r',pl,hz⟩:=I.tuple hx;have hlen:=r'.length;exact len_tuple pl (by dsimp[aX];lia) ⟨.int xs.length,H,I.tok _,⟨_,by dsimp[aX];rw[hlen]⟩,q⟩
 | _=>exact(show False from e).elim
end
structure ObjM (h:aq)(x dx C:ak)(mA:Str->bd):Prop where
 obj:h.get? x=some (PySem.W.instObj C dx)
 ns:h.Ns1 dx mA
 ne:dx≠x
def MJ{h:aq}{mA:Str->bd}(n:h.Ns1 dx mA):∃od,h.get? dx=some od/\∀name,PySem.W.lookIn name od=some (mA name):=by
 obtain⟨o,es,ep,ho,hd,hk,_,hm⟩:=n;refine⟨o,ho,λname=>?_⟩;have e:=hm name;unfold nsFind findBy at e;rw[<- Array.find?_toList]at e;unfold PySem.W.lookIn;rw[hd];dsimp only;split
 ·rename_i y q;rw[q]at e;exact dO some e
 ·rename_i q;rw[q]at e;have a:es.toList.any (·.refKey)=false:=by
   rw[List.any_eq_false];intro y hy;obtain⟨z,t,hkey⟩:=hk y<|Array.mem_toList_iff.mp hy;simp[DictEntry.refKey,hkey]
  have a':¬es.toList.any (·.refKey)=true:=by rw[a];exact bM
  rw[aJ a'];exact dO some e
def ObjM.look{x:ak}{mA:Str->bd}(I:ObjM h x dx C mA):∃od,PySem.W.InstAt h x (PySem.W.instObj C dx) C (some od)/\∀name,PySem.W.lookIn name od=some (mA name):=
 let⟨od,ho,hl⟩:=MJ I.ns
 ⟨od,⟨I.obj,rfl,rfl,ho⟩,hl⟩
def zx.some_of{v:V}(r:zx (some v) o):∃u,o=some u/\RelV v u:=by
 cases o with
 | none=>exact(show False from r).elim
 | some u=>exact⟨u,rfl,r⟩
section
variable {P:aj}{w:ah}{H:Hp}{h:aq}{a C dx:ak}{fs:List (Str×V)}
def TZ(hok:xK P w H h)(e:H a=some (.ins C dx fs)):∃mA,ObjM h a dx C mA/\(∀f,zx (fs.lookup f)<|mA f)/\PySem.Within mA (fs.map (·.1))/\fs.length<=1000/\H dx=some (.own a):=by
 obtain⟨d,z,ne,ob,mA,n,r,q⟩:=(show mj P w H h a (.ins C dx fs)from hok a _ e);exact⟨mA,⟨ob,n,ne⟩,r,q,z,d⟩
end
structure Cls (K:au)(C:ak):Prop where
 pg:PySem.W.plainGet K C Str.empty=true
 hd:PySem.W.hasDictIn K C=true
 po:PySem.W.plainOver K C=true
 sa:PySem.W.findIn K (.ref C) "__setattr__" = some (some<|.builtin "object.__setattr__")
def Cls.get{K:au}(c:Cls K C)(f:Str):PySem.W.plainGet K C f=true:=c.pg
structure Con (K:au)(C:ak)(f:Str)(v:V)(u:af):Prop where
 at_:PySem.W.findIn K (.ref C) f=some (some u)
 rel:RelV v u
 get:PySem.W.specialIn K u "__get__" = some none
 cp:PySem.W.copiedNames.contains f=false
structure Meth (K:au)(C:ak)(m:Str)(f:ak):Prop where
 at_:PySem.W.findIn K (.ref C) m=some (some<|.ref f)
 fn:PySem.W.isFn K (.ref f)=true
 kp:PySem.W.keepIn K (.ref f)=true
section
variable {X:Cx}{pins:bo}{σ:St}{H:Hp}{s:aA}{A:az}{E:af->aA->Prop}{Q:af->aA->Prop}{c:af}{b:Bool}
inductive TyOf (K:au) (H:Hp):V->af->Prop where
 | non:TyOf K H .non (.type "NoneType")
 | bl (x:Bool):TyOf K H (.bl x) (.type "bool")
 | int (i:Int):TyOf K H (.int i) (.type "int")
 | str (x:Str):TyOf K H (.str x) (.type "str")
 | flt (x:UInt64):TyOf K H (.flt x) (.type "float")
 | lst {a:ak} {xs:List V} (e:H a=some (.lst xs)):TyOf K H (.ref a) (.type "list")
 | frz {a:ak} {o:Obj} {xs:List V} (e:H a=some (.frz o<|.lst xs)):TyOf K H (.ref a) (.type "list")
 | tup {a:ak} {xs:List V} (e:H a=some (.tup xs)):TyOf K H (.ref a) (.type "tuple")
 | dK {a:ak} {kvs:List<|Key×V} (e:H a=some (.dK kvs)):TyOf K H (.ref a) (.type "dict")
 | dT {a:ak} {kvs:List<|List Key×V} (e:H a=some (.dT kvs)):TyOf K H (.ref a) (.type "dict")
 | ins {a C dx:ak} {fs:List<|Str×V} (e:H a=some (.ins C dx fs)) (cl:Cls K C) (ha:PySem.W.findIn K (.ref C) "__class__" = some (some<|.builtin "object.__class__"))
   (hn:PySem.W.specialIn K (.builtin "object.__class__") "__get__" = some (some<|.builtin "getset_descriptor.__get__")) (htk:PySem.W.takesIn K (.builtin "object.__class__")=some true)
   (hm:PySem.W.mroIn K C (.type "object")=some true):TyOf K H (.ref a)<|.ref C
def Mi{x:V}{t:af}(I:Inv X pins σ H s)(rx:RelV x u)(ty:TyOf X.K H x t)(e:PySem.W.kitOne X.K t c=some b)(h:∀tk,Q (.bool b) { s with toks:=tk }) :
  wpAny (model X.prog X.w) A (call (.builtin "isinstance") [u,c]) Q E s:=by
 cases ty with
 | non=>cases(show u=Value.none from rx);exact cY PySem.W.kitx_none I.Fj True.intro e (λz=>nomatch z) h
 | bl y=>cases(show u=Value.bool y from rx);exact cY PySem.W.kitx_bool I.Fj True.intro e (λz=>nomatch z) h
 | int i=>obtain⟨t,q⟩:=(show ∃t,u=Value.int i t from rx);cases q;exact cY PySem.W.kitx_int I.Fj True.intro e (λz=>nomatch z) h
 | str y=>obtain⟨t,q⟩:=(show ∃t,u=Value.str y t from rx);cases q;exact cY PySem.W.kitx_str I.Fj True.intro e (λz=>nomatch z) h
 | flt y=>obtain⟨t,q⟩:=(show ∃t,u=Value.float y t from rx);cases q;exact cY PySem.W.kitx_float I.Fj True.intro e (λz=>nomatch z) h
 | @lst a xs ea=>
  cases(show u=Value.ref a from rx)
  obtain⟨_,_,n,_,h1⟩:=(show mj X.prog X.w H s.heap a (.lst xs)from I.hok a _ ea);exact cY PySem.W.kitx_list I.Fj ⟨_,h1,rfl⟩ e (λz=>nomatch z) h
 | @frz a ob xs ea=>
  cases(show u=Value.ref a from rx)
  obtain⟨_,_,_,n,_,h1⟩:=(show mj X.prog X.w H s.heap a (.frz ob<|.lst xs)from I.hok a _ ea);exact cY PySem.W.kitx_list I.Fj ⟨_,h1,rfl⟩ e (λz=>nomatch z) h
 | @tup a xs ea=>
  cases(show u=Value.ref a from rx)
  obtain⟨_,_,_,p⟩:=(show mj X.prog X.w H s.heap a (.tup xs)from I.hok a _ ea);obtain⟨o,h1,h2,_⟩:=p;exact cY PySem.W.kitx_tuple I.Fj ⟨o,h1,h2⟩ e (λz=>nomatch z) h
 | @dK a kvs ea=>
  cases(show u=Value.ref a from rx)
  obtain⟨_,_,vs,_,p⟩:=(show mj X.prog X.w H s.heap a (.dK kvs)from I.hok a _ ea);obtain⟨o,es,ep,h1,h2,_⟩:=p;exact cY PySem.W.kitx_dict I.Fj ⟨o,h1,h2.1⟩ e (λz=>nomatch z) h
 | @dT a kvs ea=>
  cases(show u=Value.ref a from rx)
  obtain⟨_,_,xs,_,o,es,ep,h1,h2,_⟩:=(show mj X.prog X.w H s.heap a (.dT kvs)from I.hok a _ ea);exact cY PySem.W.kitx_dict I.Fj ⟨o,h1,h2.1⟩ e (λz=>nomatch z) h
 | @ins a C dx fs ea cl ha hn htk hm=>
  cases(show u=Value.ref a from rx)
  obtain⟨mA,O,_⟩:=TZ I.hok ea;obtain⟨od,J,_⟩:=O.look;exact cY (PySem.W.kitx_own (cl.get _) cl.hd ha hn htk hm) I.Fj J e (λz=>nomatch z) h
end
structure Room (k:Nat)(A:az):Prop where
 hd:A.handled=none
 dp:A.depth+3 * k+5<recursionLimit
 un:A.units+16 * k+200<cLine
def Room.mono{k:Nat}{A:az}(r:Room k A)(h:j<=k):Room j A:=⟨r.hd,by have:=r.dp;lia,by have:=r.un;lia⟩
def Room.deeper{k:Nat}{A:az}(r:Room (k+1) A)(env:Env):Room k (A.deeper env):=
 ⟨r.hd,by have:=r.dp;show A.depth+1+3 * k+5<_;lia,by have:=r.un;show A.units+3+16 * k+200<_;lia⟩
def Room.depth{k:Nat}{A:az}(r:Room k A):A.depth<recursionLimit:=by have:=r.dp;lia
def Room.units{k:Nat}{A:az}(r:Room k A):A.units+64<cLine:=by have:=r.un;lia
abbrev ab0:TA:=λ_ H Q=>Q [] H
abbrev aaV (ta:TE)(tr:TA):TA:=λσ H Q=>ta σ H λx H1=>tr σ H1 λxs H2=>Q (x::xs) H2
section
variable {X:Cx}{e:aC}{es:List aC}{te:TE}{t:TA}{pos:Pos}
def vc:PA X [] ab0:=λ_ _ _ _ H Q I h=>Calls.spliced_nil ⟨[],H,I,.nil,h⟩
def n6(ha:PE X e te)(hr:PA X es t)(hs:starEach (e::es) X.env=(false,eval e X.env)::starEach es X.env:=by rfl):PA X (e::es) (aaV te t):=by
 intro pos pins s σ H Q I h;rw[hs]
 skip
 refine Calls.spliced_cons<|nK (ha pins s σ H _ I h) λu s1 ⟨x,H1,I1,r1,q1⟩=>?_;exact nK (hr pos pins s1 σ H1 _ I1 q1) λus s2 ⟨xs,H2,I2,r2,q2⟩=>⟨x::xs,H2,I2,.cons r1 r2,q2⟩
abbrev acd (t:TA):TE:=λσ H Q=>t σ H λxs H1=>xs.length<=sizeLine/\∀p,H1 p=none->Q (.ref p) (upd H1 p<|.tup xs)
abbrev acv (t:TA):TE:=λσ H Q=>t σ H λxs H1=>xs.length<=sizeLine/\∀p,H1 p=none->Q (.ref p) (upd H1 p<|.lst xs)
def YY{x1}(h:PA X es t):PE X (.Tuple es x1 pos) (acd t):=by
 intro pins s σ H Q I hq;refine wpAny_Tuple_spliced (nK (h pos pins s σ H _ I hq) λus s1 ⟨xs,H1,I1,r,z,q⟩=>⟨by rw[<- r.length];exact z,?_⟩);have hf:H1 s1.heap.objs.size=none:=I1.hok.fresh<|aO _;refine⟨.ref s1.heap.objs.size,upd H1 s1.heap.objs.size<|.tup xs,I1.laid (t':=s1.toks) (λb u e=>aQ _ e) (aO _) ?_,rfl,q _ hf⟩;exact⟨z,us,r,⟨_,bq _ rfl,rfl,rfl,_,rfl⟩⟩
def Yn(h:PA X es t):PE X (.List es pos) (acv t):=by
 intro pins s σ H Q I hq;refine wpAny_List_spliced (nK (h pos pins s σ H _ I hq) λus s1 ⟨xs,H1,I1,r,z,q⟩=>⟨by rw[<- r.length];exact z,?_⟩);have hf:H1 s1.heap.objs.size=none:=I1.hok.fresh<|aO _;refine⟨.ref s1.heap.objs.size,upd H1 s1.heap.objs.size<|.lst xs,I1.laid (t':=s1.toks) (λb u e=>aQ _ e) (aO _) ?_,rfl,q _ hf⟩;exact⟨z,us,0,r,bq _ rfl⟩
end
meta abbrev Sp:=List V->Hp->VK->XK->Prop
meta abbrev Si:=List Env->Hp->aA->XK->af->aA->Prop
structure Env0 (P:aj)(w:ah)(K:au)(mg:Str->bd)(base:aq)(A:az)(outer:List Env)(s:aA)(H:Hp):Prop where
 frames:A.frames=some outer
 mod:Mod K mg base
 bs:∀b o,base.get? b=some o->s.heap.get? b=some o/\H b=none
 bsz:base.objs.size<=s.heap.objs.size
 Bc:s.heap.FunFrames base outer
 frf:∀b∈frs outer,H b=none
 hok:xK P w H s.heap
 bare:AllBare s.gens
abbrev CE (outer:List Env)(P:aj)(w:ah)(H:Hp)(s:aA)(Q:VK)(u:af)(s':aA):Prop:=
 ∃v H',s'.os=s.os/\AllBare s'.gens/\Un (frs outer) [] H H' s.heap s'.heap/\xK P w H' s'.heap/\RelV v u/\Q v H'
abbrev CR (CX:Si)(outer:List Env)(P:aj)(w:ah)(H:Hp)(s:aA)(Q:VK)(E:XK)(r:Result)(s':aA):Prop:=
 match r with
 | .ok (.ret u)=>CE outer P w H s Q u s'
 | .ok _=>False
 | .error e=>CX outer H s E e s'
structure FnOk (P:aj)(w:ah)(K:au)(mg:Str->bd)(base:aq)(CX:Si)(k:Nat)(f:ak)(fd:FuncData)(ps:ar)(sp:Sp):Prop where
 len:∀vs H Q E,sp vs H Q E->vs.length=ps.length
 run:∀(A:az) (outer:List Env) (s:aA) (H:Hp) (args:Args) (us:ba) (vs:List V) (Q:VK) (E:XK),Room k A->Env0 P w K mg base A outer s H->BindsTo s fd args (ps.zip us)->Vals vs us->sp vs H Q E ->
  codeAny (model P w) A (.call (.ref f) args) (CR CX outer P w H s Q E) s
section
variable {X:Cx}{pins:bo}{σ:St}{H:Hp}{s s':aA}
def Inv.abz(I:Inv X pins σ H s):Env0 X.prog X.w X.K X.mg X.base X.A X.stack s H:=
 ⟨I.ok.frames,I.ok.mod,I.bs,bB I.ok.bsz I.sz,I.stack,I.LS,I.hok,I.bare⟩
def Inv.after{Q:VK}(I:Inv X pins σ H s)(h:CE X.stack X.prog X.w H s Q u s'):EP X pins σ Q u s':=by
 obtain⟨v,H',os,bare,un,hok,r,q⟩:=h;obtain⟨hh,g,d,t,os'⟩:=s';obtain rfl:os'=s.os:=os;exact⟨v,H',I.call (h':=hh) (g':=g) (d':=d) (t':=t) (ch:=[]) un hok bare λb z=>absurd z<|by simp,r,q⟩
end
abbrev VT (sp:Sp)(dvs:List V)(E:XK)(t:TA):TE:=λσ H Q=>t σ H λvs H1=>sp (vs++dvs) H1 Q E
abbrev Binds (K:au)(fd:FuncData)(ps:ar)(ds:ba):Prop:=
 ∀(s:aA) (us:ba),K.In s.heap->(us++ds).length=ps.length->BindsTo s fd ⟨us,[]⟩ (ps.zip<|us++ds)
def Binds.all{K:au}{ps:ar}(h:∀us:ba,us.length=ps.length->bindArgs fd ⟨us,[]⟩=pure (ps.zip us)):Binds K fd ps []:=λs us _ hl=>by
 rw[cG]at hl ⊢;exact .of_eq<|h us hl
abbrev Passes (CX:Si)(X:Cx)(E:XK):Prop:=∀(pins:bo) (σ:St) (H:Hp) (s:aA) (e:af) (s':aA),Inv X pins σ H s->CX X.stack H s E e s'->X.xe e s'
section
variable {X:Cx}{CX:Si}{k:Nat}{f C:ak}{fd:FuncData}{ps:ar}{sp:Sp}{dvs:List V}{ds:ba}{E:XK}{x:Str}{p pos:Pos}{e:aC}{es:List aC}{t:TA}
def YC{H:Hp}{Q:VK}(F:FnOk X.prog X.w X.K X.mg X.base CX k f fd ps sp)(hr:Room k X.A)(hb:Binds X.K fd ps ds)(hd:Vals dvs ds)(hx:Passes CX X E)
  (I:Inv X pins σ H s) (r:Vals vs us) (h:sp (vs++dvs) H Q E):wpAny (model X.prog X.w) X.A (call (.ref f) us) (EP X pins σ Q) X.xe s:=by
 have r2:Vals (vs++dvs) (us++ds):=r.append hd;have hl:(us++ds).length=ps.length:=by rw[<- r2.length];exact F.len _ _ _ _ h
 refine wpAny_call (iT (F.run X.A X.stack s H ⟨us,[]⟩ (us++ds) (vs++dvs) Q E hr I.abz (hb s us I.Fj hl) r2 h) λr s' hq=>?_)
 cases r with
 | error e=>exact hx pins σ H s e s' I hq
 | ok fl=>
  cases fl with
  | ret u=>exact I.after hq
  | next=>exact False.elim hq
  | brk=>exact False.elim hq
  | cont=>exact False.elim hq
def Vg(F:FnOk X.prog X.w X.K X.mg X.base CX k f fd ps sp)(hr:Room k X.A)(hg:Gl X x)(hm:X.mg x=some (.ref f))(hk:PySem.W.keepIn X.K (.ref f)=true)(hb:Binds X.K fd ps ds)(hd:Vals dvs ds)(hx:Passes CX X E)
  (ha:PA X (e::es) t) (hdb:(x == ("__debug__" : Str))=false:=by decide) (he:starEach (e::es) X.env=(false,eval e X.env)::starEach es X.env:=by rfl) (hpl:(backTo pos<|starEach es X.env).any (·.1)=false:=by rfl) :
  PE X (.Call (.Name x p) (e::es) [] pos) (VT sp dvs E t):=by
 k_ne;refine iV<|JH I hg hm ?_ hdb;refine PySem.W.callWith_K (h₀:=X.base) I.ok.mod.kin hk (nK (ha pos pins s σ H _ I h) λus s1 ⟨vs,H1,I1,r,q⟩=>⟨I1.Fj,?_⟩) he hpl;exact YC F hr hb hd hx I1 r q
structure Mk (K:au)(C f:ak):Prop where
 makes:PySem.W.makesIn K C=true
 init:PySem.W.findIn K (.ref C) "__init__" = some (some<|.ref f)
 fn:PySem.W.isFn K (.ref f)=true
 kp:PySem.W.keepIn K (.ref C)=true
end
section
variable {fd:FuncData}{ps ks:ar}
structure KBinds (K:au)(fd:FuncData)(ps ks:ar)(g:ba->ba->ba)(gV:List V->List V->List V):Prop where
 to:∀(s:aA) (us ws:ba),K.In s.heap->(g us ws).length=ps.length->BindsTo s fd ⟨us,ks.zip ws⟩ (ps.zip<|g us ws)
 rel:∀{vs:List V} {us:ba} {zs:List V} {ws:ba},Vals vs us->Vals zs ws->Vals (gV vs zs) (g us ws)
end
structure FnScope (N P:ar)(sc:Scope):Prop where
 kind:sc.kind=.function
 co:sc.isCoroutine=false
 gen:sc.isGenerator=false
 nd:N.Nodup
 pre:N.take P.length=P
 par:∀x∈P,sc.names.lookup x=some .local\/sc.names.lookup x=some .cell
 nofree:∀y∈sc.names,y.2≠.free
theorem Dt{kindOf:Str->Option NameKind}{x:Str}:∀{binds:List<|Str×af}{m:Str->bd},(∀v,(x,v)∉binds)->bindL kindOf binds m x=m x
 | [],_,_=>rfl
 | (n,v)::r,m,h=>by
  unfold bindL;rw[Dt λw hw=>h w<|aN _ hw];split
  ·have:x≠n:=by rintro rfl;exact h v aM
   simp[this]
  ·rfl
theorem DF{kindOf:Str->Option NameKind}{x:Str}:∀{binds:List<|Str×af}{m:Str->bd},(∀v,(x,v)∉binds)->bindC kindOf binds m x=m x
 | [],_,_=>rfl
 | (n,v)::r,m,h=>by
  unfold bindC;rw[DF λw hw=>h w<|aN _ hw];split
  ·rfl
  ·have:x≠n:=by rintro rfl;exact h v aM
   simp[this]
theorem DH{kindOf:Str->Option NameKind}{x:Str}{v:af}:∀{P:ar}{vs:ba}{i:Nat}{m:Str->bd},P.Nodup->P[i]?=some x->vs[i]?=some v->kindOf x=some .local ->
  bindL kindOf (P.zip vs) m x=some v
 | [],_,_,_,_,h,_,_=>by simp at h
 | _::_,[],_,_,_,_,h,_=>by simp at h
 | p::P,w::vs,0,m,nd,h1,h2,hk=>by
  simp at h1 h2;subst h1;subst h2;show bindL kindOf ((p,w)::P.zip vs) m p=_;unfold bindL;rw[Dt λv hv=>(dg.mp nd).1 (jx hv).1,aL hk];simp
 | p::P,w::vs,i+1,m,nd,h1,h2,hk=>by
  skip
  unfold bindL;exact DH (i:=i) (dg.mp nd).2 (by simpa using h1) (by simpa using h2) hk
theorem DE{kindOf:Str->Option NameKind}{x:Str}{v:af}:∀{P:ar}{vs:ba}{i:Nat}{m:Str->bd},P.Nodup->P[i]?=some x->vs[i]?=some v->kindOf x≠some .local ->
  bindC kindOf (P.zip vs) m x=some v
 | [],_,_,_,_,h,_,_=>by simp at h
 | _::_,[],_,_,_,_,h,_=>by simp at h
 | p::P,w::vs,0,m,nd,h1,h2,hk=>by
  simp at h1 h2;subst h1;subst h2;show bindC kindOf ((p,w)::P.zip vs) m p=_;unfold bindC;rw[DF λv hv=>(dg.mp nd).1 (jx hv).1,aJ hk];simp
 | p::P,w::vs,i+1,m,nd,h1,h2,hk=>by
  skip
  unfold bindC;exact DE (i:=i) (dg.mp nd).2 (by simpa using h1) (by simpa using h2) hk
abbrev start (N:ar)(vs:List V):St:=vs.map some++List.replicate (N.length-vs.length) none
abbrev HZ (CX:Si)(P:aj)(w:ah)(K:au)(mg:Str->bd)(base:aq)(N:ar)(qual:Str)(scope:Scope)(f:ak)(cd:af)(A:az)(outer:List Env)(s:aA)(H:Hp)(E:XK):Cx where
 prog:=P
 w:=w
 K:=K
 mg:=mg
 base:=base
 A:=A.deeper (envOfC qual scope s.heap.objs.size f cd)
 N:=N
 s₀:=s
 H₀:=H
 env:=envOfC qual scope s.heap.objs.size f cd
 outer:=outer
 stack:=envOfC qual scope s.heap.objs.size f cd::outer
 ex:=[]
 calm:=true
 fn:=λ_=>true
 pn:=[]
 xe:=λe s'=>wpAny (model P w) (A.deeper<|envOfC qual scope s.heap.objs.size f cd) (leaving (envOfC qual scope s.heap.objs.size f cd) e) (λ_ s''=>CX outer H s E e s'') (λe' s''=>CX outer H s E e' s'') s'
def Hg{sc:Scope}{n:Nat}{x:Str}(h:sc.names.lookup x=some .cell):∃c,(cellsFrom n sc.names []).lookup x=some c:=by
 have q:=PySem.W.cellsFrom_some sc.names n []<|.inl h;exact fB.mp q
def Mq{CX:Si}{P:aj}{w:ah}{K:au}{mg:Str->bd}{base:aq}{N ps:ar}{scope:Scope}{f:ak}{A:az}{outer:List Env}{s:aA}{H:Hp}{E:XK}{vs:List V}
  (S:FnScope N ps scope) (hd:A.handled=none) (e0:Env0 P w K mg base A outer s H) (hl:vs.length=ps.length) (r:Vals vs us)
  (x:InCallC s s.heap.objs.size (bindL (envOfC qual scope s.heap.objs.size f cd).kindOf (ps.zip us) λ_=>none) (cellsFrom (s.heap.objs.size+1) scope.names []) (bindC (envOfC qual scope s.heap.objs.size f cd).kindOf (ps.zip us) λ_=>none) s1) :
  Inv (HZ CX P w K mg base N qual scope f cd A outer s H E) [] (start N vs) H s1:=by
 have hpl:ps.length<=N.length:=by have:=dO List.length S.pre;rw[bI]at this;lia
 obtain⟨h1,tk,rfl,hk⟩:=x.done;have noA:∀b:ak,b∉(HZ CX P w K mg base N qual scope f cd A outer s H E).ex:=λb z=>absurd (show b∈([]:bb)from z) (by simp);refine⟨⟨e0.mod,S.kind,rfl,rfl,aO _,λy z c h1 h2=>?_,λy hy=>?_,λy c _ h=>?_,λ_=>hd,Around.frames_deeper e0.frames,.inr ⟨rfl,rfl⟩,λb z=>absurd z<|noA b,e0.bs,e0.bsz,λb _ _=>noA b,λb z=>absurd z<|noA b,e0.Bc,e0.frf⟩,
  rfl,e0.bare,Un.kept hk,⟨_,x.toInCall.ns,λi y v h1 h2 h3=>?_⟩,λy c h=>⟨_,x.cell y c h⟩,e0.hok.fresh<|aO _,λy c h=>?_,λp hp=>absurd (show p∈([]:bo)from hp)<|by simp,e0.hok.kept hk,?_⟩
 ·exact name_of_addr x.apart (fG h1) (fG h2)
 ·have hy:scope.names.lookup y=some .cell\/scope.names.lookup y=some .free:=hy
  rcases hy with hy|hy
  ·exact Hg hy
  ·exact absurd rfl<|S.nofree _<|fG hy
 ·exact jt (x.above y c<|fG h)
 ·have hi:i<vs.length:=by
   unfold start at h2;by_cases hi:i<vs.length
   ·exact hi
   ·rw[dP<|by simpa using hi]at h2;rw[List.getElem?_replicate]at h2;split at h2<;>cases h2
  have ha:vs[i]?=some v:=by
   unfold start at h2;rw[bG<|by simpa using hi,aV]at h2
   cases e:vs[i]? with
   | none=>rw[e]at h2;cases h2
   | some a=>rw[e]at h2;cases h2;rfl
  obtain⟨u,hu,rv⟩:=r.get ha;have hp:ps[i]?=some y:=by
   rw[<- S.pre,gB ()];exact h1
  have ndP:ps.Nodup:=by rw[<- S.pre];exact S.nd.sublist (List.take_sublist _ _)
  refine⟨u,rv,?_⟩
  rcases S.par y (aW hp)with k|k
  ·exact .inl ⟨k,DH ndP hp hu k⟩
  ·obtain⟨c,e⟩:=Hg (n:=s.heap.objs.size+1) k;refine .inr ⟨.inl k,c,e,?_⟩;have q:=x.cell y c e;rw[DE ndP hp hu<|by show scope.names.lookup y≠_;rw[k];decide]at q;exact q
 ·exact e0.hok.fresh (jt<|x.above y c<|fG h)
 ·unfold start;show _=N.length;rw[aS,aG,List.length_replicate]
  lia
def Z_{CX:Si}{P:aj}{w:ah}{K:au}{mg:Str->bd}{base:aq}{k:Nat}{f:ak}{kV pm ct:af}
  {osl:Array<|bd} {N ps:ar} {sp:Sp} (lk:K.lookup f=some ⟨oc,od,.func<|PySem.W.fnOf name qual params body scope dV kV doc pm an cdv ct,osl⟩) (hcd:PySem.W.codeIn K cdv qual=true) (S:FnScope N ps scope)
  (len:∀vs H Q E,sp vs H Q E->vs.length=ps.length)
  (hbody:∀(A:az) (outer:List Env) (s:aA) (H:Hp) (vs:List V) (Q:VK) (E:XK),Room k (A.deeper<|envOfC qual scope s.heap.objs.size f cdv)->sp vs H Q E ->
   ∃t,EG (HZ CX P w K mg base N qual scope f cdv A outer s H E) body t/\t { nx:=λ_ H'=>Q .non H',rt:=Q } (start N vs) H) :
  FnOk P w K mg base CX (k+1) f (PySem.W.fnOf name qual params body scope dV kV doc pm an cdv ct) ps sp:=by
 refine⟨len,λA outer s H args us vs Q E hr e0 hb r hsp=>?_⟩;have hl:=len _ _ _ _ hsp;have KX:K.In s.heap:=e0.mod.kin.keeps λb o e=>(e0.bs b o e).1;have lim:s.heap.NoLimit:=e0.mod.nolimit.keeps λb o e=>(e0.bs b o e).1;have hkind:∀y∈ps.zip us,scope.names.lookup y.1=some .local\/(scope.names.lookup y.1=some .cell/\((cellsFrom (s.heap.objs.size+1) scope.names []).lookup y.1).isSome=true):=λ⟨n,v⟩ hy=>by
  rcases S.par n (jx hy).1 with q|q
  ·exact .inl q
  ·exact .inr ⟨q,PySem.W.cellsFrom_some _ _ _<|.inl q⟩
 refine codeAny_call_function hr.depth (KX _ _ lk) rfl S.co S.gen rfl (PySem.W.codeRec_of KX hcd)<|hb _ _ _ _ ?_;refine wpAny_newFunctionEnv_cells S.kind hkind λenv he s1 x=>?_;subst he;refine⟨lim.keeps x.toInCall.keep,codeAny_func ?_⟩;obtain⟨t,ht,hq⟩:=hbody A outer s H vs Q E (hr.deeper _) hsp;have I:Inv (HZ CX P w K mg base N qual scope f cdv A outer s H E) [] (start N vs) H s1:=Mq S hr.hd e0 hl r x;refine iz (ht [] s1 (start N vs) H _ I hq) (λfl s' hs=>?_) λe s' hs=>hs;have fin:∀{σ':St} {H':Hp} {v:V} {u:af},Inv (HZ CX P w K mg base N qual scope f cdv A outer s H E) [] σ' H' s'->RelV v u->Q v H'->CE outer P w H s Q u s':=
  λ{σ' H' v u} J rv q=>⟨v,H',J.os,J.bare,J.base,J.hok,rv,q⟩
 cases fl with
 | ret u=>
  obtain⟨v,σ',H',J,rv,q⟩:=hs;exact fin J rv q
 | next=>
  obtain⟨σ',H',J,q⟩:=hs;exact fin (v:=V.non) (u:=Value.none) J rfl q
 | brk=>
  obtain⟨_,_,_,q⟩:=hs;exact False.elim q
 | cont=>
  obtain⟨_,_,_,q⟩:=hs;exact False.elim q
section
variable {X:Cx}{x:Str}{p pos:Pos}{e:aC}{es:List aC}{t:TA}{id T:String}{r:List V->Hp->VK->Prop}
abbrev tCB (r:List V->Hp->VK->Prop)(t:TA):TE:=λσ H Q=>t σ H λvs H1=>r vs H1 Q
def Ob(hc:kF X (.builtin id) r)(hg:Gl X x)(hm:X.mg x=none)(hv:bootBuiltins x=some (.builtin id))(ha:PA X (e::es) t)(hn:x ≠ "__name__" := by decide)(hdb:(x == ("__debug__" : Str))=false:=by decide)
  (he:starEach (e::es) X.env=(false,eval e X.env)::starEach es X.env:=by rfl) (hpl:(backTo pos<|starEach es X.env).any (·.1)=false:=by rfl):PE X (.Call (.Name x p) (e::es) [] pos) (tCB r t):=by
 k_ne;refine iV<|uZ I hg hm hv ?_ hn hdb;exact PyProof.Rows.callWith_builtin1 (nK (ha pos pins s σ H _ I h) λus s1 ⟨vs,H1,I1,r1,q1⟩=>hc pins s1 σ H1 vs us Q I1 r1 q1) he hpl
def zw(hc:kF X (.type T) r)(hg:Gl X x)(hm:X.mg x=none)(hv:bootBuiltins x=some (.type T))(ha:PA X (e::es) t)(hn:x ≠ "__name__" := by decide)(hdb:(x == ("__debug__" : Str))=false:=by decide)
  (he:starEach (e::es) X.env=(false,eval e X.env)::starEach es X.env:=by rfl) (hpl:(backTo pos<|starEach es X.env).any (·.1)=false:=by rfl):PE X (.Call (.Name x p) (e::es) [] pos) (tCB r t):=by
 k_ne;refine iV<|uZ I hg hm hv ?_ hn hdb;exact c8 (nK (ha pos pins s σ H _ I h) λus s1 ⟨vs,H1,I1,r1,q1⟩=>hc pins s1 σ H1 vs us Q I1 r1 q1) he hpl
end
end L2
namespace HT
open PySem PyProof.Rows
abbrev lexLt:ag->ag->Bool
 | [],[]=>false
 | [],_::_=>true
 | _::_,[]=>false
 | x::xs,y::ys=>if x=y then lexLt xs ys else decide (x<y)
def oF(x y:Int)(xs ys:ag):lexLt (x::xs) (y::ys)=if x=y then lexLt xs ys else decide (x<y):=rfl
def sH:lexLt [] []=false:=rfl
def o9(y:Int)(ys:ag):lexLt [] (y::ys)=true:=rfl
def rK(x:Int)(xs:ag):lexLt (x::xs) []=false:=rfl
section
variable {prog:aj}{w:ah}{A:az}{E:af->aA->Prop}{s:aA}
def Vh{t:ak}{vs ws:ba}{Q:af->aA->Prop}(ht:IsTup s.heap t vs.toArray)(hb:IsTup s.heap b ws.toArray)(hv:vs≠[])
  (h1:ws=[]->Q (.ref t) s) (h2:ws≠[]->Q (.ref s.heap.objs.size) { s with heap:=s.heap.push { cls:=.type "tuple",data:=.seq (vs++ws).toArray }})
  (hsz:vs.length+ws.length<=sizeLine):wpAny (model prog w) A (binaryOp .Add (.ref t)<|.ref b) Q E s:=by
 obtain⟨⟨cls,dd,data,sl⟩,ho,hc,n,hd⟩:=id ht;obtain⟨⟨cls2,dd2,data2,sl2⟩,ho2,hc2,n2,hd2⟩:=id hb;simp only at hc hd hc2 hd2;subst hc hd hc2 hd2;have e:vs.toArray++ws.toArray=(vs++ws).toArray:=by simp
 by_cases hw:ws=[]
 ·exact concat_meets ⟨_,ho,rfl⟩ ⟨_,ho2,rfl⟩ noFill_tuple_add seq_tuple_add gQ gO (gC _ _)
   (tuple_addW1 t b vs.toArray ws.toArray n n2 dd dd2 sl sl2 (by simpa using hv)<|by simp[hw]) ⟨ho,ho2,h1 hw⟩
 ·refine concat_meets ⟨_,ho,rfl⟩ ⟨_,ho2,rfl⟩ noFill_tuple_add seq_tuple_add gQ gO (gC _ _)
   (tuple_addW2 t b vs.toArray ws.toArray n n2 dd dd2 sl sl2 (by simpa using hv) (by simpa using hw)<|by rw[aX,aX];exact hsz) ⟨ho,ho2,?_⟩
  rw[e];exact h2 hw
abbrev mY (n d:Nat):bi->Nat
 | none=>d
 | some v=>if v<0 then(v+(n:Int)).toNat else min v.toNat n
def FN(n d:Nat):mY n d none=d:=rfl
def AU(n d k:Nat):mY n d (some (k:Int))=min k n:=by
 show(if (k:Int)<0 then((k:Int)+(n:Int)).toNat else min (k:Int).toNat n)=min k n;rw[aJ (),c9]
def WC(n d:Nat)(hd:d<=n)(o:bi):mY n d o<=n:=by
 cases o with
 | none=>exact hd
 | some v=>
  show(if v<0 then(v+(n:Int)).toNat else min v.toNat n)<=n;by_cases hv:v<0
  ·rw[aL hv];lia
  ·rw[aJ hv];exact Nat.min_le_right _ _
def LM(v:Int)(n d:Nat):(if v<0 then max (v+(n:Int)) 0 else min v (n:Int))=((mY n d (some v):Nat):Int):=by
 show(if v<0 then max (v+(n:Int)) 0 else min v (n:Int))=(((if v<0 then(v+(n:Int)).toNat else min v.toNat n):Nat):Int);by_cases hv:v<0
 ·dsimp[aL hv];lia
 ·dsimp[aJ hv];lia
def HA(lo hi:bi)(n:Nat):Builtin.Slice.sliceAdjust lo hi 1 (n:Int)=(((mY n 0 lo:Nat):Int),((mY n n hi:Nat):Int)):=by
 have h1:¬((1:Int)<0):=()
 unfold Builtin.Slice.sliceAdjust;dsimp[h1,cj];refine Prod.ext ?_ ?_
 ·cases lo with
  | none=>rfl
  | some v=>exact LM v n 0
 ·cases hi with
  | none=>rfl
  | some v=>exact LM v n n
def IC(i j:Nat):Builtin.Slice.slicePlaces (i:Int) (j:Int) 1=j-i:=by
 unfold Builtin.Slice.slicePlaces;have h1:(1:Int)>0:=()
 dsimp[h1,c_,Int.ediv_one];split<;>lia
def Cm{v:af}{Q:bi->aA->Prop}(p:IsPart v o)(h:Q o s):wpAny (model prog w) A (Builtin.Slice.slicePartIndex v) Q E s:=by
 cases p with
 | none=>exact slicePart_none h
 | int i t=>exact slicePart_int h
def tF{lo:bi}{n:Nat}{Q:Int×Int×Nat->aA->Prop}(hs:s.heap.IsSliceOf sl vl vu .none)(pl:IsPart vl lo)(pu:IsPart vu hi)
  (h:Q (((mY n 0 lo:Nat):Int),1,mY n n hi-mY n 0 lo) s):wpAny (model prog w) A (Builtin.Slice.sliceApplied (.ref sl)<|pure (n:Int)) Q E s:=by
 obtain⟨os,hos,hcs,hds⟩:=id hs;unfold Builtin.Slice.sliceApplied Builtin.Slice.sliceFields;refine aH<|aH<|fh hos hds (x:=vl) rfl<|aH<|fh hos hds (x:=vu) rfl<|aH<|fh hos hds (x:=.none) rfl<|aR ?_;refine aH (slicePart_none ?_)
 skip
 rw[aJ ⋯];refine aH<|Cm pl<|aH<|Cm pu<|aH<|aR ?_;show wpAny _ _ (match Builtin.Slice.sliceAdjust lo hi 1 (n:Int)with|(lo,hi)=>pure (lo,(1:Int),Builtin.Slice.slicePlaces lo hi 1)) _ _ s;rw[HA lo hi n];show wpAny _ _ (pure (((mY n 0 lo:Nat):Int),(1:Int),Builtin.Slice.slicePlaces ((mY n 0 lo:Nat):Int) ((mY n n hi:Nat):Int) 1)) _ _ s;rw[IC];exact aR h
def Oz(xs:Array af)(i k:Nat):((List.range k).filterMap λ(m:Nat)=>xs[((i:Int)+(m:Int) * 1).toNat]?).toArray=((xs.toList.drop i).take k).toArray:=by
 have e:(λ(m:Nat)=>xs[((i:Int)+(m:Int) * 1).toNat]?)=λm=>xs[i+m]?:=by
  funext m
  have:((i:Int)+(m:Int) * 1).toNat=i+m:=()
  rw[this]
 rw[e];have:=pick_run xs i k;rw[List.filterMap_map]at this;have e2:((λx=>xs[x]?) ∘ λx=>i+x)=λm=>xs[i+m]?:=rfl;rw[e2]at this;rw[this]
def yg{t:ak}{items:Array af}{lo:bi}{Q:af->aA->Prop}(ht:IsTup s.heap t items)(hs:s.heap.IsSliceOf sl vl vu .none)(pl:IsPart vl lo)(pu:IsPart vu hi)
  (hw:¬(mY items.size 0 lo=0/\mY items.size items.size hi=items.size))
  (h:Q (.ref s.heap.objs.size) { s with heap:=s.heap.push { cls:=.type "tuple",data:=.seq ((items.toList.drop<|mY items.size 0 lo).take<|mY items.size items.size hi-mY items.size 0 lo).toArray }})
  (hsz:items.size<=sizeLine):wpAny (model prog w) A (getItem (.ref t)<|.ref sl) Q E s:=by
 have htake:sizeOk (.seq ((items.toList.drop<|mY items.size 0 lo).take<|mY items.size items.size hi-mY items.size 0 lo).toArray):=by
  show((items.toList.drop<|mY items.size 0 lo).take<|mY items.size items.size hi-mY items.size 0 lo).toArray.size<=sizeLine;rw[aX,bI,cT,dR];omega
 have hj:mY items.size items.size hi<=items.size:=WC _ _ (aO _) hi;obtain⟨os,hos,hcs,hds⟩:=id hs;have hTs:s.TypeIs (.ref sl) "slice" := ⟨os,hos,hcs⟩;unfold getItem
 try with_reducible refine dF ?_
 first|refine aH (aR ?_)|skip
 refine aH<|wpAny_sequenceKey ht.typeIs ⋯ ?_;refine aH (cU (name:=Str.ofString "__getitem__") ht.typeIs cL
  (cH cL ht.typeIs entry_tuple_getitem ?_<|args_tuple_getitem _ _))
 show wpAny _ _ (Builtin.Tuple.tupleItemsOf (.ref t) >>= _) _ _ s;refine aH<|tupleItemsOf_ ht ?_;refine aH<|fS hTs ?_;rw[aL ⋯];refine aH<|tF hs pl pu ?_;have hno:¬((((mY items.size 0 lo:Nat):Int) == 0 && (1:Int) == 1 && (mY items.size items.size hi-mY items.size 0 lo) == items.size)=true):=by
  intro q;rw[fM,fM]at q;have q1:((mY items.size 0 lo:Nat):Int)=0:=eq_of_beq q.1.1;have q2:mY items.size items.size hi-mY items.size 0 lo=items.size:=eq_of_beq q.2;exact hw ⟨by omega,by omega⟩
 show wpAny _ _ (if (((mY items.size 0 lo:Nat):Int) == 0 && (1:Int) == 1 && (mY items.size items.size hi-mY items.size 0 lo) == items.size)=true then _ else _) _ _ s;rw[aJ hno,Oz]
 first
  | exact aH (m:=Builtin.Tuple.tupleExact _) (b9 (aR ⟨_,rfl,aR h⟩) htake)
  | exact aH (m:=Builtin.Tuple.tupleExact _) (b9 (aH<|aR<|aR ⟨_,rfl,aR h⟩) htake)
  | exact aH (aH (m:=Builtin.Tuple.tupleExact _)<|b9 (aR<|aR ⟨_,rfl,aR h⟩) htake)
  | exact aH<|aH (m:=Builtin.Tuple.tupleExact _)<|b9 (aR ⟨_,rfl,aR h⟩) htake
end
end HT
namespace L2
open PySem PySem.Spec PyProof.Rows
meta abbrev TO:=St->Hp->(bi->Hp->Prop)->Prop
abbrev PO (X:Cx)(e:Option aC)(t:TO):Prop:=
 ∀(pins:bo) (s:aA) (σ:St) (H:Hp) (Q:bi->Hp->Prop),Inv X pins σ H s->t σ H Q ->
  wpAny (model X.prog X.w) X.A (evalPart e X.env) (λu s'=>∃o H',Inv X pins σ H' s'/\IsPart u o/\Q o H') X.xe s
abbrev Vp:TO:=λ_ H Q=>Q none H
abbrev aac (t:TE):TO:=λσ H Q=>t σ H λx H1=>∃i,x=.int i/\Q (some i) H1
def intsAre_of{ns:ag}:∀{us:ba},Vals (ns.map V.int) us->IntsAre us ns:=by
 induction ns with
 | nil=>intro us r;rw[gR]at r;cases r;exact .nil
 | cons n ns ih=>
  intro us r;rw[bJ]at r
  cases r with
  | cons r1 r2=>
   obtain⟨t,e⟩:=r1;subst e;exact .cons n t<|ih r2
section
variable {X:Cx}{e:aC}{te:TE}{lo hi:Option aC}{tl th:TO}{pos p2:Pos}
def UL:PO X none Vp:=by
 k_ne;rw[evalPart_none];exact aR ⟨none,H,I,.none,h⟩
def TQ(h:PE X e te):PO X (some e) (aac te):=by
 intro pins s σ H Q I hw;rw[evalPart_some];refine nK (h pins s σ H _ I hw) λu s1 ⟨x,H1,I1,r1,q1⟩=>?_;obtain⟨i,rfl,q⟩:=q1;obtain⟨t,rfl⟩:=r1;exact⟨some i,H1,I1,.int i t,q⟩
abbrev Zj (X:Cx)(r:V->bi->bi->Hp->VK->Prop):Prop:=
 ∀(pins:bo) (s:aA) (σ:St) (H:Hp) (x:V) (v vl vu:af) (lo hi:bi) (sl:ak) (Q:VK),Inv X pins σ H s->RelV x v->s.heap.IsSliceOf sl vl vu .none->IsPart vl lo->IsPart vu hi->r x lo hi H Q ->
  ∃T id,typeLookup (.type T) "__getitem__" = pure (some<|.builtin id)/\s.TypeIs v T/\wpAny (model X.prog X.w) X.A (getItem v<|.ref sl) (EP X pins σ Q) X.xe s
abbrev tSl (r:V->bi->bi->Hp->VK->Prop)(te:TE)(tl th:TO):TE:=λσ H Q=>te σ H λx H1=>tl σ H1 λl H2=>th σ H2 λu H3=>r x l u H3 Q
def G9{r:V->bi->bi->Hp->VK->Prop}(hr:Zj X r)(he:PE X e te)(hl:PO X lo tl)(hu:PO X hi th):PE X (.Subscript e (.Slice lo hi none p2) pos) (tSl r te tl th):=by
 k_ne;refine Subscript_<|nK (he pins s σ H _ I h) λv s1 ⟨x,H1,I1,r1,q1⟩=>?_;refine wpAny_Slice<|nK (hl pins s1 σ H1 _ I1 q1) λvl s2 ⟨l,H2,I2,pl,q2⟩=>nK (hu pins s2 σ H2 _ I2 q2) λvu s3 ⟨u,H3,I3,pu,q3⟩=>?_;rw[evalPart_none];refine aR ?_;have I4:Inv X pins σ H3 { s3 with heap:=s3.heap.push { cls:=.type "slice",data:=.fields #[vl,vu,.none]}}:=I3.kept (t':=s3.toks) λb ob q=>aQ _ q;obtain⟨T,id,hT,ht,hg⟩:=hr pins { s3 with heap:=s3.heap.push { cls:=.type "slice",data:=.fields #[vl,vu,.none]}} σ H3 x v vl vu l u s3.heap.objs.size Q I4 r1 (Heap.IsSliceOf.new ..) pl pu q3
 skip
 exact tail_any (ops:=[.ref s3.heap.objs.size,v]) ht hT hg<|by with_unfolding_all rfl
abbrev Gw (xs:List V)(lo hi:bi):List V:=(xs.drop<|HT.mY xs.length 0 lo).take<|HT.mY xs.length xs.length hi-HT.mY xs.length 0 lo
def zW(xs:List V)(lo hi:bi):(Gw xs lo hi).length<=xs.length:=by
 unfold Gw;rw[bI,cT]
 lia
abbrev abV (K:au):V->bi->bi->Hp->VK->Prop:=λx lo hi H Q=>∃a xs,x=.ref a/\nO K H a xs /\
 ¬(HT.mY xs.length 0 lo=0/\HT.mY xs.length xs.length hi=xs.length)/\∀p,H p=none->Q (.ref p) (upd H p<|.tup<|Gw xs lo hi)
def Nv:Zj X (abV X.K):=by
 intro pins s σ H x v vl vu lo hi sl Q I rx hs pl pu h;obtain⟨a,xs,rfl,hx,hw,q⟩:=h
 cases rx
 obtain⟨its,r,ht,hz⟩:=I.tuple hx;have hlen:its.toArray.size=xs.length:=by rw[aX];exact r.length.symm
 refine⟨"tuple",_,cL.lookup,ht.typeIs,?_⟩;refine HT.yg ht hs pl pu (by rw[hlen];exact hw) ?_ (by rw[hlen];exact hz);rw[hlen];refine⟨.ref s.heap.objs.size,_,I.laid (t':=s.toks) (o:=.tup<|Gw xs lo hi) (λb ob q=>aQ _ q) (aO _) ?_,rfl,q _<|I.hok.fresh<|aO _⟩;exact⟨bB (zW xs lo hi) hz,_,(r.drop<|HT.mY xs.length 0 lo).take<|HT.mY xs.length xs.length hi-HT.mY xs.length 0 lo,pN.new _ _⟩
abbrev ZY (K:au):R2:=λx y H Q=>∃a b xs ys,x=.ref a/\y=.ref b/\nO K H a xs/\nO K H b ys/\xs≠[]/\xs.length+ys.length<=sizeLine /\
 (ys=[]->Q (.ref a) H)/\(ys≠[]->∀p,H p=none->Q (.ref p) (upd H p<|.tup<|xs++ys))
def Vals.DK(r:Vals xs us):us=[] ↔ xs=[]:=by
 cases r with
 | nil=>simp
 | cons _ _=>simp
def UH:pV X (binaryOp .Add) (ZY X.K):=by
 kcf_m;obtain⟨a,b,xs,ys,rfl,rfl,ha,hb,hx,hz,q1,q2⟩:=h
 cases rx
 cases ry
 obtain⟨its,r1,p1,_⟩:=I.tuple ha;obtain⟨its2,r2,p2,_⟩:=I.tuple hb;refine HT.Vh p1 p2 (λz=>hx<|r1.DK.mp z) (λz=>⟨.ref a,H,I,rfl,q1<|r2.DK.mp z⟩) (λz=>?_) (by rw[<- r1.length,<- r2.length];exact hz);refine⟨.ref s.heap.objs.size,_,I.laid (t':=s.toks) (o:=.tup<|xs++ys) (λb ob q=>aQ _ q) (aO _) ?_,rfl,q2 (λw=>z<|r2.DK.mpr w) _<|I.hok.fresh<|aO _⟩;exact⟨by rw[aS];exact hz,_,r1.append r2,pN.new _ _⟩
end
abbrev DJ (n:Nat)(i:Int):bn:=if 0<=i then(if i<n then some i.toNat else none)else if -(n:Int)<=i then some (i+n).toNat else none
abbrev rW {α:Type}(xs:List α)(i:Int):Option α:=(DJ xs.length i).bind λj=>xs[j]?
def K4{n:Nat}{i:Int}(h:DJ n i=some j):seqIndex? i n=some j/\j<n/\-(n:Int)<=i/\i<n:=by
 unfold DJ at h;by_cases h0:0<=i
 ·rw[aL h0]at h;by_cases h1:i<n
  ·rw[aL h1]at h;have e:i.toNat=j:=bh h;exact⟨by rw[seqIndex_of h0 h1,e],(),(),h1⟩
  ·rw[aJ h1]at h;cases h
 ·rw[aJ h0]at h;by_cases h1:-(n:Int)<=i
  ·rw[aL h1]at h;have e:(i+n).toNat=j:=bh h;exact⟨by rw[seqIndex_neg () h1,e],(),h1,()⟩
  ·rw[aJ h1]at h;cases h
def Fd{α:Type}{xs:List α}{i:Int}{v:α}(h:rW xs i=some v):∃j,seqIndex? i xs.length=some j/\xs[j]?=some v/\j<xs.length/\-(xs.length:Int)<=i/\i<xs.length:=by
 unfold rW at h
 cases e:DJ xs.length i with
 | none=>rw[e]at h;cases h
 | some j=>
  rw[e]at h;obtain⟨h1,h2,h3,h4⟩:=K4 e;exact⟨j,h1,h,h2,h3,h4⟩
def Tu{α:Type}{xs:List α}{j:Nat}{v:α}(h:xs[j]?=some v):rW xs (j:Int)=some v:=by
 have hj:j<xs.length:=(aK.mp h).1;have e:DJ xs.length (j:Int)=some j:=by
  unfold DJ;rw[aL (),aL ()];simp
 unfold rW;rw[e];exact h
abbrev Ak (b:aC):Prop:=∀o i,subscripted b false o i=operate [o,i] (getItem o i)
abbrev Wk (X:Cx)(r:R2):Prop:=
 ∀(value slice:aC) (pins:bo) (s:aA) (σ:St) (H:Hp) (x y:V) (v u:af) (Q:VK),Inv X pins σ H s->RelV x v->RelV y u->r x y H Q ->
  subscripted slice false v u=operate [v,u] (getItem v u)->wpAny (model X.prog X.w) X.A (subscriptTail value slice v u) (EP X pins σ Q) X.xe s
abbrev UJ (X:Cx)(id:String)(r:V->List V->Hp->VK->Prop):Prop:=
 ∀(pins:bo) (s:aA) (σ:St) (H:Hp) (x:V) (xs:List V) (v:af) (us:ba) (Q:VK),Inv X pins σ H s->RelV x v->Vals xs us->r x xs H Q ->
  wpAny (model X.prog X.w) X.A (call (.builtin id) (v::us)) (EP X pins σ Q) X.xe s
section
variable {X:Cx}{a b:aC}{ta tb:TE}{pos:Pos}
def Pn{r:R2}(hr:Wk X r)(ha:PE X a ta)(hb:PE X b tb)(hs:Ak b):PE X (.Subscript a b pos) (tOp r ta tb):=by
 k_ne;exact Subscript_<|Xk ha hb I h λv u s2 x y H2 I2 rx ry q=>hr a b pins s2 σ H2 x y v u Q I2 rx ry q<|hs _ _
abbrev abm (K:au):R2:=λx y H Q=>∃p xs i v,x=.ref p/\y=.int i/\nJ K H p xs/\rW xs i=some v/\Q v H
abbrev ab_ (K:au):R2:=λx y H Q=>∃p xs i v,x=.ref p/\y=.int i/\nO K H p xs/\rW xs i=some v/\Q v H
abbrev acr:R2:=λx y H Q=>∃z i c,x=.str z/\y=.int i/\z.length<=sizeLine/\rW z.cps.toList i=some c/\Q (.str ⟨#[c]⟩) H
def LI:Wk X (abm X.K):=by
 f_are;obtain⟨p,xs,i,z,rfl,rfl,hq,he,q⟩:=h
 cases rx
 obtain⟨t,rfl⟩:=ry;obtain⟨its,r,pl,hz⟩:=I.list hq;obtain⟨j,h1,h2,h3,h4,h5⟩:=Fd he;obtain⟨w,ew,rw'⟩:=r.get h2;have hl:=r.length;have hn:=zC;have fin:EP X pins σ Q w s:=⟨z,H,I,rw',q⟩;by_cases h0:0<=i
 ·have hj:i.toNat=j:=by
   rw[seqIndex_of h0 h5]at h1;exact bh h1
  exact item_listR pl.isList h0 () (by rw[hj];simpa using ew) fin hs
 ·have hj:(i+(its.toArray.size:Int)).toNat=j:=by
   rw[seqIndex_neg () h4]at h1;rw[aX,<- hl];exact bh h1
  exact subscriptTail_builtinR (x:=w) pl.isList.typeIs slot_list_getitem.lookup
   (wpAny_getItem_list_neg (Q:=λr s'=>r=w/\EP X pins σ Q r s') pl.isList () (by rw[aX]<;>lia) () (by rw[hj];simpa using ew) ⟨rfl,fin⟩) hs
def Yq:Wk X (ab_ X.K):=by
 f_are;obtain⟨p,xs,i,z,rfl,rfl,hq,he,q⟩:=h
 cases rx
 obtain⟨t,rfl⟩:=ry;obtain⟨its,r,pl,hz⟩:=I.tuple hq;obtain⟨j,h1,h2,h3,h4,h5⟩:=Fd he;obtain⟨w,ew,rw'⟩:=r.get h2;have hl:=r.length;have hn:=zC;have fin:EP X pins σ Q w s:=⟨z,H,I,rw',q⟩;exact subscriptTail_builtinR (x:=w) pl.typeIs slot_tuple_getitem.lookup
  (getItem_tuple (j:=j) (Q:=λr s'=>r=w/\EP X pins σ Q r s') pl () () (by rw[aX,<- hl];exact h1) (by simpa using ew) ⟨rfl,fin⟩) hs
def YK:Wk X acr:=by
 f_are;obtain⟨z,i,c,rfl,rfl,hz,he,q⟩:=h;kl_no;obtain⟨t',rfl⟩:=ry;obtain⟨j,h1,h2,h3,h4,h5⟩:=Fd he;have hl:z.cps.toList.length=z.length:=by simp[Str.length]
 rw[hl]at h1 h4 h5;have hn:=zC;exact tail_any (typeIs_str s z t) slot_str_getitem.lookup (getItem_str (c:=c) (by
  have e1:decide (i < -(2 ^ 63:Int))=false:=bH ();have e2:decide (i>=2 ^ 63)=false:=bH ();rw[e1,e2,Bool.or_false]) (by rw[h1];simpa using h2) ⟨.str ⟨#[c]⟩,H,I.tok _,⟨_,rfl⟩,q⟩) hs
def IV(its:ba)(n j:Nat)(u:af):Obj.mapSeq (·.setIfInBounds j u) { cls:=.type "list",data:=.seq its.toArray n }={ cls:=.type "list",data:=.seq (its.set j u).toArray n }:=by
 simp[Obj.mapSeq]
def Inv.lst{H:Hp}{s:aA}{p:ak}{xs:List V}(I:Inv X pins σ H s)(h:H p=some (.lst xs)) :
  ∃(its:ba) (n:Nat),Vals xs its/\s.heap.get? p=some { cls:=.type "list",data:=.seq its.toArray n }/\xs.length<=sizeLine:=by
 obtain⟨z,its,n,r,e⟩:=I.hok p _ h;exact⟨its,n,r,e,z⟩
def Inv.WX{H:Hp}{s:aA}{p:ak}{ys:List V}{its its':ba}{n:Nat}{f:Obj->Obj}(I:Inv X pins σ H s)(h:H p=some (.lst xs))
  (ho:s.heap.get? p=some { cls:=.type "list",data:=.seq its.toArray n }) (hf:f { cls:=.type "list",data:=.seq its.toArray n }={ cls:=.type "list",data:=.seq its'.toArray n' }) (r:Vals ys its') (hz:ys.length<=sizeLine) (t:Nat) :
  Inv X pins σ (upd H p<|.lst ys) { s with heap:=s.heap.update p f,toks:=t }:=by
 have e:(s.heap.update p f).get? p=some { cls:=.type "list",data:=.seq its'.toArray n' }:=by
  rw[f6 f ho<|by rw[hf]<;>rfl,hf]
 refine I.write (x:=p) (e:=p) (by rw[h];trivial) (.inl rfl) (λb u hb q=>(Heap.get?_update_other _ _<|cO hb).trans q) ⟨_,e⟩ ?_;exact⟨hz,its',n',r,e⟩
abbrev aax:V->V->V->Hp->(Hp->Prop)->Prop:=λo i v H Q=>∃p xs k j,o=.ref p/\i=.int k/\H p=some (.lst xs)/\DJ xs.length k=some j/\Q (upd H p<|.lst<|xs.set j v)
def set_list:MS X aax:=by
 intro pins s σ H o i v ov iv u Q I ro ri rv h;obtain⟨p,xs,k,j,rfl,rfl,hp,hj,q⟩:=h
 cases ro
 obtain⟨t,rfl⟩:=ri;obtain⟨its,n,r,ho,hz⟩:=I.lst hp;obtain⟨h1,h2,h3,h4⟩:=K4 hj;have hl:=r.length;have hn:=zC;have I':Inv X pins σ (upd H p<|.lst<|xs.set j v) { s with heap:=s.heap.update p<|Obj.mapSeq (·.setIfInBounds j u)}:=
  I.WX hp ho (IV its n j u) (r.set rv j) (by rw[bZ];exact hz) s.toks
 by_cases h0:0<=k
 ·have hk:k.toNat=j:=by
   rw[seqIndex_of h0 h4]at h1;exact bh h1
  exact PySem.W.ki_setAt ho h0 () (by rw[aX,<- hl];exact h4)<|by rw[hk];exact⟨_,I',q⟩
 ·have hk:(k+(its.toArray.size:Int)).toNat=j:=by
   rw[seqIndex_neg () h3]at h1;rw[aX,<- hl];exact bh h1
  exact PySem.W.ki_setBack ho () (by rw[aX,<- hl];exact h3) ()<|by rw[hk];exact⟨_,I',q⟩
def D7(lo hi:bi)(n:Nat):(sliceBounds lo hi none n).1=((HT.mY n 0 lo:Nat):Int)/\(sliceBounds lo hi none n).2.1=((HT.mY n n hi:Nat):Int)/\(sliceBounds lo hi none n).2.2=1:=by
 refine⟨?_,?_,rfl⟩
 ·cases lo with
  | none=>simp[sliceBounds,HT.mY]
  | some i=>
   dsimp[sliceBounds,HT.mY,getD_none,show(1:Int)>0 by decide,c_];by_cases h:i<0
   ·dsimp[h,c_]<;>lia
   ·dsimp[h,cj]<;>lia
 ·cases hi with
  | none=>simp[sliceBounds,HT.mY]
  | some i=>
   dsimp[sliceBounds,HT.mY,getD_none,show(1:Int)>0 by decide,c_];by_cases h:i<0
   ·dsimp[h,c_]<;>lia
   ·dsimp[h,cj]<;>lia
def CC(its:ba)(lo hi:bi):slicePick its.toArray lo hi none=((its.drop<|HT.mY its.length 0 lo).take<|HT.mY its.length its.length hi-HT.mY its.length 0 lo).toArray:=by
 obtain⟨h1,h2,h3⟩:=D7 lo hi its.toArray.size;unfold slicePick;rw[h1,h2,h3];dsimp[sliceRange_one,pick_run,aX]<;>rfl
abbrev ab3 (K:au):V->bi->bi->Hp->VK->Prop:=λx lo hi H Q=>∃a xs,x=.ref a/\nJ K H a xs/\∀p,H p=none->Q (.ref p) (upd H p<|.lst<|Gw xs lo hi)
def Lu:Zj X (ab3 X.K):=by
 intro pins s σ H x v vl vu lo hi sl Q I rx hs pl pu h;obtain⟨a,xs,rfl,hx,q⟩:=h
 cases rx
 obtain⟨its,r,ht,hz⟩:=I.list hx;have hlen:=r.length;refine⟨"list",_,slot_list_getitem.lookup,ht.isList.typeIs,?_⟩;refine wpAny_getItem_list_slice ht.isList hs pl pu .none (by simp) ?_ (by rw[aX]<;>lia);rw[CC,<- hlen];refine⟨.ref s.heap.objs.size,_,I.laid (t':=s.toks) (o:=.lst<|Gw xs lo hi) (λb ob q=>aQ _ q) (aO _) ?_,rfl,q _<|I.hok.fresh<|aO _⟩;exact⟨bB (zW xs lo hi) hz,_,0,(r.drop<|HT.mY xs.length 0 lo).take<|HT.mY xs.length xs.length hi-HT.mY xs.length 0 lo,bq _ rfl⟩
def uD:kF X (.type "list") (λxs H Q=>∃p ys,xs=[.ref p]/\(nJ X.K H p ys\/nO X.K H p ys)/\∀l,H l=none->Q (.ref l) (upd H l<|.lst ys)):=by
 w_up;obtain⟨p,ys,rfl,hq,q⟩:=h;kj_on
 cases rx
 have fin:∀(its:ba),Vals ys its->ys.length<=sizeLine->∀(h':aq) (c':Nat),(∀b o',s.heap.get? b=some o'->h'.get? b=some o') ->
   h'.get? s.heap.objs.size=some { cls:=.type "list",dict:=none,data:=.seq its.toArray c',slots:=#[]}->EP X pins σ Q (.ref s.heap.objs.size) { s with heap:=h' }:=λits r' hz h' c' kp e=>
  ⟨.ref s.heap.objs.size,_,I.laid (t':=s.toks) kp (aO _)<|show mj X.prog X.w _ h' _ (.lst ys)from⟨hz,its,c',r',e⟩,rfl,q _<|I.hok.fresh<|aO _⟩
 rcases hq with hq|hq
 ·obtain⟨its,r',pl,hz⟩:=I.list hq;have hlen:=r'.length;obtain⟨o,ho,hc,n,hd⟩:=pl.isList;exact call_list_seq p (.inl rfl) ho hc hd (λh' c' kp e=>fin its r' hz h' c' kp e) (by dsimp[aX]<;>lia)
 ·obtain⟨its,r',pl,hz⟩:=I.tuple hq;have hlen:=r'.length;obtain⟨o,ho,hc,n,hd⟩:=pl;exact call_list_seq p (.inr rfl) ho hc hd (λh' c' kp e=>fin its r' hz h' c' kp e)<|by dsimp[aX]<;>lia
def sY:kF X (.type "tuple") (λxs H Q=>∃p ys,xs=[.ref p]/\((nJ X.K H p ys/\∀l,H l=none->Q (.ref l) (upd H l<|.tup ys))\/(nO X.K H p ys/\Q (.ref p) H))):=by
 w_up;obtain⟨p,ys,rfl,h⟩:=h;kj_on
 cases rx
 rcases h with⟨hq,q⟩|⟨hq,q⟩
 ·obtain⟨its,r',pl,hz⟩:=I.list hq;have hlen:=r'.length;refine call_tuple_list pl.isList (λh' kp=>?_) (by dsimp[aX]<;>lia);have I1:Inv X pins σ H { s with heap:=h' }:=I.kept (t':=s.toks) kp;have I2:Inv X pins σ (upd H h'.objs.size<|.tup ys) { s with heap:=h'.push { cls:=.type "tuple",data:=.seq its.toArray }}:=
   I1.laid (t':=s.toks) (λb o e=>aQ _ e) (aO _) (show mj X.prog X.w _ _ _ (.tup ys)from⟨hz,its,r',pN.new _ _⟩)
  exact⟨.ref h'.objs.size,_,I2,rfl,q _<|I1.hok.fresh<|aO _⟩
 ·obtain⟨its,r',pl,hz⟩:=I.tuple hq;exact call_tuple_same pl ⟨.ref p,H,I,rfl,q⟩
abbrev Zn (K:au)(T:String)(x:V)(H:Hp):Prop:=match x with
 | .str _=>T = "str"
 | .int _=>T = "int"
 | .ref p=>(T = "list" /\ ∃xs,nJ K H p xs)\/(T = "tuple" /\ ∃o,K.lookup p=some o/\o.cls=.type "tuple" /\ o.dict=none) \/
   (T = "dict" /\ ((∃kvs,H p=some (.dK kvs))\/∃kvs,H p=some (.dT kvs)))\/(T = "set" /\ ∃S n,H p=some (.set S n))
 | _=>False
def YN{H:Hp}{s:aA}{x:V}{v:af}(I:Inv X pins σ H s)(r:RelV x v)(ty:Zn X.K T x H) :
  s.TypeIs v T/\∀a,v=.ref a->∃ob,s.heap.get? a=some ob/\ob.dict=none:=by
 cases x with
 | str z=>
  obtain⟨t,rfl⟩:=r
  cases(show T = "str" from ty)
  exact⟨typeIs_str s z t,nofun⟩
 | int i=>
  obtain⟨t,rfl⟩:=r
  cases(show T = "int" from ty)
  exact⟨typeIs_int s i t,nofun⟩
 | ref p=>
  cases r
  rcases ty with⟨rfl,xs,hq⟩|⟨rfl,o,hk,hc,hd⟩|⟨rfl,hk⟩|⟨rfl,S,n,hk⟩
  ·obtain⟨its,_,pl,_⟩:=I.list hq;refine⟨pl.isList.typeIs,λa e=>?_⟩
   cases e
   obtain⟨o,n,e,c,hd,_⟩:=pl;exact⟨o,e,hd⟩
  ·refine⟨⟨o,I.Fj p o hk,hc⟩,λa e=>?_⟩
   cases e
   exact⟨o,I.Fj _ o hk,hd⟩
  ·have z:∃o,s.heap.get? p=some o/\o.ExactDict:=by
    rcases hk with⟨kvs,hk⟩|⟨kvs,hk⟩
    ·obtain⟨_,_,_,_,o,_,_,e,ex,_⟩:=I.hok p _ hk;exact⟨o,e,ex⟩
    ·obtain⟨_,_,_,_,o,_,_,e,ex,_⟩:=I.hok p _ hk;exact⟨o,e,ex⟩
   obtain⟨o,e,ex⟩:=z;refine⟨⟨o,e,ex.1⟩,λa e2=>?_⟩
   cases e2
   exact⟨o,e,ex.2.1⟩
  ·obtain⟨o,_,_,_,e,ex,_⟩:=I.hok p _ hk;refine⟨⟨o,e,ex.1⟩,λa e2=>?_⟩
   cases e2
   exact⟨o,e,ex.2.1⟩
 | _=>exact False.elim ty
abbrev tBM (K:au)(T:String)(r:V->List V->Hp->VK->Prop)(to:TE)(t:TA):TE:=λσ H Q=>to σ H λx H1=>Zn K T x H1/\t σ H1 λxs H2=>r x xs H2 Q
variable {o e:aC}{es:List aC}{to:TE}{t:TA}{name:Str}{apos cpos:Pos}{T id:String}{r:V->List V->Hp->VK->Prop}
def R0(pa:PlainAttrs T)(slot:Slot T name id)(hty:typeOf (.builtin id)=pure (.type "method_descriptor"))(hm:UJ X id r)(ho:PE X o to)(ha:PA X (e::es) t)
  (hbase:attributeBase o name X.env (eval o X.env)=eval o X.env:=by rfl)
  (hfew:((backTo cpos<|starEach (e::es) X.env).all (λx=>!x.1) && (backToKw cpos<|keywordEach [] X.env).all (λx=>x.1.isSome)
   && decide ((e::es).length+([]:List Keyword).length+(if ([]:List Keyword).isEmpty then 0 else 1)<30))=true:=by rfl)
  (hline:(apos.endLine == cpos.line)=true:=by rfl) (hs:starEach (e::es) X.env=(false,eval e X.env)::starEach es X.env:=by rfl) (hplain:(backTo cpos<|starEach es X.env).any (·.1)=false:=by rfl) :
  PE X (.Call (.Attribute o name apos) (e::es) [] cpos) (tBM X.K T r to t):=by
 k_ne;refine wpAny_Call_method_late hbase hfew hline rfl<|nK (ho pins s σ H _ I h) λv s1 ⟨x,H1,I1,r1,ty,q1⟩=>?_;obtain⟨h1,h2⟩:=YN I1 r1 ty;refine⟨T,id,pa,slot,hty,h1,h2,?_⟩;have hA:=ha cpos pins s1 σ H1 _ I1 q1;rw[hs]at hA ⊢;refine Calls.callWith_builtin (by show(false || (backTo cpos<|starEach es X.env).any (·.1))=false;rw[hplain]<;>rfl)<|Calls.evalArgs_plain ?_;exact nK hA λus s2 ⟨vs,H2,I2,r2,q2⟩=>hm pins s2 σ H2 x vs v us Q I2 r1 r2 q2
end
abbrev MtM (X:Cx)(id:String)(r:V->List V->Hp->VK->Prop):Prop:=
 ∀(pins:bo) (s:aA) (σ:St) (H:Hp) (x:V) (xs:List V) (v:af) (us:ba) (Q:VK),Inv X pins σ H s->RelV x v->Vals xs us->r x xs H Q ->
  wpAny (model X.prog X.w) X.A (call (.builtin id) (v::us)) (EP X pins σ Q) X.xe s
def Vals.one:∀{x:V}{us:ba},Vals [x] us->∃u,us=[u]/\RelV x u
 | _,_,.cons r .nil=>⟨_,rfl,r⟩
theorem Vals.eraseIdx:∀{xs:List V}{us:ba}(i:Nat),Vals xs us->Vals (xs.eraseIdx i) (us.eraseIdx i)
 | _,_,_,.nil=>.nil
 | _,_,0,.cons _ t=>t
 | _,_,i+1,.cons r t=>.cons r<|Vals.eraseIdx i t
theorem Vals.rep(h:Vals xs us):∀k:Nat,Vals (List.replicate k xs).flatten (List.replicate k us).flatten
 | 0=>.nil
 | k+1=>by
  rw[dm,dm,eB,eB];exact Vals.append h<|Vals.rep h k
theorem CN{α:Type}:∀(l:List α) (i:Nat),(l.eraseIdx i).length<=l.length
 | [],_=>aO _
 | _::_,0=>Nat.le_succ _
 | _::r,i+1=>Nat.succ_le_succ<|CN r i
theorem foldl_rep(its:ba):∀(k:Nat) (acc:ba),
  List.foldl (λx1 x2=>x1++x2) acc.toArray (List.replicate k its.toArray)=(acc++(List.replicate k its).flatten).toArray
 | 0,acc=>by simp
 | k+1,acc=>by
  have e:acc.toArray++its.toArray=(acc++its).toArray:=by simp
  have e2:(acc++its)++(List.replicate k its).flatten=acc++(List.replicate (k+1) its).flatten:=by
   rw[dm,eB,ck]
  rw[<- e2,<- foldl_rep its k (acc++its),<- e,dm,e8]
section
variable {X:Cx}{pins:bo}{σ:St}{H:Hp}{s:aA}{l:ak}{xs ys:List V}
def Inv.Yj{its its':ba}{n:Nat}{f:Array af->Array af}{t':Nat}(I:Inv X pins σ H s)(hH:H l=some (.lst xs))
  (e:s.heap.get? l=some { cls:=.type "list",data:=.seq its.toArray n }) (hf:f its.toArray=its'.toArray) (hv:Vals ys its') (hz:ys.length<=sizeLine) :
  Inv X pins σ (upd H l<|.lst ys) { s with heap:=s.heap.update l<|Obj.mapSeq f,toks:=t' }:=by
 have q:=PySem.IsL.update e f;rw[hf]at q;refine I.write (x:=l) (e:=l) (by rw[hH];exact trivial) (.inl rfl) (λb' u hb hu=>(Heap.get?_update_other s.heap (Obj.mapSeq f)<|cO hb).trans hu) ⟨_,q⟩ ?_;exact⟨hz,its',_,hv,q⟩
def Inv.YD{its:ba}{t':Nat}(I:Inv X pins σ H s)(hv:Vals ys its)(hz:ys.length<=sizeLine) :
  Inv X pins σ (upd H s.heap.objs.size<|.lst ys) { s with heap:=s.heap.push { cls:=.type "list",data:=.seq its.toArray },toks:=t' }:=
 I.laid (λ_ _ q=>aQ _ q) (aO _) ⟨hz,its,0,hv,bq _ rfl⟩
def Inv.fresh(I:Inv X pins σ H s):H s.heap.objs.size=none:=I.hok.fresh<|aO _
def Inv.IS(I:Inv X pins σ H s)(hH:H l=some (.lst xs)):xs.length<=sizeLine/\∃(its:ba) (n:Nat),Vals xs its/\xs.length=its.length/\s.heap.get? l=some { cls:=.type "list",data:=.seq its.toArray n }:=by
 obtain⟨z,its,n,r,e⟩:=I.hok l _ hH;exact⟨z,its,n,r,r.length,e⟩
def GY{n:Nat}(h:n<=sizeLine):Builtin.List.listTooLong n=false:=by
 unfold Builtin.List.listTooLong;exact bH ()
end
section
variable {X:Cx}
abbrev U9:V->List V->Hp->VK->Prop:=λx vs H Q=>∃l xs y,x=.ref l/\vs=[y]/\H l=some (.lst xs)/\xs.length<sizeLine/\Q .non (upd H l<|.lst<|xs++[y])
def CY:MtM X "list.append" U9:=by
 intro pins s σ H x vs v us Q I rx rv h;obtain⟨l,xs,y,rfl,rfl,hH,hz,q⟩:=h
 cases rx
 obtain⟨u,rfl,ru⟩:=rv.one;obtain⟨z,its,n,r,hl,e⟩:=I.IS hH;refine iA F.slot_list_append ⟨_,e,rfl⟩ F.entry_list_append (F.args_list_append_2 _ _) (PySem.list_append l its.toArray n u<|by rw[aX];lia) ⟨e,?_⟩;refine⟨.non,_,I.Yj (its':=its++[u]) hH e (by simp) (r.append<|.cons ru .nil) ?_,rfl,q⟩;rw[aS,c7]
 lia
abbrev U5:V->List V->Hp->VK->Prop:=λx vs H Q=>∃l b xs zs,x=.ref l/\vs=[.ref b]/\H l=some (.lst xs)/\H b=some (.lst zs)/\xs.length+zs.length<=sizeLine/\Q .non (upd H l<|.lst<|xs++zs)
def M3:MtM X "list.extend" U5:=by
 intro pins s σ H x vs v us Q I rx rv h;obtain⟨l,b,xs,zs,rfl,rfl,hH,hB,hz,q⟩:=h
 cases rx
 obtain⟨u,rfl,ru⟩:=rv.one
 cases ru
 obtain⟨z,its,n,r,hl,e⟩:=I.IS hH;obtain⟨z2,its2,n2,r2,hl2,e2⟩:=I.IS hB;have hsz:its.toArray.size+its2.toArray.size<=sizeLine:=by rw[aX,aX];lia
 have hlong:¬(!its.toArray.isEmpty && Builtin.List.listTooLong (its.toArray.size+its2.toArray.size))=true:=by
  rw[GY hsz,Bool.and_false];exact bM
 refine iA F.slot_list_extend ⟨_,e,rfl⟩ F.entry_list_extend (F.args_list_extend_2 _ _)
  (AutoSeq1.list_extend_list_list_0 l its.toArray n b its2.toArray n2 hlong (by rw[aX];lia) ()) ⟨e,e2,?_⟩
 refine⟨.non,_,I.Yj (its':=its++its2) hH e (by simp) (r.append r2) ?_,rfl,q⟩;rw[aS]
 lia
abbrev Xr:V->List V->Hp->VK->Prop:=λx vs H Q=>∃l xs i k y,x=.ref l/\vs=[.int i]/\H l=some (.lst xs)/\-(2 ^ 63)<=i/\i<2 ^ 63/\seqIndex? i xs.length=some k/\xs[k]?=some y/\Q y (upd H l<|.lst<|xs.eraseIdx k)
def NT:MtM X "list.pop" Xr:=by
 intro pins s σ H x vs v us Q I rx rv h;obtain⟨l,xs,i,k,y,rfl,rfl,hH,h1,h2,hk,hy,q⟩:=h
 cases rx
 obtain⟨u,rfl,ru⟩:=rv.one;obtain⟨t,rfl⟩:=ru;obtain⟨z,its,n,r,hl,e⟩:=I.IS hH;obtain⟨w,hw,rw'⟩:=r.get hy;refine iA F.slot_list_pop ⟨_,e,rfl⟩ F.entry_list_pop (F.args_list_pop_2 _ _)
  (MeetsSeq.list_pop_at l its.toArray n i t k w (fitsIndex_both h1 h2) (by rw[aX,<- hl];exact hk) (by rw[<- dU];exact hw)<|by rw[aX];lia) ⟨e,?_⟩
 refine⟨y,_,I.Yj (its':=its.eraseIdx k) hH e ?_ (r.eraseIdx k) ?_,rw',q⟩
 ·skip
  rw[ir]
 ·have:=CN xs k
  lia
abbrev acp:R2:=λx y H Q=>∃l b xs zs,x=.ref l/\y=.ref b/\H l=some (.lst xs)/\H b=some (.lst zs)/\xs.length+zs.length<=sizeLine/\∀p,H p=none->Q (.ref p) (upd H p<|.lst<|xs++zs)
def W9:pV X (binaryOp .Add) acp:=by
 kcf_m;obtain⟨l,b,xs,zs,rfl,rfl,hH,hB,hz,q⟩:=h
 cases rx
 cases ry
 obtain⟨z,its,n,r,hl,e⟩:=I.IS hH;obtain⟨z2,its2,n2,r2,hl2,e2⟩:=I.IS hB;refine PySem.P.add_list e e2 ?_ (by rw[aX,aX];lia);have ea:its.toArray++its2.toArray=(its++its2).toArray:=by simp
 rw[ea];exact⟨.ref _,_,I.YD (t':=s.toks) (r.append r2)<|by rw[aS];lia,rfl,q _ I.fresh⟩
abbrev acD:R2:=λx y H Q=>∃l k xs,x=.ref l/\y=.int k/\H l=some (.lst xs)/\-(2 ^ 63)<=k/\k<2 ^ 63/\xs.length * k.toNat<=sizeLine /\
 ∀p,H p=none->Q (.ref p) (upd H p<|.lst (List.replicate k.toNat xs).flatten)
def len_rep{α:Type}(xs:List α)(k:Nat):(List.replicate k xs).flatten.length=k * xs.length:=by
 induction k with
 | zero=>simp
 | succ k ih=>rw[dm,eB,aS,ih,d7,add_comm]
def W8:pV X (binaryOp .Mult) acD:=by
 kcf_m;obtain⟨l,k,xs,rfl,rfl,hH,h1,h2,hz,q⟩:=h
 cases rx
 obtain⟨t,rfl⟩:=ry;obtain⟨z,its,n,r,hl,e⟩:=I.IS hH;have hlen:its.toArray.size * k.toNat<=sizeLine:=by rw[aX,<- hl];exact hz
 have hcap:¬its.toArray.size * k.toNat>(2 ^ 63-1) / 8:=by
  have:(sizeLine:Nat)<=(2 ^ 63-1) / 8:=by decide
  omega
 have hfit:¬(!Builtin.List.listFitsIndex k)=true:=by
  rw[fitsIndex_both h1 h2];exact bM
 have hlong:¬Builtin.List.listTooLong (its.toArray.size * k.toNat)=true:=by
  rw[GY hlen];exact bM
 have hnew:List.foldl (λx1 x2=>x1++x2) #[] (List.replicate (if its.toArray.isEmpty=true then 0 else k.toNat) its.toArray)=(List.replicate k.toNat its).flatten.toArray:=by
  have f0:∀m:Nat,List.foldl (λx1 x2=>x1++x2) #[] (List.replicate m its.toArray)=(List.replicate m its).flatten.toArray:=λm=>by
   have:=foldl_rep its m [];rw[List.nil_append]at this;exact this
  rw[f0]
  cases its with
  | nil=>simp
  | cons a r'=>rw[aJ<|by simp]
 refine wpAny_binaryOp_repeat_ref (T := "list") (U := "int") ⋯ ⟨_,e,rfl⟩ (λs'=>typeIs_int s' k t) noFill_list_mul F.fills_int_mul F.slot_int_rmul repeat_list F.slot_int_index.lookup
  (iA F.slot_int_rmul (typeIs_int s k t) F.entry_int_rmul (F.args_int_rmul_2 _ _) (int___rmul___int_list k t l its.toArray n)
   ⟨e,rfl,⟨_,e,rfl⟩,iA F.slot_list_mul ⟨_,e,rfl⟩ F.entry_list_mul (F.args_list_mul_2 _ _) (AutoListH.list___mul___list_int_3 l its.toArray n k t hfit hcap hlong) ⟨e,?_⟩⟩)
 rw[hnew];exact⟨.ref _,_,I.YD (t':=s.toks) (r.rep k.toNat)<|by rw[len_rep,Nat.mul_comm];exact hz,rfl,q _ I.fresh⟩
end
end L2
namespace Att
open PySem PySem.W PySem.Calls PyProof.Rows
def Ag{P:Params}:∀(ns:ag) (vs:ba),WellAll P h vs (ns.map WData.int)->IntsAre vs ns:=by
 intro ns
 induction ns with
 | nil=>
  intro vs w;rw[gR]at w
  cases w
  exact .nil
 | cons n ns ih=>
  intro vs w;rw[bJ]at w
  cases w with
  | cons a b=>
   cases a
   exact .cons _ _<|ih _ b
def MZ{l:OpenLaw}{n:Nat}(hn:l.most=some n){P:Params}{h:aq}
  (hpre:l.row.toRowW.claim.pre args=true) (hwl:WellAll P h vals args) :
  ∃a vs ns,vals=[Value.ref a]/\args=[WData.list<|ns.map WData.int]/\h.get? a=some { cls:=.type "list",data:=.seq vs.toArray }/\IntsAre vs ns/\ns.length<=n:=by
 have hsh:WShape.hasAll [] args [.list .int]=true:=(pre_splitW hpre).1;have hc:l.pre.holds [] { args:=args }=true:=(pre_splitW hpre).2;obtain⟨d,r,rfl,h1,h2⟩:=hasAllW_cons hsh;obtain rfl:=hasAllW_nil h2;obtain⟨xs,rfl,h3⟩:=hasW_list h1;obtain⟨ns,rfl⟩:=items_int h3;have hlen:ns.length<=n:=by
  unfold OpenLaw.pre at hc;have h4:(WTm.not<|.lt (.lit<|.int (n:Int))<|.len<|.arg 0).holds [] { args:=[.list<|ns.map .int]}=true:=by
   have h4:=(holds_andW hc).1;rw[hn]at h4;exact h4
  have h5:=condW_of h4<|w_not<|w_lt w_lit<|w_len_list<|w_arg rfl;rw[aG]at h5;refine iB λq=>?_;have q':(n:Int)<((ns.length:Nat):Int):=by omega
  first
   | (rw[bg q']at h5;exact absurd h5 ⋯)
   | (simp at h5;omega)
 cases hwl with
 | cons w1 w2=>
  cases w2
  cases w1 with
  | list ho hall=>exact⟨_,_,ns,rfl,rfl,ho,Ag ns _ hall,hlen⟩
def Mv(l:OpenLaw)(args:List WData):l.row.toRowW.claim.post args (.bool true) args=true:=
 postW_of (r:=l.row.toRowW) (X:=(true == true))
  (show WShape.has [] (.bool true) .bool=true by first|rfl|decide|simp[WShape.has,WShape.arms,WShape.armsAll])
  (show(WTm.eq .res<|.lit<|.bool true).value [] { args:=args,res:=some<|.bool true,after:=args }=some (.bool<|true == true)from w_eq_bool (w_res rfl) w_lit) rfl
def GK{l:OpenLaw}{n:Nat}{q:aj}{XP:(Str->bd)->aq->Prop}{YP:ah->aq->Prop}{d:DefRec}
  (hn:l.most=some n) (hdf:d.params.defaults=[])
  (call:∀(w:ah) (s₀ s₁:aA) (mg mb:Str->bd) (fa:ak) (o:Obj) (pm cd doc:af) (a:ak) (vs:ba) (ns:ag),
   Ground q loose [] XP w s₀ mg mb s₁.heap->YP w s₁.heap ->
   s₁.heap.get? fa=some o->o.data=.func (docDef d.name d.params d.body d.scope pm cd doc)->s₁.heap.CodeRec cd d.name->mg d.name=some (.ref fa) ->
   s₁.heap.get? a=some { cls:=.type "list",data:=.seq vs.toArray }->IntsAre vs ns->ns.length<=n->s₁.gens=#[] ->
   codeAny (model l.prog w) callerA (.call (.ref fa) ⟨[.ref a],[]⟩) (λr s'=>r=.ok (.ret<|.bool true)/\OldK s₁.heap s'.heap/\s'.os=s₁.os/\AllBare s'.gens) s₁) :
  WalkO q loose XP YP l.row.toRowW d [] (λf vs=>PySem.call f vs):=by
 intro w s₀ s₁ mg mb G Y fa o pm cd doc dV kV ho hd hcd hD hmg hg args vals as hpre hlay hrd hwl hlo;obtain rfl:dV=.none:=Dflts.none hD hdf;obtain rfl:kV=.none:=Dflts.noKw hD;obtain⟨a,vs,ns,rfl,rfl,hobj,hints,hlen⟩:=MZ hn hpre hwl;refine enter_call<|iT (call w s₀ s₁ mg mb fa o pm cd doc a vs ns G Y ho (fd_plain hd) hcd hmg hobj hints hlen hg) λr s' hq=>?_;obtain⟨rfl,h2,h3,h4⟩:=hq;exact⟨.inl ⟨.bool true,.bool true,[],rfl,λ_=>rfl,.bool true,Mv l _,λ_=>⟨List.Pairwise.nil,λ_ hm=>(nomatch hm)⟩⟩,h2,h3,h4⟩
end Att
namespace L2
open PySem PySem.Spec PyProof.Rows
theorem zG:∀{vs:ba}{ns:ag},IntsAre vs ns->Vals (ns.map V.int) vs
 | _,_,.nil=>.nil
 | _,_,.cons n t h=>.cons ⟨t,rfl⟩<|zG h
abbrev Vo (H:Hp):Prop:=∀b,H b=none\/∃o xs,H b=some (.frz o<|.lst xs)
def O2{P:aj}{w:ah}{K:au}{mg mb:Str->bd}{CX:Si}{k:Nat}{fa a:ak}{x:Str}{sp:Sp}{s₁:aA}{vs:ba}{ns:ag}
  (KX:K.In s₁.heap) (hns:s₁.heap.Ns mainGlobals mg) (hb:s₁.heap.Ns builtinsNs mb) (hbb:∀x:Str,x ≠ "__name__" -> mb x=bootBuiltins x) (hlim:s₁.heap.NoLimit) (hg:s₁.gens=#[])
  (ha:s₁.heap.get? a=some { cls:=.type "list",data:=.seq vs.toArray }) (hi:IntsAre vs ns) (hl:ns.length<=sizeLine) (hr:Room k callerA)
  (F:∀base:aq,K.In base->base.Ns mainGlobals mg->FnOk P w K mg base CX k fa fd [x] sp) (hbind:∀(s:aA) (u:af),BindsTo s fd ⟨[u],[]⟩ [(x,u)])
  (hsp:∀H:Hp,Vo H->nJ K H a (ns.map V.int)->sp [.ref a] H (λv _=>v=.bl true) λ_ _ _=>False)
  (hCX:∀H e s',CX [] H s₁ (λ_ _ _=>False) e s'->False) :
  codeAny (model P w) callerA (.call (.ref fa) ⟨[.ref a],[]⟩) (λr s'=>r=.ok (.ret<|.bool true)/\OldK s₁.heap s'.heap/\s'.os=s₁.os/\AllBare s'.gens) s₁:=by
 have rv:=zG hi;have lenV:=hi.length;have core:∀H:Hp,Vo H->nJ K H a (ns.map V.int)->xK P w H s₁.heap->(∀b,H b≠none->b=a)->(H a≠none->K.lookup a=none) ->
   codeAny (model P w) callerA (.call (.ref fa) ⟨[.ref a],[]⟩) (λr s'=>r=.ok (.ret<|.bool true)/\OldK s₁.heap s'.heap/\s'.os=s₁.os/\AllBare s'.gens) s₁:=by
  intro H hO hS hok hA hK;have base_of:∀{b:ak} {o:Obj},s₁.heap.get? b=some o->H b=none->(Et s₁.heap H).get? b=some o:=λe n=>Rl e n;have noA:∀{b:ak} {o:Obj} {es:Array DictEntry} {ep:Nat},s₁.heap.get? b=some o->o.data=.dict es ep->H b=none:=λ{b o es ep} e d=>by
   cases q:H b with
   | none=>rfl
   | some u=>
    have e':b=a:=hA b (by rw[q];simp);subst e';rw[ha]at e;cases e;have d':Data.seq vs.toArray _=Data.dict es ep:=d
    cases d'
  have nsK:∀{b:ak} {m:Str->bd},s₁.heap.Ns b m->(Et s₁.heap H).Ns b m:=λ{b m} ⟨o,es,ep,e,d,r⟩=>⟨o,es,ep,base_of e<|noA e d,d,r⟩;have hKb:K.In (Et s₁.heap H):=λb o e=>base_of (KX b o e) (by
   cases q:H b with
   | none=>rfl
   | some u=>
    have e':b=a:=hA b (by rw[q];simp);subst e';rw[hK<|by rw[q];simp]at e;cases e)
  have hM:Mod K mg (Et s₁.heap H):=⟨hKb,nsK hns,⟨mb,nsK hb,hbb⟩,let⟨mc,h1,h2⟩:=hlim;⟨mc,nsK h1,h2⟩⟩;have e0:Env0 P w K mg (Et s₁.heap H) callerA [] s₁ H:=⟨rfl,hM,λb o e=>T5 e,Nat.le_of_eq<|MR _ _,trivial,λb hb=>absurd (show b∈([]:bb)from hb)<|by simp,hok,.of_eq hg⟩;refine iT ((F _ hKb<|nsK hns).run callerA [] s₁ H ⟨[.ref a],[]⟩ [.ref a] [.ref a] _ _ hr e0 (hbind s₁<|.ref a) (.cons rfl .nil)<|hsp H hO hS) λr s' h=>?_
  cases r with
  | error e=>exact(hCX H e s' h).elim
  | ok fl=>
   cases fl with
   | next=>exact False.elim h
   | brk=>exact False.elim h
   | cont=>exact False.elim h
   | ret u=>
    obtain⟨v,H',os,bare,un,hok',r',q⟩:=h;have q':v=.bl true:=q;subst q';obtain rfl:u=Value.bool true:=r';refine⟨rfl,OldK.of_keep λb o e=>?_,os,bare⟩
    cases q:H b with
    | none=>exact un.keep b o e q (by intro z;exact absurd (show b∈([]:bb)from z)<|by simp) (by simp)
    | some u=>
     rcases hO b with z|⟨ob,xs,z⟩
     ·rw[q]at z;cases z
     ·have z2:=un.frzs b ob _ z;obtain⟨e1,_⟩:=hok b _ z;obtain⟨e2,_⟩:=hok' b _ z2;rw[e]at e1;cases e1;exact e2
 cases hk:K.lookup a with
 | some o=>
  have e:=KX a o hk;rw[ha]at e
  cases e
  refine core (λ_=>none) (λ_=>.inl rfl) (.inr ⟨_,vs.toArray,_,hk,rfl,rfl,rfl,by rw[aX,lenV];exact hl,by simpa using rv⟩) (λb u z=>by have z':(none:Option HO)=some u:=z;cases z') (λb z=>absurd rfl z) λz=>absurd rfl z
 | none=>
  refine core (λb=>if b=a then some (.frz { cls:=.type "list",data:=.seq vs.toArray } (.lst<|ns.map V.int))else none) (λb=>?_) (.inl<|.inr ⟨{ cls:=.type "list",data:=.seq vs.toArray },aL rfl⟩) (λb u z=>?_) (λb z=>?_) λ_=>hk
  ·by_cases hb:b=a
   ·exact .inr ⟨_,_,aL hb⟩
   ·exact .inl<|aJ hb
  ·by_cases hb:b=a
   ·have z':=(aL hb).symm.trans z
    cases z'
    subst hb;exact⟨ha,by rw[aG];exact hl,vs,_,rv,ha⟩
   ·have z':=(aJ hb).symm.trans z
    cases z'
  ·by_cases hb:b=a
   ·exact hb
   ·exact absurd (aJ hb) z
def U8{l:PySem.W.OpenLaw}{n k:Nat}{q:aj}{XP:(Str->bd)->aq->Prop}{YP:ah->aq->Prop}{d:DefRec}{K:Params->au}{CX:ah->Si}{sp:ah->Sp}{x:Str}
  (hn:l.most=some n) (hn2:n<=sizeLine) (hdf:d.params.defaults=[]) (hr:Room k callerA)
  (hY:∀(w:ah) (h:aq),YP w h->(K w.params).In h)
  (F:∀(w:ah) (mg:Str->bd) (fa:ak) (h:aq),(K w.params).In h->h.Ns mainGlobals mg->mg d.name=some (.ref fa) ->
   ∃fd:FuncData,(∀(s:aA) (u:af),BindsTo s fd ⟨[u],[]⟩ [(x,u)]) /\
    ∀base:aq,(K w.params).In base->base.Ns mainGlobals mg->FnOk l.prog w (K w.params) mg base (CX w) k fa fd [x] (sp w))
  (hsp:∀(w:ah) (H:Hp) (a:ak) (ns:ag),ns.length<=n->Vo H->nJ (K w.params) H a (ns.map V.int)->sp w [.ref a] H (λv _=>v=.bl true) λ_ _ _=>False)
  (hCX:∀(w:ah) (H:Hp) (s:aA) (e:af) (s':aA),CX w [] H s (λ_ _ _=>False) e s'->False) :
  PySem.W.WalkO q loose XP YP l.row.toRowW d [] (λf vs=>PySem.call f vs):=by
 refine Att.GK hn hdf λw s₀ s₁ mg mb fa o pm cd doc a vs ns G Y ho hd hcd hmg hobj hints hlen hg=>?_;have KX:=hY w _ Y;obtain⟨fd,hb,hF⟩:=F w mg fa _ KX G.T.g hmg;exact O2 KX G.T.g G.T.b G.T.builtins G.T.nolimit hg hobj hints (bB hlen hn2) hr hF hb (λH hO hS=>hsp w H a ns hlen hO hS) λH e s'=>hCX w H s₁ e s'
abbrev wD (s:aE):Arguments:=match s with
 | .FunctionDef _ a _ _ _ _ _ _ _ _=>a
 | _=>{ posonlyargs:=[],args:=[],vararg:=none,kwonlyargs:=[],kw_defaults:=[],kwarg:=none,defaults:=[]}
abbrev su (s:aE):List aE:=match s with
 | .FunctionDef _ _ b _ _ _ _ _ _ _=>b
 | _=>[]
abbrev jW (s:aE):Scope:=match s with
 | .FunctionDef _ _ _ _ _ _ sc _ _ _=>sc
 | _=>{ kind:=.function,names:=[],isGenerator:=false,isCoroutine:=false }
meta abbrev qm:Si:=λ_ _ _ _ _ _=>False
meta abbrev E0:XK:=λ_ _ _=>False
def aaY{X:Cx}:Passes qm X E0:=λ_ _ _ _ _ _ _ h=>h.elim
structure Fun (K:au)(x qual:Str)(st:aE)(f:ak)(fd:FuncData):Prop where
 ex:∃(oc:af) (od:Option ak) (kV doc pm:af) (an:Option ak) (cdv ct:af) (osl:Array<|bd),
  fd=PySem.W.fnOf x qual (wD st) (su st) (jW st) .none kV doc pm an cdv ct/\K.lookup f=some ⟨oc,od,.func fd,osl⟩/\PySem.W.codeIn K cdv qual=true
 kp:PySem.W.keepIn K (.ref f)=true
section
variable {P:aj}{w:ah}{K:au}{mg:Str->bd}{base:aq}
def Fun.ok{x:Str}{st:aE}{f:ak}{N ps:ar}{k:Nat}{sp:Sp}(F:Fun K x qual st f fd)(S:FnScope N ps<|jW st)(len:∀vs H Q E,sp vs H Q E->vs.length=ps.length)
  (hbody:∀(cdv:af) (A:az) (outer:List Env) (s:aA) (H:Hp) (vs:List V) (Q:VK) (E:XK),Room k (A.deeper<|envOfC qual (jW st) s.heap.objs.size f cdv)->sp vs H Q E ->
   ∃t,EG (HZ qm P w K mg base N qual (jW st) f cdv A outer s H E).Zw (su st) t/\t { nx:=λ_ H'=>Q .non H',rt:=Q } (start N vs) H):FnOk P w K mg base qm (k+1) f fd ps sp:=by
 obtain⟨oc,od,kV,doc,pm,an,cdv,ct,osl,rfl,lk,hcd⟩:=F.ex;refine Z_ lk hcd S len λA outer s H vs Q E hr hsp=>?_;obtain⟨t,h,q⟩:=hbody cdv A outer s H vs Q E hr hsp;exact⟨t,h.Zw,q⟩
def Fun.binds{x:Str}{st:aE}{f:ak}{ps:ar}(F:Fun K x qual st f fd)
  (h:∀(kV doc pm:af) (an:Option ak) (cdv ct:af) (us:ba),us.length=ps.length->bindArgs (PySem.W.fnOf x qual (wD st) (su st) (jW st) .none kV doc pm an cdv ct) ⟨us,[]⟩=pure (ps.zip us)):Binds K fd ps []:=by
 obtain⟨oc,od,kV,doc,pm,an,cdv,ct,osl,rfl,lk,hcd⟩:=F.ex;exact .all<|h kV doc pm an cdv ct
def X0{x:Str}{st:aE}{f:ak}{kV pm ct:af}(l:K.lookup f=some ⟨oc,od,.func<|PySem.W.fnOf x qual (wD st) (su st) (jW st) .none kV doc pm an cdv ct,osl⟩)
  (c:PySem.W.codeIn K cdv qual=true) (k:PySem.W.keepIn K (.ref f)=true):Fun K x qual st f (PySem.W.fnOf x qual (wD st) (su st) (jW st) .none kV doc pm an cdv ct):=⟨⟨oc,od,kV,doc,pm,an,cdv,ct,osl,rfl,l,c⟩,k⟩
end
section
variable {X:Cx}
def pv(i:Nat){x:Str}(hN:X.N[i]?=some x:=by rfl)(hv:ZT X.env.scope x:=by first|exact Or.inl rfl|exact Or.inr (Or.inl rfl)|exact Or.inr<|Or.inr rfl)(hd:(x == ("__debug__" : Str))=false:=by decide)
  (hcd:(x == ("__classdict__" : Str))=false:=by decide):PE X (.Name x pos) (Z5 i):=Ph hN hv hd hcd
end
set_option maxHeartbeats 4000000
abbrev X4 (σ:St):bn->Option V
 | some j=>(σ[j]?).getD none
 | none=>none
abbrev Bs (env:Env):List (Str×NameKind)->List (Str×ak)->List (Str×ak)
 | [],cs=>cs
 | (n,k)::r,cs=>Bs env r (if k == .free then(n,(env.cells.lookup n).getD 0)::cs else cs)
def IJ{scope:Scope}{env:Env}(h:∀y∈scope.names,y.2=.free->∃c,env.cells.lookup y.1=some c):closureFor scope env=pure (Bs env scope.names []):=by
 have key:∀(l:List<|Str×NameKind) (cs:List<|Str×ak),(∀y∈l,y.2=.free->∃c,env.cells.lookup y.1=some c) ->
   (forIn l cs (λ(x:Str×NameKind) (r:List<|Str×ak)=>(match x with
    | (name,kind)=>if (kind == NameKind.free)=true then(do let c <- cellOf env name;pure (ForInStep.yield ((name,c)::r)))else pure (ForInStep.yield r):Sem<|ForInStep<|List<|Str×ak)))=(pure (Bs env l cs):Sem<|List<|Str×ak):=by
  intro l
  induction l with
  | nil=>intro cs _;rfl
  | cons y r ih=>
   intro cs hl;obtain⟨n,k⟩:=y;rw[List.forIn_cons];by_cases hk:k=.free
   ·subst hk;obtain⟨c,hc⟩:=hl (n,.free) aM rfl;have e1:cellOf env n=pure c:=by
     unfold cellOf;rw[hc]
    dsimp[bV,c_,e1,pure_bind];rw[ih _ λz hz=>hl z<|aN _ hz];dsimp[Bs,bV,c_,hc,dX]
   ·have hb:(k == NameKind.free)=false:=by simpa using hk
    dsimp[hb,bF,cj,pure_bind];rw[ih _ λz hz=>hl z<|aN _ hz];dsimp[Bs,hb,bF,cj]
 have:=key scope.names [] h;exact(dO (λz=>z >>= λcs=>(pure cs:Sem<|List<|Str×ak)) this).trans (pure_bind _ _)
theorem Ba:∀{l:List<|Str×NameKind}{x:Str}{k:NameKind},l.lookup x=some k->(x,k)∈l
 | [],_,_,h=>nomatch h
 | (n,k')::r,x,k,h=>by
  rw[gu]at h
  cases hx:x == n with
  | true=>
   rw[hx]at h;have e:x=n:=by simpa using hx
   subst e
   cases h
   exact aM
  | false=>rw[hx]at h;exact aN _<|Ba h
theorem C5{env:Env}{x:Str}{c:ak}:∀{l:List<|Str×NameKind}{cs:List<|Str×ak},(∀y∈l,y.2=.free->∃c,env.cells.lookup y.1=some c)->(Bs env l cs).lookup x=some c->env.cells.lookup x=some c\/cs.lookup x=some c
 | [],cs,_,h=>.inr h
 | (n,k)::r,cs,hl,h=>by
  have h':=C5 (l:=r) (λz hz=>hl z<|aN _ hz) h
  rcases h' with h'|h'
  ·exact .inl h'
  ·by_cases hk:k=.free
   ·subst hk;dsimp[bV,c_]at h';obtain⟨c',hc⟩:=hl (n,.free) aM rfl;rw[hc,dX,gu]at h'
    cases hx:x == n with
    | true=>
     rw[hx]at h';have e:x=n:=by simpa using hx
     subst e;left;rw[hc];exact h'
    | false=>rw[hx]at h';exact .inr h'
   ·have hb:(k == NameKind.free)=false:=by simpa using hk
    dsimp[hb,bF,cj]at h';exact .inr h'
theorem C8{env:Env}{x:Str}:∀{l:List<|Str×NameKind}{cs:List<|Str×ak},(cs.lookup x).isSome=true->((Bs env l cs).lookup x).isSome=true
 | [],cs,h=>h
 | (n,k)::r,cs,h=>by
  skip
  refine C8 (l:=r) ?_;by_cases hk:(k == NameKind.free)=true
  ·rw[aL hk,gu]
   cases hx:x == n with
   | true=>rfl
   | false=>exact h
  ·rw[aJ hk];exact h
theorem BB{env:Env}{x:Str}:∀{l:List<|Str×NameKind}{cs:List<|Str×ak},(x,NameKind.free)∈l->((Bs env l cs).lookup x).isSome=true
 | [],_,h=>nomatch h
 | (n,k)::r,cs,h=>by
  rcases bu.mp h with e|h
  ·cases e
   skip
   refine C8 (l:=r) ?_;rw[aL<|by rfl,gu];simp
  ·exact BB (l:=r) h
abbrev pH (X:Cx)(scope:Scope)(N:ar)(C:ak)(s₀:aA)(H₀:Hp)(ex:bb):Cx where
 prog:=X.prog
 w:=X.w
 K:=X.K
 mg:=X.mg
 base:=X.base
 A:=X.A
 N:=N
 s₀:=s₀
 H₀:=H₀
 env:=compEnvC scope (Bs X.env scope.names []) C X.env
 outer:=X.stack
 stack:=X.stack
 ex:=ex
 fn:=λ_=>false
 calm:=X.calm
 pn:=[]
 xe:=λ_ _=>False
structure CpScope (X:Cx)(scope:Scope)(N:ar)(cap:List (bn)):Prop where
 kind:scope.kind=.function
 nocell:∀y∈scope.names,y.2≠.cell
 nm:∀y∈scope.names,y.2=.local->scope.names.lookup y.1=some .local
 fr:∀y∈scope.names,y.2=.free->X.env.kindOf y.1=some .cell\/X.env.kindOf y.1=some .free
 rl:∀y,((relabel scope X.env).names.lookup y=some .cell\/(relabel scope X.env).names.lookup y=some .free)->(y,NameKind.free)∈scope.names
 len:cap.length=N.length
 nolf:∀x,(x,NameKind.free)∈scope.names->scope.names.lookup x≠some .local
 cp:∀(i j:Nat) (x:Str),N[i]?=some x->cap[i]?=some (some j)->X.N[j]?=some x/\(x,NameKind.free)∈scope.names
def YU{X:Cx}{N:ar}{cap:List<|bn}{H:Hp}{s:aA}{fp:bb}{h₁:aq}{m:Str->bd}{tk:Nat}(S:CpScope X scope N cap)(I:Inv X pins σ H s)
  (hf:∀b∈fp,zm X pins H b) (ho:∀b∈fp,∃o,s.heap.get? b=some o) (hn:h₁.Ns s.heap.objs.size m) (hk:∀b o,s.heap.get? b=some o->h₁.get? b=some o) :
  Inv (pH X scope N s.heap.objs.size s H fp) [] (cap.map<|X4 σ) H { s with heap:=h₁,toks:=tk }:=by
 have hfree:∀y∈scope.names,y.2=.free->∃c,X.env.cells.lookup y.1=some c:=λy hy e=>I.ok.has _<|S.fr y hy e;have lk:∀x c,(Bs X.env scope.names []).lookup x=some c->X.env.cells.lookup x=some c:=λx c e=>by
  rcases C5 hfree e with z|z
  ·exact z
  ·cases z
 have lt:∀b o,s.heap.get? b=some o->b≠s.heap.objs.size:=λb o e=>bC<|a_ e;refine⟨⟨I.ok.mod,?_,I.ok.glob,I.ok.blt,aO _,?_,?_,?_,I.ok.hd,I.ok.frames,.inl rfl,?_,I.bs,bB I.ok.bsz I.sz,?_,?_,I.stack,I.LS⟩,rfl,I.bare,Un.kept hk,?_,?_,I.hok.fresh<|aO _,?_,?_,I.hok.kept hk,?_⟩
 ·exact S.kind
 ·intro x y c e1 e2;exact I.ok.inj x y c (lk x c e1) (lk y c e2)
 ·intro x e;have hm:=S.rl x e;have:=BB (env:=X.env) (cs:=[]) hm;exact fB.mp this
 ·intro x c e _;exact absurd e (by simp[pH])
 ·intro b hb;obtain⟨o,e⟩:=ho b hb;refine⟨lt b o e,λx c e2=>(hf b hb).2.2.2.2.1 x c<|lk x c e2⟩
 ·intro b o e hb;obtain⟨_,_,_,h3,_⟩:=hf b hb
  rcases h3 with z|z
  ·exact I.ok.noex b o e z
  ·exact absurd (bL (a_ (I.ok.bs b o e).1) z)<|fY _
 ·intro b hb hz;obtain⟨_,h1,h2,_⟩:=hf b hb
  rcases bu.mp (I.HP b hz)with z|z
  ·exact h1 z
  ·exact h2 z
 ·refine⟨m,hn,λi x v e1 e2 e3=>?_⟩;rw[aV]at e2
  cases hc:cap[i]? with
  | none=>rw[hc]at e2;cases e2
  | some oj=>
   rw[hc]at e2
   cases oj with
   | none=>cases e2
   | some j=>
    have e2':(σ[j]?).getD none=some v:=bh e2;obtain⟨hj,hm⟩:=S.cp i j x e1 hc;obtain⟨m0,hn0,hl0⟩:=I.loc;have hσ:σ[j]?=some (some v):=by
     cases h:σ[j]? with
     | none=>rw[h]at e2';cases e2'
     | some z=>rw[h,dX]at e2';rw[e2']
    have hkd:=S.fr (x,.free) hm rfl;have hv:ZT X.env.scope x:=.inr hkd;obtain⟨u,ru,lo⟩:=hl0 j x v hj hσ hv;refine⟨u,ru,?_⟩
    rcases lo with⟨lo,_⟩|⟨_,c,ec,ic⟩
    ·rcases hkd with z|z<;>(rw[z]at lo;cases lo)
    ·have h2:=BB (env:=X.env) (cs:=[]) hm;obtain⟨c',hc'⟩:=fB.mp h2;have:c'=c:=bh<|(lk x c' hc').symm.trans ec;subst this;refine .inr ⟨?_,c',hc',?_⟩
     ·rcases e3 with z|z|z
      ·exfalso;have:(relabel scope X.env).names.lookup x=some .local:=z;have hloc:scope.names.lookup x=some .local:=by
        have hmem:∃k,(x,k)∈(relabel scope X.env).names/\k=.local:=by
         clear hc' h2;have:=Ba this;exact⟨_,this,rfl⟩
        obtain⟨k,hk1,rfl⟩:=hmem;obtain⟨⟨n',k'⟩,hm1,hm2⟩:=br.mp hk1;dsimp only at hm2;split at hm2
        ·cases hm2
        ·cases hm2
         exact S.nm (x,.local) hm1 rfl
       exact False.elim<|S.nolf x hm hloc
      ·exact .inl z
      ·exact .inr z
     ·obtain⟨o,ho',hd⟩:=ic;exact⟨o,hk _ _ ho',hd⟩
 ·intro x c e;obtain⟨v,o,ho',hd⟩:=I.cell x c<|lk x c e;exact⟨v,o,hk _ _ ho',hd⟩
 ·intro x c e;exact I.freeC x c (lk x c e)
 ·intro p hp
  cases hp
 ·rw[aG,S.len];rfl
abbrev X7 (X:Cx)(ifs:List aC)(t:TT):Prop:=
 ∀(pins:bo) (s:aA) (σ:St) (H:Hp) (Q:Bool->Hp->Prop),Inv X pins σ H s->t σ H Q ->
  wpAny (model X.prog X.w) X.A (forIn ifs true λc r=>if r=true then do let ok <- isTrue c X.env (eval c X.env);pure (ForInStep.yield ok)else pure (ForInStep.yield r)) (TP X pins σ Q) X.xe s
abbrev ab2:TT:=λ_ H Q=>Q true H
def UB{X:Cx}:X7 X [] ab2:=λ_ _ _ H _ I h=>wpAny_tests_nil ⟨H,I,h⟩
def TU{X:Cx}{c:aC}{t:TT}(h:PT X c t):X7 X [c] t:=λpins s σ H Q I q=>wpAny_tests_one<|h pins s σ H Q I q
abbrev WG (cap:List<|bn)(g:TG)(tc:TT)(te:TE)(σ:St)(Q:VK)(J:It)(H1:Hp):Prop:=∀D,H1 D=none ->
 ∃W:Nat->Nat->St->Hp->Prop,(∃m,W 0 m (cap.map<|X4 σ)<|upd H1 D<|.lst [])/\∀i m σ' H',W i m σ' H' ->
  (J.stop i H'/\Q (.ref D) H')\/(J.go i H'/\∀x H2,J.yld i H' x H2->g x σ' H2 λσ3 H3=>tc σ3 H3 λb H4=>
   if b=true then te σ3 H4 λy H5=>∃ys,H5 D=some (.lst ys)/\ys.length<sizeLine/\∃m',m'<m/\W (i+1) m' σ3 (upd H5 D<|.lst<|ys++[y])
   else ∃m',m'<m/\W (i+1) m' σ3 H4)
abbrev tLC (cap:List<|bn)(wi:TI)(g:TG)(tc:TT)(te:TE):TE:=λσ H Q=>wi σ H<|WG cap g tc te σ Q
def UE{α:Type}{t:Sem α}{Q Q':α->aA->Prop}{A:az}{E:af->aA->Prop}(h:wpAny M A t Q (λ_ _=>False) s)(hQ:∀a s,Q a s->Q' a s):wpAny M A t Q' E s:=
 iz h hQ λ_ _ f=>f.elim
structure TurnG (ok:Cx->Prop)(P:aj)(w:ah)(K:au)(tg:aC)(J:It)(fp:bb)(it:ak)(tn:Nat->aq->Prop):Prop where
 obj:∀i h,tn i h->∀b∈fp,∃o,h.get? b=some o/\∀v,o.data≠.cell v
 keep:∀i h h',tn i h->(∀b∈fp,∀o,h.get? b=some o->h'.get? b=some o)->tn i h'
 item:∀(X:Cx),X.prog=P->X.w=w->X.K=K->ok X->∀(i:Nat) (pins:bo) (s:aA) (σ:St) (H:Hp) (E:af->aA->Prop),Inv X pins σ H s->(∀b∈fp,zm X pins H b)->tn i s.heap->J.go i H ->
  wpAny (model P w) X.A (pyNext<|.ref it) (λr s1=>∃u,r=some u /\
   wpAny (model P w) X.A (letOwnedTupleGo tg (.ref it) u) (λ_ s2=>∃x H',Inv X pins σ H' s2/\RelV x u/\J.yld i H x H'/\tn (i+1) s2.heap/\∀b∈fp,H' b=none) E s1) E s
 done:∀(X:Cx),X.prog=P->X.w=w->X.K=K->ok X->∀(i:Nat) (pins:bo) (s:aA) (σ:St) (H:Hp) (E:af->aA->Prop),Inv X pins σ H s->(∀b∈fp,zm X pins H b)->tn i s.heap->J.stop i H ->
  wpAny (model P w) X.A (pyNext<|.ref it) (λr s1=>r=none/\Inv X pins σ H s1) E s
 self:∀(A:az) (i:Nat) (s:aA) (Q:af->aA->Prop) (E:af->aA->Prop),tn i s.heap->Q (.ref it) s->wpAny (model P w) A (pyIter<|.ref it) Q E s
abbrev abY (ok:Cx->Prop)(X:Cx)(pins:bo)(σ:St)(tg:aC)(R:It->Hp->Prop)(itv:af)(s2:aA):Prop:=
 ∃(it:ak) (fp:bb) (tn:Nat->aq->Prop) (J:It) (H':Hp),itv=.ref it/\Inv X pins σ H' s2/\TurnG ok X.prog X.w X.K tg J fp it tn/\tn 0 s2.heap/\(∀b∈fp,zm X pins H' b)/\R J H'
abbrev PIg (ok:Cx->Prop)(X:Cx)(tg iter:aC)(wi:TI):Prop:=
 ∀(pins:bo) (s:aA) (σ:St) (H:Hp) (R:It->Hp->Prop),Inv X pins σ H s->wi σ H R ->
  wpAny (model X.prog X.w) X.A (eval iter X.env) (λv s1=>wpAny (model X.prog X.w) X.A (pyIter v) (abY ok X pins σ tg R) X.xe s1) X.xe s
def PI.g{X:Cx}{iter:aC}{wi:TI}(h:PI X tg iter wi):PIg (λY=>Y.calm=true) X tg iter wi:=λpins s σ H R I q=>
 nK (h pins s σ H R I q) λv s1 h1=>nK h1 λitv s2 ⟨it,fp,tn,J,H',e,I',T,a,b,c⟩=>⟨it,fp,tn,J,H',e,I',⟨T.obj,T.keep,T.item,T.done,T.self⟩,a,b,c⟩
def J9{ok:Cx->Prop}{X:Cx}{use:Option<|af->Sem Unit}{Q':af->aA->Prop}{iter:aC}{N:ar}{wi:TI}{g:TG}{tc:TT}{te:TE}(S:CpScope X scope N cap)(hok:∀C s₀ H₀ ex,(∀a o u,X.H₀ a=some (.frz o u)->H₀ a=some (.frz o u))->ok (pH X scope N C s₀ H₀ ex))(hi:PIg ok X tg iter wi)
  (hg:∀C s₀ H₀ ex,PG (pH X scope N C s₀ H₀ ex) tg g) (ht:∀C s₀ H₀ ex,X7 (pH X scope N C s₀ H₀ ex) ifs tc) (he:∀C s₀ H₀ ex,PE (pH X scope N C s₀ H₀ ex) elt te)
  (hs:∀x,foldedSetIterable iter X.env x=pure x:=by intro _;rfl):∀(pins:bo) (s:aA) (σ:St) (H:Hp) (Q:VK),Inv X pins σ H s->tLC cap wi g tc te σ H Q ->
  (∀(s6:aA) (C D:ak) (H5:Hp) (m:Str->bd),s6.heap.Ns C m->zm X pins H5 C->(∀h',Heap.SameBut C s6.heap h'->Inv X pins σ H5 { s6 with heap:=h' })->Q (.ref D) H5->∀v,compPost (model X.prog X.w) X.A X.xe use Q' (.ref D) C (.ok v) s6) ->
  wpAny (model X.prog X.w) X.A (comprehension (.ListComp elt [⟨tg,iter,ifs,0⟩] scope pos) scope X.env (firstIterPos [⟨tg,iter,ifs,0⟩] pos) (newList []) (firstAsync [⟨tg,iter,ifs,0⟩]) (firstIter [⟨tg,iter,ifs,0⟩] X.env) use) Q' X.xe s:=by
 intro pins s σ H Q I h hfin;have hfree:∀y∈scope.names,y.2=.free->∃c,X.env.cells.lookup y.1=some c:=λy hy e=>I.ok.has _<|S.fr y hy e;refine wpAny_comprehension_free (use:=use) rfl hs (IJ hfree) S.kind S.nm<|nK (hi pins s σ H _ I h) λxv s1 h1=>nK h1 λitv s2 h2=>?_;obtain⟨it,fp,tn,J,H2,rfl,I2,T,st2,f2,h2⟩:=h2;refine b9 (wpAny_newFunctionEnv S.nocell (by intro y hy;simp at hy) (λh₁ hns₁ hsb₁=>?_) S.kind);obtain⟨W,⟨m0,w0⟩,turn⟩:=h2 s2.heap.objs.size I2.fresh;dsimp only at hns₁ hsb₁ ⊢;have I3:Inv X pins σ (upd H2 s2.heap.objs.size<|.lst []) { s2 with heap:=s2.heap.push {}}:=I2.YD (t':=s2.toks) (its:=[]) .nil<|bP _;have hfp:∀b∈fp,∃o,s2.heap.get? b=some o:=λb hb=>by
  obtain⟨o,e,_⟩:=T.obj 0 _ st2 b hb;exact⟨o,e⟩
 have neD:∀b∈fp,b≠s2.heap.objs.size:=λb hb=>by
  obtain⟨o,e⟩:=hfp b hb;exact bC<|a_ e
 have f3:∀b∈fp,zm X pins (upd H2 s2.heap.objs.size<|.lst []) b:=λb hb=>⟨by rw[jV<|neD b hb];exact(f2 b hb).1,(f2 b hb).2⟩;have hDC:s2.heap.objs.size≠(s2.heap.push {}).objs.size:=by rw[fN];exact bC (fO _)
 have old:∀b o,(s2.heap.push {}).get? b=some o->h₁.get? b=some o:=λb o e=>hsb₁.extBut b o (bC<|a_ e)<|aQ _ e;have I4:=YU (tk:=s2.toks+([]:List<|Str×af).length) (fp:=fp) S I3 f3 (λb hb=>by
  obtain⟨o,e⟩:=hfp b hb;exact⟨o,aQ _ e⟩) hns₁ old
 have st4:tn 0 h₁:=T.keep _ _ _ st2 λb hb o e=>old b o<|aQ _ e;have hc:=hok (s2.heap.push {}).objs.size { s2 with heap:=s2.heap.push {}} (upd H2 s2.heap.objs.size<|.lst []) fp λa o u e=>by
  have z:=I2.base.frzs a o u e;rw[jV λq=>by rw[q,I2.fresh]at z;cases z];exact z
 have stat:∀{H':Hp},(∀b∈fp,H' b=none)->∀b∈fp,zm (pH X scope N (s2.heap.push {}).objs.size { s2 with heap:=s2.heap.push {}} (upd H2 s2.heap.objs.size<|.lst []) fp) [] H' b:=λhn b hb=>by
  have ok:=I4.ok;refine⟨hn b hb,(ok.exf b hb).1,ok.exfs b hb,.inl hb,λx c e=>(ok.exf b hb).2 x c e,λp hp=>nomatch hp⟩
 have loop:∀s4:aA,s4={ s2 with heap:=h₁,toks:=s2.toks+([]:List<|Str×af).length } ->
   codeAny (model X.prog X.w) X.A (.compLoop (.ListComp elt [⟨tg,iter,ifs,0⟩] scope pos) 0 (.ref it) (.ref s2.heap.objs.size)<|compEnvC scope (Bs X.env scope.names []) (s2.heap.push {}).objs.size X.env)
    (compPost (model X.prog X.w) X.A X.xe use Q' (.ref s2.heap.objs.size) (s2.heap.push {}).objs.size) s4:=by
  rintro s4 rfl;refine codeAny_loop rfl (λn s'=>∃i σ' H',Inv (pH X scope N (s2.heap.push {}).objs.size { s2 with heap:=s2.heap.push {}} (upd H2 s2.heap.objs.size<|.lst []) fp) [] σ' H' s'/\tn i s'.heap/\(∀b∈fp,H' b=none)/\W i n σ' H') (λn s5 hI=>?_) m0 ⟨0,_,_,I4,st4,λb hb=>(f3 b hb).1,w0⟩;obtain⟨i,σ5,H5,I5,st5,fr5,w5⟩:=hI
  skip
  refine wpAny_noted ?_;rw[compTurn_list];refine aH (wpAny_standAt<|aH ?_)
  rcases turn i n σ5 H5 w5 with⟨stop,q⟩|⟨go,step⟩
  ·refine nK (T.done (pH X scope N (s2.heap.push {}).objs.size { s2 with heap:=s2.heap.push {}} (upd H2 s2.heap.objs.size<|.lst []) fp) rfl rfl rfl hc i [] s5 σ5 H5 _ I5 (stat fr5) st5 stop) λr s6 h9=>?_;obtain⟨hr,I6⟩:=h9;subst hr;obtain⟨m6,hn6,_⟩:=I6.loc;refine aR<|hfin s6 _ _ H5 m6 hn6 (I3.EO (aO _) I6.free) (λh' sb=>?_) q _;have u6:=I6.base;have nC:∀b o,(s2.heap.push {}).get? b=some o->b≠(s2.heap.push {}).objs.size:=λb o e=>bC<|a_ e;refine I3.VW (ch:=fp) I6.os ⟨λb o e n hb hx=>?_,λb o e n hb hx=>?_,λb o e n hx=>?_,λb o e hx=>?_,u6.tups,u6.frzs,u6.tbls⟩ ?_ I6.bare ?_
   ·exact sb.extBut b o (nC b o e) (u6.keep b o e n hb hx)
   ·obtain⟨sl,z⟩:=u6.slot b o e n hb hx;exact⟨sl,sb.extBut b _ (nC b o e) z⟩
   ·exact u6.free b o e n hx
   ·obtain⟨o',z⟩:=u6.there b o e hx;exact⟨o',sb.extBut b _ (nC b o e) z⟩
   ·intro b o e;have hb:∀c v,H5 c=some v->c≠(s2.heap.push {}).objs.size:=λc v e z=>by
     rw[z]at e;have:=I6.free;rw[show H5 (s2.heap.push {}).objs.size=none from this]at e
     cases e
    refine(I6.hok b o e).stay (λc v hc q=>sb.extBut c v ?_ q) (λ_ q=>q) λ_ _ q=>q
    rcases hc with z|z
    ·rw[z];exact hb b o e
    ·exact hb c _ z
   ·intro b hb;obtain⟨_,z1,_,z3,z4,z5⟩:=f3 b hb;exact⟨z3,z1,z4,z5⟩
  ·refine nK (T.item (pH X scope N (s2.heap.push {}).objs.size { s2 with heap:=s2.heap.push {}} (upd H2 s2.heap.objs.size<|.lst []) fp) rfl rfl rfl hc i [] s5 σ5 H5 _ I5 (stat fr5) st5 go) λr s6 h9=>?_;obtain⟨u,hr,h6⟩:=h9;subst hr;refine aH<|nK h6 λ_ s7 ⟨x,H7,I7,r7,y7,st7,fr7⟩=>?_;have I7':=I7.pinned (stat fr7)<|T.obj _ _ st7;refine aH<|UE (hg _ _ _ fp _ s7 σ5 H7 x u _ I7' r7<|step x H7 y7) λ_ s8 ⟨σ8,H8,I8,q8⟩=>?_;refine aH<|UE (ht _ _ _ fp _ s8 σ8 H8 _ I8 q8) λok s9 ⟨H9,I9,q9⟩=>?_;have again:∀{s10:aA} {H10:Hp},Inv (pH X scope N (s2.heap.push {}).objs.size { s2 with heap:=s2.heap.push {}} (upd H2 s2.heap.objs.size<|.lst []) fp) ([]++B9 fp s7.heap) σ8 H10 s10->(∃m',m'<n/\W (i+1) m' σ8 H10) ->
     ∃m,m<n/\∃i σ' H',Inv (pH X scope N (s2.heap.push {}).objs.size { s2 with heap:=s2.heap.push {}} (upd H2 s2.heap.objs.size<|.lst []) fp) [] σ' H' s10/\tn i s10.heap/\(∀b∈fp,H' b=none)/\W i m σ' H':=λ{s10 H10} I10 h9=>by
    obtain⟨m',hm,w10⟩:=h9;refine⟨m',hm,i+1,σ8,H10,I10.vV,T.keep _ _ _ st7 λb hb o e=>(I10.pin (b,o)<|bU _<|bU _<|qU hb e).1,λb hb=>?_,w10⟩;obtain⟨o,e,d⟩:=T.obj _ _ st7 b hb;exact(I10.pin (b,o)<|bU _<|bU _<|qU hb e).2.1
   cases ok with
   | false=>
    rw[aJ bM]at q9;exact aR ⟨rfl,again I9 q9⟩
   | true=>
    rw[aL rfl]at q9;refine aH<|aH<|UE (he _ _ _ fp _ s9 σ8 H9 _ I9 q9) λy s10 ⟨v10,H10,I10,r10,ys,hD,hz,w10⟩=>?_;refine aH<|UE (CY _ s10 σ8 H10 (.ref s2.heap.objs.size) [v10] _ [y] (λ_ H'=>H'=upd H10 s2.heap.objs.size (.lst<|ys++[v10])) I10 rfl (.cons r10 .nil) ⟨_,ys,v10,rfl,rfl,hD,hz,rfl⟩) λ_ s11 ⟨_,H11,I11,_,e11⟩=>?_;subst e11;exact aR<|aR ⟨rfl,again I11 w10⟩
 exact codeAny_compStart_list (loop _ rfl)<|T.self _ 0 _ _ _ st4<|loop _ rfl
def YB{ok:Cx->Prop}{X:Cx}{iter:aC}{N:ar}{wi:TI}{g:TG}{tc:TT}{te:TE}(S:CpScope X scope N cap)(hok:∀C s₀ H₀ ex,(∀a o u,X.H₀ a=some (.frz o u)->H₀ a=some (.frz o u))->ok (pH X scope N C s₀ H₀ ex))(hi:PIg ok X tg iter wi)
  (hg:∀C s₀ H₀ ex,PG (pH X scope N C s₀ H₀ ex) tg g) (ht:∀C s₀ H₀ ex,X7 (pH X scope N C s₀ H₀ ex) ifs tc) (he:∀C s₀ H₀ ex,PE (pH X scope N C s₀ H₀ ex) elt te)
  (hs:∀x,foldedSetIterable iter X.env x=pure x:=by intro _;rfl):PE X (.ListComp elt [⟨tg,iter,ifs,0⟩] scope pos) (tLC cap wi g tc te):=by
 k_ne;rw[eval_ListComp];exact J9 (use:=none) (Q':=EP X pins σ Q) S hok hi hg ht he hs pins s σ H Q I h λs6 C D H5 m hn fk inv q v=>⟨m,hn,λh' sb=>⟨.ref D,H5,inv h' sb,rfl,q⟩⟩
def aao{X:Cx}{iter:aC}{N:ar}{wi:TI}{g:TG}{tc:TT}{te:TE}(hc:X.calm=true)(S:CpScope X scope N cap)(hi:PI X tg iter wi)
  (hg:∀C s₀ H₀ ex,PG (pH X scope N C s₀ H₀ ex) tg g) (ht:∀C s₀ H₀ ex,X7 (pH X scope N C s₀ H₀ ex) ifs tc) (he:∀C s₀ H₀ ex,PE (pH X scope N C s₀ H₀ ex) elt te)
  (hs:∀x,foldedSetIterable iter X.env x=pure x:=by intro _;rfl):PE X (.ListComp elt [⟨tg,iter,ifs,0⟩] scope pos) (tLC cap wi g tc te):=
 YB S (λ_ _ _ _ _=>hc) hi.g hg ht he hs
section
variable {X:Cx}
def RZ{bs:List Bool}:∀{us:ba},Vals (bs.map V.bl) us->LSm.BoolsAre us bs:=by
 induction bs with
 | nil=>intro us r;cases r;exact .nil
 | cons b bs ih=>
  intro us r
  cases r with
  | cons h t=>
   have e:_=Value.bool b:=h;subst e;exact .cons b<|ih t
def ML(hc:X.calm=true):kF X (.builtin "all") (λxs H Q=>∃(p:ak) (bs:List Bool),xs=[.ref p]/\nJ X.K H p (bs.map V.bl)/\Q (.bl<|bs.all id) H):=by
 w_up;obtain⟨p,bs,rfl,hq,q⟩:=h;kj_on
 cases rx
 obtain⟨its,rv,pl,hz⟩:=I.list hq;have hb:=RZ rv;have hl:=pl.isList;have hlt:p<s.heap.objs.size:=by obtain⟨_,e,_⟩:=hl;exact a_ e
 refine call_all_walk<|i8 hl ?_;refine⟨s.heap.objs.size,[s.heap.objs.size,p],[s.heap.objs.size],its.toArray.size,_,_,λi=>(bs[i]?).getD true,rfl,Walks.list (A:=X.A.in1) (I.ok.hd hc) _ p (bC hlt) its.toArray,
  ⟨⟨_,bq _ rfl,rfl,rfl⟩,hl.push _⟩,λi v s' Q' E' hP hQ=>?_,λh' tk hk=>?_⟩
 ·obtain⟨b,e,rfl⟩:=hb.get i v (by simpa using hP);dsimp[e,dX]at hQ;exact eg hQ
 ·have e:((List.range its.toArray.size).all λi=>(bs[i]?).getD true)=bs.all id:=by
   rw[aX,hb.length];exact LSm.range_all bs
  rw[e];exact⟨.bl _,H,I.kept<|LSm.kept_iter hk,rfl,q⟩
def EY:kF X (.builtin "sorted") (λxs H Q=>∃(p:ak) (ns:ag),xs=[.ref p]/\(nJ X.K H p (ns.map V.int)\/nO X.K H p (ns.map V.int))/\ns.length<64 /\
  ∀l (ns':ag),H l=none->ns'.Perm ns->ns'.Pairwise (·<=·)->Q (.ref l) (upd H l<|.lst<|ns'.map V.int)):=by
 w_up;obtain⟨p,ns,rfl,hq,h64,q⟩:=h;kj_on
 cases rx
 have go:∀(its:ba) (T:String) (o:Obj) (n:Nat),(T = "list" \/ T = "tuple")->s.heap.get? p=some o->o.cls=.type T->o.data=.seq its.toArray n->Vals (ns.map V.int) its ->
   wpAny (model X.prog X.w) X.A (call (.builtin "sorted") [.ref p]) (EP X pins σ Q) X.xe s:=by
  intro its T o n hT ho hcl hd rv;have hI:=intsAre_of rv;have hlen:its.length=ns.length:=by have:=rv.length;rw[aG]at this;exact this.symm
  refine gz kind_sorted plain_sorted entry_sorted (args_sorted1 _) ?_;unfold Builtin.«sorted»;refine aH (m:=checkCount "sorted" 1 1 _)<|aR ?_;refine aH (wpAny_collect_seq p hT ho hcl hd (λh' hk=>?_)<|by rw[aX,hlen,dw];lia);refine aH<|jd ?_;have hoL:(h'.push<|seqObj "list" its.toArray 0).get? h'.objs.size=some (seqObj "list" its.toArray 0):=bq _ rfl
  skip
  refine aH<|dF<|cH slot_list_sort ⟨_,hoL,rfl⟩ entry_list_sort (list_sort_tree hoL hI () λout ns' a1 a2 a3=>⟨_,rfl,?_⟩)<|args_list_sort _;obtain⟨e,he⟩:=sortedHeap_at (out:=out) hoL;have hl':ns'.length=ns.length:=a2.length_eq;have I1:Inv X pins σ H { s with heap:=h' }:=I.kept (t':=s.toks) hk;have old:∀b ob,h'.get? b=some ob->(sortedHeap (h'.push<|seqObj "list" its.toArray 0) h'.objs.size its out).get? b=some ob:=λb ob eb=>by
   rw[sortedHeap_old (bC<|a_ eb)<|by rw[fN];exact fj<|a_ eb];exact aQ _ eb
  refine aR ⟨_,rfl,.ref h'.objs.size,_,I1.laid (t':=s.toks) (o:=.lst<|ns'.map V.int) old (aO _) ?_,rfl,q _ ns' (I1.hok.fresh<|aO _) a2 a3⟩;refine⟨by rw[aG,hl',dw];lia,out.toList,e,zG a1,?_⟩;rw[he]
 rcases hq with hq|hq
 ·obtain⟨its,rv,pl,hz⟩:=I.list hq;obtain⟨o,ho,hcl,n,hd⟩:=pl.isList;exact go its "list" o n (.inl rfl) ho hcl hd rv
 ·obtain⟨its,rv,pl,hz⟩:=I.tuple hq;obtain⟨o,ho,hcl,n,hd⟩:=pl;exact go its "tuple" o n (.inr rfl) ho hcl hd rv
def Ei:kF X (.type "range") (λxs H Q=>∃i j,xs=[.int i,.int j]/\∀p,H p=none->Q (.ref p) (upd H p<|.rng i j)):=by
 w_up;obtain⟨i,j,rfl,q⟩:=h;obtain⟨u,w',rfl,⟨t,rfl⟩,⟨t',rfl⟩⟩:=vals2 r;refine call_range_2 ⟨.ref s.heap.objs.size,_,I.laid (o:=.rng i j) (λb o e=>aQ _ e) (aO _) ?_,rfl,q _ I.fresh⟩;exact⟨t,t',s.toks,bq _ rfl⟩
abbrev kK (i j:Int):ag:=(List.range (j-i).toNat).map λk:Nat=>i+(k:Int)
def oZ(i j:Int):(kK i j).length=(j-i).toNat:=by unfold kK;rw[aG,cF]
def BK{i:Int}{n:Nat}{acc:Array af}(h:ItemsOf (λk v=>∃t,v=Value.int (i+(k:Int) * 1) t) acc n):Vals (((List.range n).map λk:Nat=>i+(k:Int)).map V.int) acc.toList:=by
 obtain⟨hs,hv⟩:=h;have gen:∀(l:ba) (b:Nat),(∀j v,l[j]?=some v->∃t,v=Value.int (i+((b+j:Nat):Int)) t)->Vals (((List.range' b l.length).map λk:Nat=>i+(k:Int)).map V.int) l:=by
  intro l
  induction l with
  | nil=>intro b _;exact .nil
  | cons v l ih=>
   intro b hb;rw[bz,List.range'_succ,bJ,bJ];refine .cons ?_ ?_
   ·obtain⟨t,e⟩:=hb 0 v rfl;exact⟨t,by rw[e];simp⟩
   ·refine ih (b+1) λj w hw=>?_;obtain⟨t,e⟩:=hb (j+1) w hw;exact⟨t,by rw[e,show b+(j+1)=b+1+j by lia]⟩
 have:=gen acc.toList 0 λj v hj=>by
  obtain⟨t,e⟩:=hv j v (by simpa using hj);exact⟨t,by rw[e,bR,Int.mul_one]⟩
 rw[dR,hs,<- fm]at this;exact this
def QO{i j:Int}:Builtin.Range.rangeSize i j 1=(((j-i).toNat:Nat):Int):=by rw[rangeSize_one];split<;>omega
def CL(hc:X.calm=true):kF X (.type "list") (λxs H Q=>∃p i j,xs=[.ref p]/\H p=some (.rng i j)/\(-(2 ^ 62)<=i/\i<2 ^ 62/\-(2 ^ 62)<=j/\j<2 ^ 62)/\(j-i).toNat<=1000/\∀l,H l=none->Q (.ref l) (upd H l<|.lst<|(kK i j).map V.int)):=by
 w_up;obtain⟨p,i,j,rfl,hp,⟨b1,b2,b3,b4⟩,hn,q⟩:=h;kj_on
 cases rx
 obtain⟨t,u',v,e⟩:=I.hok p _ hp;refine call_list_range (n:=(j-i).toNat) (I.ok.hd hc) e (small_one b1 b2 b3 b4) QO () λh' tk acc' c' hk hS hacc=>?_;refine⟨.ref s.heap.objs.size,_,I.laid (o:=.lst<|(kK i j).map V.int) hk (aO _) ⟨?_,acc'.toList,c',BK hacc,by rw[hS]⟩,rfl,q _ I.fresh⟩;rw[aG,oZ,dw];lia
end
section
variable {X:Cx}
def zT{prog:aj}{w:ah}{A:az}{E:af->aA->Prop}{s:aA}{Q:ba->aA->Prop}{r:ak}{a b c:Int}{t v:Tok}{n:Nat}(hh:A.handled=none)(hr:IsRange s.heap r a b c t u v)(hsmall:Builtin.Range.small a b c=true)
  (hn:Builtin.Range.rangeSize a b c=n) (hlen:n<=2 ^ 24)
  (hQ:∀h' tk (acc':Array af),(∀b o,s.heap.get? b=some o->h'.get? b=some o)->ItemsOf (λi v=>∃t,v=.int (a+i * c) t) acc' n->Q acc'.toList { s with heap:=h',toks:=tk }) :
  wpAny (model prog w) A (collect<|.ref r) Q E s:=by
 unfold collect;refine aH<|wpAny_runValue<|gI F.entry_proto_collect ?_;rw[gc F.plain_proto_collect _]
 skip
 refine aH<|b9 ?_;refine aR ⟨plainId_quiet F.plain_list_iadd _,gI F.entry_list_iadd ?_⟩;rw[gc F.plain_list_iadd _]
 skip
 have hS:(s.heap.push {}).get? s.heap.objs.size=some { cls:=.type "list",data:=.seq #[] 0 }:=bq _ rfl;have fin':∀(h':aq) (tk:Nat) (acc':Array af) (c':Nat),(∀b o,b≠s.heap.objs.size->(s.heap.push {}).get? b=some o->h'.get? b=some o) ->
   h'.get? s.heap.objs.size=some { cls:=.type "list",dict:=none,data:=.seq acc' c',slots:=#[]}->ItemsOf (λi v=>∃t,v=.int (a+i * c) t) acc' n ->
   wpAny (model prog w) A (match Value.ref s.heap.objs.size with
   | Value.ref a=>do
    match (<- load a).data with
     | Data.seq xs _=>pure xs.toList
     | _=>unsupported "internal:collect"
   | _=>unsupported "internal:collect") Q E { s with heap:=h',toks:=tk }:=by
  intro h' tk acc' c' hk hS' hacc
  skip
  refine aH<|wpAny_load hS' ?_;refine aR ?_;exact hQ h' tk acc' (λb o e=>hk b o (bC<|a_ e)<|aQ _ e) hacc
 refine iz (wpAny_extend_range (A:=A) (R:=λrr s'=>rr=.ok (.ret<|.ref s.heap.objs.size)/\∃h' tk acc' c',s'={ s with heap:=h',toks:=tk }/\(∀b o,b≠s.heap.objs.size->(s.heap.push {}).get? b=some o->h'.get? b=some o) /\
   h'.get? s.heap.objs.size=some { cls:=.type "list",dict:=none,data:=.seq acc' c',slots:=#[]}/\ItemsOf (λi v=>∃t,v=.int (a+i * c) t) acc' n)
  (s:={ s with heap:=s.heap.push {}}) hh (aQ _ hr) hsmall hn hlen s.heap.objs.size (.ref s.heap.objs.size) 0 hS
  (λh' tk acc' c' hk hS' hacc=>⟨rfl,h',tk,acc',c',rfl,hk,hS',hacc⟩)) (λfin s' h=>?_) λe s' h=>?_
 ·cases fin with
  | done f=>
   obtain⟨e,h',tk,acc',c',rfl,hk,hS',hacc⟩:=h
   cases e
   exact fin' h' tk acc' c' hk hS' hacc
  | again c'=>exact⟨h.1,iT h.2 λr s'' hr=>by
    obtain⟨rfl,h',tk,acc',c',rfl,hk,hS',hacc⟩:=hr;exact fin' h' tk acc' c' hk hS' hacc⟩
 ·exact absurd h.1<|by simp
def wK(l:ak){a b:Int}{t v:Tok}{n:Nat}(hsmall:Builtin.Range.small a b 1=true)
  (hn:Builtin.Range.rangeSize a b 1=n) (hlen:n<=1000) :
  Meets (Builtin.«tuple.__new__» ⟨[.type "tuple",.ref l],[]⟩)
   (λA R s=>A.handled=none/\IsRange s.heap l a b 1 t u v/\∀(h':aq) (tk:Nat) (acc':Array af),(∀b o',s.heap.get? b=some o'->h'.get? b=some o')->ItemsOf (λi v=>∃t,v=.int (a+i * 1) t) acc' n->R (.ok<|.ret<|.ref h'.objs.size) { s with heap:=h'.push { cls:=.type "tuple",data:=.seq acc' },toks:=tk }):=
 .of_wp λprog w A R s h=>by
  obtain⟨hp,g,d,tk,os⟩:=s;obtain⟨hh,ht,h⟩:=h;have hsub:=sub_tuple_self;have hinit:=init_tuple_lookup;have hmh:=madeHere_tuple;have hT:Shared.TypeIs ⟨hp,g,d,tk,os⟩ (.ref l) "range" := ⟨_,ht,rfl⟩;have hh':A.in1.handled=none:=hh
  wp_walk using cJ ht,fS hT,zT (A:=A.in1) hh' ht hsmall hn (by omega)
  intro h' tk' acc' hk hacc;show wpAny _ _ (Builtin.Tuple.tupleExact acc'.toList.toArray >>= λv=>ret v) _ _ _;unfold Builtin.Tuple.tupleExact;have e:acc'.toList.toArray=acc':=by simp
  refine aH (b9 ?_<|by show acc'.toList.toArray.size<=sizeLine;rw[e,hacc.1,dw];omega);refine aR ⟨_,rfl,?_⟩;rw[e];exact h h' tk' acc' hk hacc
def Cy(hc:X.calm=true):kF X (.type "tuple") (λxs H Q=>∃p i j,xs=[.ref p]/\H p=some (.rng i j)/\(-(2 ^ 62)<=i/\i<2 ^ 62/\-(2 ^ 62)<=j/\j<2 ^ 62)/\(j-i).toNat<=1000/\∀l,H l=none->Q (.ref l) (upd H l<|.tup<|(kK i j).map V.int)):=by
 w_up;obtain⟨p,i,j,rfl,hp,⟨b1,b2,b3,b4⟩,hn,q⟩:=h;kj_on
 cases rx
 obtain⟨t,u',v,e⟩:=I.hok p _ hp;refine callType_new F.called_tuple ⋯ (F.typeCall_tuple_1 _) (F.newCall_tuple_1 _) (λobj=>iH obj _) F.entry_tuple_new
  (wK (n:=(j-i).toNat) p (small_one b1 b2 b3 b4) QO hn) ⟨I.ok.hd hc,e,λh' tk acc' hk hacc=>⟨⟨_,bq _ rfl,rfl⟩,?_⟩⟩
 have I1:Inv X pins σ H { s with heap:=h',toks:=tk }:=I.kept hk;refine⟨.ref h'.objs.size,_,I1.laid (t':=tk) (o:=.tup<|(kK i j).map V.int) (λb o e=>aQ _ e) (aO _) ⟨?_,acc'.toList,BK hacc,?_⟩,rfl,q _<|I1.hok.fresh<|aO _⟩
 ·rw[aG,oZ,dw];lia
 ·have e:acc'.toList.toArray=acc':=by simp
  rw[e];exact pN.new _ _
def Ge{c:String}:kF X (.builtin "isinstance") (λxs H Q=>∃x t b,xs=[x,.ty c]/\TyOf X.K H x t/\PySem.W.kitOne X.K t (.type c)=some b/\Q (.bl b) H):=by
 w_up;obtain⟨x,t,b,rfl,ty,e,q⟩:=h;obtain⟨u,w',rfl,rx,rc⟩:=vals2 r
 cases rc
 exact Mi I rx ty e λtk=>⟨.bl b,H,I.tok tk,rfl,q⟩
abbrev Yi (K:au):R2:=λx y H Q=>∃a b ys,x=.ref a/\y=.ref b/\nO K H a []/\nO K H b ys/\Q (.ref b) H
def Qp:pV X (binaryOp .Add) (Yi X.K):=by
 kcf_m;obtain⟨a,b,ys,rfl,rfl,h1,h2,q⟩:=h
 cases rx
 cases ry
 obtain⟨us,r1,p1,_⟩:=I.tuple h1;obtain⟨ws,r2,p2,_⟩:=I.tuple h2
 cases r1
 obtain⟨⟨cls,dd,data,sl⟩,ho,hc,n,hd⟩:=id p1;obtain⟨⟨cls2,dd2,data2,sl2⟩,ho2,hc2,n2,hd2⟩:=id p2;simp only at hc hd hc2 hd2;subst hc hd hc2 hd2;exact concat_meets ⟨_,ho,rfl⟩ ⟨_,ho2,rfl⟩ noFill_tuple_add seq_tuple_add gQ gO (gC _ _)
   (tuple_addW0 a b _ ws.toArray n n2 dd dd2 sl sl2<|by simp) ⟨ho,ho2,⟨.ref b,H,I,rfl,q⟩⟩
end
def nN:bootBuiltins "len" = some (.builtin "len"):=by decide +kernel
def Xz:bootBuiltins "all" = some (.builtin "all"):=by decide +kernel
def YZ:bootBuiltins "max" = some (.builtin "max"):=by decide +kernel
def Yo:bootBuiltins "min" = some (.builtin "min"):=by decide +kernel
def qQ:bootBuiltins "sorted" = some (.builtin "sorted"):=by decide +kernel
def kW:bootBuiltins "isinstance" = some (.builtin "isinstance"):=by decide +kernel
def HS:bootBuiltins "int" = some (.type "int"):=by decide +kernel
def JD:bootBuiltins "bool" = some (.type "bool"):=by decide +kernel
def wk:bootBuiltins "list" = some (.type "list"):=by decide +kernel
def qi:bootBuiltins "tuple" = some (.type "tuple"):=by decide +kernel
def Bj:bootBuiltins "range" = some (.type "range"):=by decide +kernel
structure Blt (mg:Str->bd):Prop where
 len:mg "len" = none
 abs:mg "abs" = none
 all:mg "all" = none
 any:mg "any" = none
 max:mg "max" = none
 min:mg "min" = none
 sorted:mg "sorted" = none
 isinstance:mg "isinstance" = none
 int:mg "int" = none
 bool:mg "bool" = none
 str:mg "str" = none
 list:mg "list" = none
 tuple:mg "tuple" = none
 range:mg "range" = none
def Kq:∀{a b:ag},a.Perm b->a.Pairwise (·<=·)->b.Pairwise (·<=·)->a=b:=λp ha hb=>
 d8 (λx y _ _ h1 h2=>jy h1 h2) ha hb p
def ED(i j:Int):(kK i j).Pairwise (·<=·):=by
 unfold kK;rw[cI];exact gS.imp λh=>()
def oz(i j:Int):(kK i j).Nodup:=by
 unfold kK;rw[List.Nodup,cI];exact gS.imp λh=>()
def nU{i j k:Int}:k∈kK i j ↔ i<=k/\k<j:=by
 unfold kK;rw[br];constructor
 ·rintro⟨a,ha,rfl⟩;have:=dD.mp ha
  lia
 ·rintro⟨h1,h2⟩;exact⟨(k-i).toNat,dD.mpr (),()⟩
theorem vB:∀{l m:ag},l.Nodup->(∀x∈l,x∈m)->m.length<=l.length->l.Perm m
 | [],m,_,_,h=>by
  have:m=[]:=eE.mp<|Nat.le_zero.mp h;rw[this]
 | a::l,m,nd,hs,hl=>by
  have ha:a∈m:=hs a aM;have nd':=dg.mp nd;have pm:m.Perm (a::m.erase a):=List.perm_cons_erase ha;have ih:=vB (l:=l) (m:=m.erase a) nd'.2 (λx hx=>by
   have hxa:x≠a:=λe=>nd'.1<|e ▸ hx;exact(List.mem_erase_of_ne hxa).mpr (hs x<|aN _ hx)) (by
   rw[List.length_erase_of_mem ha];dsimp[bz]at hl
   lia)
  exact(List.Perm.cons a ih).trans pm.symm
abbrev Kn (P:aj)(w:ah)(K:au)(mg:Str->bd)(base:aq)(k:Nat)(x:Str)(ps:ar)(sp:Sp):Prop:=
 ∃(f:ak) (fd:FuncData),FnOk P w K mg base qm k f fd ps sp/\mg x=some (.ref f)/\PySem.W.keepIn K (.ref f)=true/\Binds K fd ps []
def ZW{X:Cx}{k:Nat}{x:Str}{sp:Sp}{e:aC}{t:TA}{p:Pos}(G:Kn X.prog X.w X.K X.mg X.base k x ps sp)(hr:Room k X.A)(ha:PA X (e::es) t)(hg:Gl X x:=by rfl)
  (hdb:(x == ("__debug__" : Str))=false:=by decide) (hs:starEach (e::es) X.env=(false,eval e X.env)::starEach es X.env:=by rfl) (hplain:(backTo pos<|starEach es X.env).any (·.1)=false:=by rfl) :
  PE X (.Call (.Name x p) (e::es) [] pos) (VT sp [] E0 t):=by
 obtain⟨f,fd,F,hm,hk,hb⟩:=G;exact Vg F hr hg hm hk hb .nil aaY ha hdb hs hplain
abbrev Bw (XN fs:ar):ar->List (bn)->Prop
 | [],[]=>True
 | _::N,none::c=>Bw XN fs N c
 | x::N,some j::c=>XN[j]?=some x/\x∈fs/\Bw XN fs N c
 | _,_=>False
theorem Bw.len{fs:ar}:∀{N:ar}{c:List<|bn},Bw XN fs N c->c.length=N.length
 | [],[],_=>rfl
 | _::N,none::c,h=>dO (·+1) (Bw.len (N:=N) (c:=c) h)
 | _::N,some j::c,h=>dO (·+1) (Bw.len (N:=N) (c:=c) h.2.2)
 | [],_::_,h=>h.elim
 | _::_,[],h=>h.elim
theorem Bw.cp{fs:ar}:∀{N:ar}{c:List<|bn},Bw XN fs N c->∀(i j:Nat) (x:Str),N[i]?=some x->c[i]?=some (some j)->XN[j]?=some x/\x∈fs
 | [],[],_,i,j,x,h1,_=>by simp at h1
 | y::N,none::c,h,i,j,x,h1,h2=>by
  cases i with
  | zero=>simp at h2
  | succ i=>exact Bw.cp (N:=N) (c:=c) h i j x (by simpa using h1)<|by simpa using h2
 | y::N,some k::c,h,i,j,x,h1,h2=>by
  cases i with
  | zero=>
   simp at h1 h2;subst h1 h2;exact⟨h.1,h.2.1⟩
  | succ i=>exact Bw.cp (N:=N) (c:=c) h.2.2 i j x (by simpa using h1)<|by simpa using h2
 | [],_::_,h,_,_,_,_,_=>h.elim
 | _::_,[],h,_,_,_,_,_=>h.elim
def r_{X:Cx}{scope:Scope}{N:ar}(fs:ar)(kind:scope.kind=.function)(nocell:∀y∈scope.names,y.2≠.cell)(nm:∀y∈scope.names,y.2=.local->scope.names.lookup y.1=some .local)
  (nolf:∀y∈scope.names,y.2=.free->scope.names.lookup y.1≠some .local) (hf:∀y∈scope.names,y.2=.free->y.1∈fs) (hfs:∀x∈fs,(x,NameKind.free)∈scope.names) (hk:∀x∈fs,X.env.kindOf x=some .cell\/X.env.kindOf x=some .free) (cp:Bw X.N fs N cap):CpScope X scope N cap where
 kind:=kind
 nocell:=nocell
 nm:=nm
 fr:=λy hy e=>hk _ (hf y hy e)
 rl:=λy h=>by
  have go:∀k,(k=NameKind.cell\/k=NameKind.free)->(relabel scope X.env).names.lookup y=some k->(y,NameKind.free)∈scope.names:=λk hk e=>by
   obtain⟨⟨n',k'⟩,hm1,hm2⟩:=br.mp<|Ba e;dsimp only at hm2;split at hm2
   ·rename_i hc
    cases hm2
    have:k'=.free:=by
     dsimp[fM]at hc;simpa using hc.1.1
    subst this;exact hm1
   ·cases hm2
    rcases hk with rfl|rfl
    ·exact absurd rfl (nocell _ hm1)
    ·exact hm1
  rcases h with h|h
  ·exact go _ (.inl rfl) h
  ·exact go _ (.inr rfl) h
 len:=cp.len
 nolf:=λx hx=>nolf (x,.free) hx rfl
 cp:=λi j x h1 h2=>by
  obtain⟨a,b⟩:=cp.cp i j x h1 h2;exact⟨a,hfs x b⟩
inductive Kd where
 | non|bl|int|str|lst|tup
 deriving DecidableEq
abbrev Kd.ty:Kd->af
 | .non=>.type "NoneType" | .bl=>.type "bool" | .int=>.type "int" | .str=>.type "str" | .lst=>.type "list" | .tup=>.type "tuple"
abbrev W0 (H:Hp)(x:V):Kd->Prop
 | .non=>x=.non
 | .bl=>∃b,x=.bl b
 | .int=>∃i,x=.int i
 | .str=>∃s,x=.str s
 | .lst=>∃a xs,x=.ref a/\H a=some (.lst xs)
 | .tup=>∃a xs,x=.ref a/\H a=some (.tup xs)
def W0.abv{K:au}{H:Hp}{x:V}{k:Kd}(h:W0 H x k):TyOf K H x k.ty:=by
 cases k with
 | non=>cases h;exact .non
 | bl=>obtain⟨b,rfl⟩:=h;exact .bl b
 | int=>obtain⟨b,rfl⟩:=h;exact .int b
 | str=>obtain⟨b,rfl⟩:=h;exact .str b
 | lst=>obtain⟨a,xs,rfl,e⟩:=h;exact .lst e
 | tup=>obtain⟨a,xs,rfl,e⟩:=h;exact .tup e
def Vi{K:au}(k:Kd):PySem.W.kitOne K k.ty (.type "int")=some (decide<|k=.int\/k=.bl):=by cases k<;>rfl
def N2{K:au}(k:Kd):PySem.W.kitOne K k.ty (.type "bool")=some (decide<|k=.bl):=by cases k<;>rfl
def kit_tuple{K:au}(k:Kd):PySem.W.kitOne K k.ty (.type "tuple")=some (decide<|k=.tup):=by cases k<;>rfl
def RV{K:au}(k:Kd):PySem.W.kitOne K k.ty (.type "list")=some (decide<|k=.lst):=by cases k<;>rfl
section
variable {prog:aj}{w:ah}{A:az}{E:af->aA->Prop}{s:aA}
def xM{t:ak}{i:Nat}{x:af}{Q:af->aA->Prop}(hit:s.heap.IsTupleIter it t i)
  (ht:s.heap.IsTuple t items) (hx:items[i]?=some x) (hQ:∀h',h'.IsTupleIter it t (i+1)->Heap.SameBut it s.heap h'->Q x { s with heap:=h' }) :
  wpAny (model prog w) A (Builtin.SmallTypes.nextOf<|.ref it) Q E s:=by
 obtain⟨o,ho,hc,hd⟩:=id hit;obtain⟨ol,hol,_,nl,hdl⟩:=ht;unfold Builtin.SmallTypes.nextOf;refine aH (cU (name:=Str.ofString "__next__") hit.typeIs eO
  (cH eO hit.typeIs F.entry_tuple_iterator_next ?_<|F.args_tuple_iterator_next_1 _))
 show wpAny _ _ (field (.ref it) 0 >>= _) _ _ s;refine aH (fh ho hd (x:=.ref t) rfl ?_)
 skip
 rw[aJ<|show ¬((Value.ref t == Value.none)=true)from bM]
 skip
 refine aH (fh ho hd (x:=.int i 0) rfl ?_)
 skip
 refine aH<|iW hol hdl ?_;dsimp[c9,hx];refine aH (gT ho hd (by simp)<|aR ⟨x,rfl,aR<|hQ _ ?_<|fH ..⟩);exact⟨_,f6 _ ho<|iu<|eS hd _,(i9 ..).trans hc,by
  rw[eS hd];simp[rawInt]⟩
def yR{t:ak}{i:Nat}{Q:af->aA->Prop}(hh:A.handled=none)
  (hit:s.heap.IsTupleIter it t i) (ht:s.heap.IsTuple t items) (hx:items[i]?=none)
  (hE:∀h' e,Heap.ExtBut it s.heap h'->(∃o,h'.get? e=some o/\o.cls=.type "StopIteration")->E (.ref e) { s with heap:=h' }) :
  wpAny (model prog w) A (Builtin.SmallTypes.nextOf<|.ref it) Q E s:=by
 obtain⟨o,ho,hc,hd⟩:=id hit;obtain⟨ol,hol,_,nl,hdl⟩:=ht;unfold Builtin.SmallTypes.nextOf;refine aH (cU (name:=Str.ofString "__next__") hit.typeIs eO
  (cH eO hit.typeIs F.entry_tuple_iterator_next ?_<|F.args_tuple_iterator_next_1 _))
 show wpAny _ _ (field (.ref it) 0 >>= _) _ _ s;refine aH (fh ho hd (x:=.ref t) rfl ?_)
 skip
 rw[aJ<|show ¬((Value.ref t == Value.none)=true)from bM]
 skip
 refine aH (fh ho hd (x:=.int i 0) rfl ?_)
 skip
 refine aH<|iW hol hdl ?_;dsimp[c9,hx];refine aH (eT<|aH<|gT ho hd (by simp) ?_)
 skip
 refine aH ?_;dsimp[newExc,newTuple];refine aH (b9 ?_<|by size_fits);refine aH (m:=firstArgMember _ _) (iI (a:=Value.none) (by first|rfl|(dsimp[firstArgMember];rfl)) ?_);refine b9 ?_ (by size_fits);dsimp[raiseNew];refine aH (wpAny_handled ?_)
 first|rw[show A.in1.handled=none from hh]|rw[hh]
 refine aH<|aR<|wpAny_throw ?_;exact hE _ _ (((fH ..).extBut.push _).push _) ⟨_,bq _ rfl,rfl⟩
end
def NB{prog:aj}{w:ah}{A:az}(hh:A.handled=none)(it l:ak)(hne:l≠it)(items:Array af) :
  Draws prog w A it [it,l] items.size (λi v=>items[i]?=some v) (λi h=>h.IsTupleIter it l i/\h.IsTuple l items) where
 live:=λ_ _ st=>let⟨o,ho,_⟩:=st.1;⟨o,ho⟩
 frame:=λ_ _ _ st hk=>⟨st.1.at λo e=>hk it (by simp) o e,let⟨o,ho,r⟩:=st.2;⟨o,hk l (by simp) o ho,r⟩⟩
 item:=λi s Q E hi st hQ=>by
  refine xM st.1 st.2 (x:=items[i]) (by simp[hi]) λh' hit' hs'=>?_;exact hQ _ h' s.toks (by simp[hi]) ⟨hit',let⟨o,ho,r⟩:=st.2;⟨o,hs'.extBut l o hne ho,r⟩⟩ hs'
 done:=λs Q E st hE=>yR hh st.1 st.2 (by simp) hE
def GH(l:ak)(items:Array af) :
  Meets (Builtin.«enumerate.__new__» ⟨[.type "enumerate",.ref l],[]⟩) (λ_ R s=>s.heap.IsTuple l items /\
   R (.ok<|.ret<|.ref (s.heap.push { cls:=.type "tuple_iterator",data:=.fields #[.ref l,.int 0 0]}).objs.size)
    { s with heap:=(s.heap.push { cls:=.type "tuple_iterator",data:=.fields #[.ref l,.int 0 0]}).push { cls:=.type "enumerate",data:=.fields #[.none,.bool false,.ref s.heap.objs.size,rawInt 0,.none,.none]}}):=
 .of_wp λprog w A R s h=>by
  obtain⟨hp,g,d,tk,os⟩:=s;obtain⟨hl,h⟩:=h;have hsub:=sub_enumerate;obtain⟨ol,hol,hcl,nl,hdl⟩:=id hl
  wp_walk using cJ hol
  refine wpAny_stack_any λst=>aR ?_;split
  ·rename_i c _ _ _ _ _
   cases(c == Value.type "enumerate")
   ·wp_walk using cJ hol,gJ hl
    exact⟨_,rfl,h⟩
   ·wp_walk using cJ hol,gJ hl
    exact⟨_,rfl,h⟩
  ·wp_walk using cJ hol,gJ hl
   exact⟨_,rfl,h⟩
abbrev Ite (K:au)(a:ak):It:=
 ⟨λi H=>∃xs x,nO K H a xs/\xs[i]?=some x,λi H x H'=>∃T,H T=none/\x=.ref T/\∀xs y,nO K H a xs->xs[i]?=some y->H'=upd H T (.tup [.int i,y]),λi H=>∃xs,nO K H a xs/\xs.length=i⟩
def Im{P:aj}{w:ah}{K:au}(a e it:ak)(hei:e≠it):Turn P w K (.Tuple elts x1 tpos) (Ite K a) [e,it] e (λi h=>(∃old,IsEnum h e it i old)/\h.IsTupleIter it a i) where
 mem:=by simp
 obj:=λi h st b hb=>by
  obtain⟨⟨old,st1⟩,st2⟩:=st;have hb':b=e\/b=it:=by simpa using hb
  rcases hb' with rfl|rfl
  ·exact⟨_,st1,λv z=>by cases z⟩
  ·obtain⟨o,e,c,d⟩:=st2;exact⟨o,e,λv z=>by rw[d]at z;cases z⟩
 keep:=λi h h' st k=>by
  obtain⟨⟨old,st1⟩,st2⟩:=st;exact⟨⟨old,k e (by simp) _ st1⟩,st2.at λo ho=>k it (by simp) o ho⟩
 item:=by
  z_go;subst hP hw hK;obtain⟨⟨old,st1⟩,st2⟩:=st;obtain⟨xs,x,hq,hx⟩:=hg;obtain⟨its,rv,p,hz⟩:=I.tuple hq;obtain⟨u,hu,ru⟩:=rv.get hx;have hia:a≠it:=by
   obtain⟨o,ho,hc1,_⟩:=p;obtain⟨o2,ho2,hc2,_⟩:=st2;intro z;rw[z,ho2]at ho
   cases ho
   rw[hc1]at hc2;exact absurd (Value.type.inj hc2) ⋯
  have hea:e≠a:=by
   obtain⟨o,ho,hc1,_⟩:=p;intro z;rw[<- z,st1]at ho
   cases ho
   exact absurd (Value.type.inj hc1) ⋯
  have hlt:i<its.toArray.size:=by
   rw[aX];exact(aK.mp hu).1
  refine wpAny_pyNext_enum_itemD (NB (A:=X.A.in1) (I.ok.hd hc) it a hia its.toArray) st1 ⟨st2,p⟩ hlt hei (by simp[hei,hea]) λx' h' tk hP hout hst hT hsz hk=>?_;have ex:x'=u:=by
   have:its.toArray[i]?=some u:=by simpa using hu
   rw[this]at hP;exact(bh hP).symm
  subst ex;refine⟨_,rfl,wpAny_letOwnedTupleGo_enum hout λh2 he2 hs2=>?_⟩;have fT:H s.heap.objs.size=none:=I.hok.fresh<|aO _;have hel:e<s.heap.objs.size:=a_ st1;have hil:it<s.heap.objs.size:=by obtain⟨o,ho,_⟩:=st2;exact a_ ho
  have k2:∀b o,b≠e->b≠it->s.heap.get? b=some o->h2.get? b=some o:=λb o h1 h3 q=>hs2.extBut b o h1<|hk b o h1 h3 q;have hT2:h2.get? s.heap.objs.size=some { cls:=.type "tuple",data:=.seq #[.int i tk,x']}:=hs2.extBut _ _ (ju hel) hT;obtain⟨e0,e1,e2,e3,e4,e5⟩:=hf e (by simp);obtain⟨i0,i1,i2,i3,i4,i5⟩:=hf it (by simp);have nT:∀b o,s.heap.get? b=some o->b≠s.heap.objs.size:=λb o q=>bC<|a_ q;have ne_tr:∀c v,H c=some v->c≠e/\c≠it:=λc v q=>⟨(λz=>by rw[z,e0]at q;cases q),(λz=>by rw[z,i0]at q;cases q)⟩;have I2:Inv X pins σ (upd H s.heap.objs.size<|.tup [.int i,x]) { s with heap:=h2,toks:=tk+1 }:=by
   refine I.step (g':=s.gens) (d':=s.drawn) (ch:=[e,it]) (λb hb=>?_) (λb o _ _ hch q _=>?_) (λb o _ _ hch q _=>?_) (λb o hch q n=>?_) (λb o hch q=>?_) (λb ys q=>?_) (λb o u' q=>?_) (λb ps q=>?_) (λm hm=>?_) (λb u' q=>?_) I.bare
   ·have hb':b=e\/b=it:=by simpa using hb
    rcases hb' with rfl|rfl
    ·exact⟨e3,e1,e4,e5⟩
    ·exact⟨i3,i1,i4,i5⟩
   ·exact k2 b o (λz=>hch<|by simp[z]) (λz=>hch<|by simp[z]) q
   ·exact⟨o.slots,k2 b o (λz=>hch<|by simp[z]) (λz=>hch<|by simp[z]) q⟩
   ·rw[jV<|nT b o q];exact n
   ·exact⟨o,k2 b o (λz=>hch<|by simp[z]) (λz=>hch<|by simp[z]) q⟩
   ·rw[jV<|j5 q fT];exact q
   ·rw[jV<|j5 q fT];exact q
   ·exact⟨#[],by rw[jV<|j5 q fT,q];simp⟩
   ·obtain⟨o,es,ep,ho,r⟩:=hm;exact⟨o,es,ep,k2 _ o (cO e1) (cO i1) ho,r⟩
   ·by_cases z:b=s.heap.objs.size
    ·subst z;rw[kZ]at q
     cases q
     exact⟨by show 2<=sizeLine;decide,[.int i tk,x'],.cons ⟨tk,rfl⟩<|.cons ru .nil,⟨_,hT2,rfl,rfl,0,rfl⟩⟩
    ·rw[jV z]at q;refine(I.hok b u' q).stay (λc v hc q'=>k2 c v ?_ ?_ q') (λc q'=>?_) λc ys q'=>?_
     ·rcases hc with z|z
      ·rw[z];exact(ne_tr b u' q).1
      ·exact(ne_tr c _ z).1
     ·rcases hc with z|z
      ·rw[z];exact(ne_tr b u' q).2
      ·exact(ne_tr c _ z).2
     ·rw[jV<|j5 q' fT];exact q'
     ·rw[jV<|j5 q' fT];exact q'
  refine⟨.ref s.heap.objs.size,_,I2,rfl,⟨s.heap.objs.size,fT,rfl,λys y hy hyi=>?_⟩,⟨⟨x',by simpa using he2⟩,?_⟩,λb hb=>?_⟩
  ·rw[I.za hy hq]at hyi;rw[hx]at hyi
   cases hyi
   rfl
  ·exact hst.1.at λo ho=>hs2.extBut it o (cO hei) ho
  ·have hb':b=e\/b=it:=by simpa using hb
   rcases hb' with rfl|rfl
   ·rw[jV<|bC hel];exact e0
   ·rw[jV<|bC hil];exact i0
 done:=by
  z_go;subst hP hw hK;obtain⟨⟨old,st1⟩,st2⟩:=st;obtain⟨xs,hq,hx⟩:=hg;obtain⟨its,rv,p,hz⟩:=I.tuple hq;obtain⟨i0,i1,i2,i3,i4,i5⟩:=hf it (by simp);have hia:a≠it:=by
   obtain⟨o,ho,hc1,_⟩:=p;obtain⟨o2,ho2,hc2,_⟩:=st2;intro z;rw[z,ho2]at ho
   cases ho
   rw[hc1]at hc2;exact absurd (Value.type.inj hc2) ⋯
  have hl:=rv.length;have ei:its.toArray.size=i:=by rw[aX,<- hl,hx]
  exact wpAny_pyNext_enum_endD (NB (A:=X.A.in1) (I.ok.hd hc) it a hia its.toArray) st1 ⟨by rw[ei];exact st2,p⟩ λh' eb=>⟨rfl,I.turned (t':=s.toks) (λb o hb q=>eb b o hb q) i0 i1 i3 i4 i5⟩
 self:=λ_ _ _ _ _ st h=>let⟨⟨_,st1⟩,_⟩:=st;wpAny_pyIter_enum st1 h
def EC:bootBuiltins "enumerate" = some (.type "enumerate"):=by decide +kernel
section
variable {X:Cx}
abbrev Z8 (K:au)(ta:TA):TI:=λσ H R=>ta σ H λvs H1=>∃a xs,vs=[.ref a]/\nO K H1 a xs/\R (Ite K a) H1
def PN{a:aC}{ta:TA}{p:Pos}(hg:Gl X "enumerate")(hm:X.mg "enumerate" = none)(ha:PA X [a] ta)(hs:starEach [a] X.env=[(false,eval a X.env)]:=by rfl):PI X (.Tuple elts x1 tpos) (.Call (.Name "enumerate" p) [a] [] pos) (Z8 X.K ta):=by
 intro pins s σ H R I h;refine Call_<|uZ I hg hm EC<|c8 (nK (ha pos pins s σ H _ I h) λus s1 ⟨vs,H1,I1,r1,q1⟩=>?_) hs rfl;obtain⟨t,xs,e,hq,q⟩:=q1;subst e;obtain⟨u,rfl,rx⟩:=vals1 r1
 cases rx
 obtain⟨its,rv,pt,hz⟩:=I1.tuple hq;refine callType_new F.called_enumerate ⋯ (F.typeCall_enumerate_1 _) (F.newCall_enumerate_1 _) (λobj=>iH obj _) F.entry_enumerate_new (GH t its.toArray) ⟨pt,⟨_,bq _ rfl,rfl⟩,?_⟩;have I2:Inv X pins σ H1 { s1 with heap:=s1.heap.push { cls:=.type "tuple_iterator",data:=.fields #[.ref t,.int 0 0]}}:=I1.kept (t':=s1.toks) λb o e=>aQ _ e;have I3:Inv X pins σ H1 { s1 with heap:=(s1.heap.push { cls:=.type "tuple_iterator",data:=.fields #[.ref t,.int 0 0]}).push { cls:=.type "enumerate",data:=.fields #[.none,.bool false,.ref s1.heap.objs.size,rawInt 0,.none,.none]}}:=I2.kept (t':=s1.toks) λb o e=>aQ _ e;have he:IsEnum ((s1.heap.push { cls:=.type "tuple_iterator",data:=.fields #[.ref t,.int 0 0]}).push { cls:=.type "enumerate",data:=.fields #[.none,.bool false,.ref s1.heap.objs.size,rawInt 0,.none,.none]}) (s1.heap.push { cls:=.type "tuple_iterator",data:=.fields #[.ref t,.int 0 0]}).objs.size s1.heap.objs.size 0 .none:=bq _ rfl;have hit:((s1.heap.push { cls:=.type "tuple_iterator",data:=.fields #[.ref t,.int 0 0]}).push { cls:=.type "enumerate",data:=.fields #[.none,.bool false,.ref s1.heap.objs.size,rawInt 0,.none,.none]}).IsTupleIter s1.heap.objs.size t 0:=⟨_,aQ _<|bq _ rfl,rfl,rfl⟩;have hne:(s1.heap.push { cls:=.type "tuple_iterator",data:=.fields #[.ref t,.int 0 0]}).objs.size≠s1.heap.objs.size:=by rw[fN];exact ju (fO _)
 refine wpAny_pyIter_enum he ⟨_,[_,s1.heap.objs.size],_,_,H1,rfl,I3,Im t _ s1.heap.objs.size hne,⟨⟨.none,he⟩,hit⟩,λb hb=>?_,q⟩;have hb':b=(s1.heap.push { cls:=.type "tuple_iterator",data:=.fields #[.ref t,.int 0 0]}).objs.size\/b=s1.heap.objs.size:=by simpa using hb
 rcases hb' with rfl|rfl
 ·exact I1.EO (by rw[fN];exact Nat.le_succ _) (I2.hok.fresh<|aO _)
 ·kpf_c
end
end L2
namespace L2
open PySem PySem.Spec PyProof.Rows
open PySem.SeqAt
open PySem.AutoSeq1 (wpAny_loadPart')
open PySem.MeetsSeq PySem.MeetsSeq2 PySem.MeetsSeq3 PySem.SeqAt
section
variable {X:Cx}
def Nr:pV X (binaryOp .FloorDiv) (rI (λ_ j=>0<j/\j<18446744073709551616) λi j=>.int<|i / j):=opI λi j _ _ _ _ _ hc q=>by
 have h1:(0:Int)<j:=hc.1;have h2:j<18446744073709551616:=hc.2;refine floordiv_int (by omega) (by rw[Int.fdiv_eq_ediv_of_nonneg i<|by omega];exact q)<|.inl<|PyProof.noPylong_of_log2 ?_;exact bL ((Nat.log2_lt<|by omega).mpr<|show j.natAbs<2 ^ 64 by omega) ⋯
end
end L2
namespace L2
open PySem PySem.Spec PyProof.Rows
abbrev Its (x:Str):It:=⟨λi _=>i<x.cps.size,λi H v H'=>H'=H/\∃c,x.cps[i]?=some c/\v=.str ⟨#[c]⟩,λi _=>i=x.cps.size⟩
def Q4{P:aj}{w:ah}{K:au}(x:Str)(t:Tok)(it:ak):Turn P w K tg (Its x) [it] it (λi h=>h.IsStrIter it "str_ascii_iterator" x t i) where
 mem:=by simp
 obj:=λi h st b hb=>by
  have e:b=it:=by simpa using hb
  subst e;obtain⟨o,e,c,d⟩:=st;exact⟨o,e,λv z=>by rw[d]at z;cases z⟩
 keep:=λi h h' st k=>let⟨o,ho,r⟩:=st;⟨o,k it (by simp) o ho,r⟩
 item:=by
  z_go;subst hP hw hK;kt_k;have W:=Walks.strAscii (prog:=X.prog) (w:=X.w) (I.ok.hd hc) it x t;refine W.item i s _ _ hg st λv h' tk hv st' kk=>?_;obtain⟨c,u,hcx,rfl⟩:=hv;have I1:Inv X pins σ H { s with heap:=h',toks:=tk }:=I.turned (λb o hb e=>kk b o (by simpa using hb) e) f0 f1 f3 f4 f5;obtain⟨o,e,cc,d⟩:=id st';exact⟨_,rfl,F7 (s:={ s with heap:=h',toks:=tk }) e cc d ⋯ ⟨.str ⟨#[c]⟩,H,I1,⟨u,rfl⟩,⟨rfl,c,hcx,rfl⟩,st',λb hb=>(hf b hb).1⟩⟩
 done:=by
  z_go;subst hP hw hK;kt_k;have hg:i=x.cps.size:=hg;subst hg;have W:=Walks.strAscii (prog:=X.prog) (w:=X.w) (I.ok.hd hc) it x t;exact W.done s _ _ st λh' tk kk=>⟨rfl,I.turned (λb o hb e=>kk b o (by simpa using hb) e) f0 f1 f3 f4 f5⟩
 self:=λ_ _ _ _ _ st h=>wpAny_pyIter_striter_ascii st h
section
variable {X:Cx}{tg:aC}
abbrev abp (tl:TE):TI:=λσ H R=>tl σ H λx H1=>∃y:Str,x=.str y/\y.cps.all (· < 128)=true/\R (Its y) H1
def Xg{l:aC}{tl:TE}(hl:PE X l tl):PI X tg l (abp tl):=by
 intro pins s σ H R I h;refine nK (hl pins s σ H _ I h) λv s1 h9=>?_;obtain⟨x,H1,I1,r1,q1⟩:=h9;obtain⟨y,e,ha,q⟩:=q1;subst e;obtain⟨t,rfl⟩:=r1;refine wpAny_pyIter_ascii ha ?_;refine⟨s1.heap.objs.size,[s1.heap.objs.size],_,_,H1,rfl,I1.kept (t':=s1.toks) λb o e=>aQ _ e,Q4 y t _,⟨_,bq _ rfl,rfl,rfl⟩,λb hb=>?_,q⟩;have e:b=s1.heap.objs.size:=by simpa using hb
 subst e;kpf_c
def MN:kF X (.type "int") (λxs H Q=>∃(y:Str) (n:Int),xs=[.str y]/\y.length<=640/\PySem.intText? y=some n/\Q (.int n) H):=by
 intro pins s σ H xs us Q I rv h;obtain⟨y,n,rfl,hl,hn,q⟩:=h;obtain⟨w,rfl,rw'⟩:=vals1 rv;obtain⟨u,rfl⟩:=rw';exact PySem.W.KIN.call_text hn hl ⟨.int n,H,I.tok _,⟨_,rfl⟩,q⟩
end
section
variable {κ:Type}[DecidableEq κ]
abbrev qY (kvs:List<|κ×V)(k:κ):Option V:=(kvs.find? λkv=>decide<|kv.1=k).map (·.2)
abbrev putK (kvs:List<|κ×V)(k:κ)(v:V):List (κ×V):=
 if (kvs.any λkv=>decide<|kv.1=k)=true then kvs.map (λkv=>if kv.1=k then(kv.1,v)else kv)else kvs++[(k,v)]
def vU{p:κ×V}{r:List<|κ×V}{k:κ}(e:p.1=k):qY (p::r) k=some p.2:=by simp[qY,cR,e]
def vF{p:κ×V}{r:List<|κ×V}{k:κ}(e:¬p.1=k):qY (p::r) k=qY r k:=by simp[qY,cR,e]
theorem yo(k:κ):∀kvs:List<|κ×V,(kvs.any λkv=>decide<|kv.1=k)=(qY kvs k).isSome
 | []=>rfl
 | p::r=>by
  rw[fZ];by_cases e:p.1=k
  ·dsimp[vU e,bg e,Bool.true_or,isSome_some]
  ·rw[vF e,bH e,gD];exact yo k r
def u7(kvs:List<|κ×V)(k:κ)(v:V):(putK kvs k v).length<=kvs.length+1:=by
 unfold putK;split
 ·rw[aG];lia
 ·rw[aS,bz,cg];lia
def zx.zF{o:Option V}{u:bd}(r:zx o u):o.isSome=u.isSome:=by
 cases o with
 | none=>cases u with
  | none=>rfl
  | some _=>exact(show False from r).elim
 | some _=>cases u with
  | none=>exact(show False from r).elim
  | some _=>rfl
def zx.getD{o:Option V}{u:bd}(r:zx o u)(rd:RelV d d'):RelV (o.getD d) (u.getD d'):=by
 cases o with
 | none=>cases u with
  | none=>exact rd
  | some _=>exact(show False from r).elim
 | some _=>cases u with
  | none=>exact(show False from r).elim
  | some _=>exact r
def KV.val(r:KV kvs vs)(k:κ):zx (qY kvs k) (valueAt vs k):=by
 unfold KV at r
 induction r with
 | nil=>exact True.intro
 | @cons p q ps qs h t ih=>
  obtain⟨h1,h2⟩:=h;by_cases e:p.1=k
  ·have e':q.1=k:=h1.symm.trans e;have b:valueAt (q::qs) k=some q.2:=by simp[valueAt,cR,e']
   rw[vU e,b];exact h2
  ·have e':¬q.1=k:=λz=>e<|h1.trans z;have b:valueAt (q::qs) k=valueAt qs k:=by simp[valueAt,cR,e']
   rw[vF e,b];exact ih
def KV.any{kvs:List<|κ×V}{vs:List<|κ×af}(r:KV kvs vs)(k:κ):(kvs.any λkv=>decide<|kv.1=k)=vs.any λkv=>decide (kv.1=k):=by
 unfold KV at r
 induction r with
 | nil=>rfl
 | cons h t ih=>rw[fZ,fZ,ih,h.1]
def KV.repl{kvs:List<|κ×V}{vs:List<|κ×af}(r:KV kvs vs)(k:κ)(ry:RelV y u) :
  KV (kvs.map λkv=>if kv.1=k then(kv.1,y)else kv) (vs.map λkv=>if kv.1=k then(kv.1,u)else kv):=by
 unfold KV at r ⊢
 induction r with
 | nil=>exact .nil
 | @cons p q ps qs h t ih=>
  rw[bJ,bJ];refine .cons ?_ ih;obtain⟨h1,h2⟩:=h;by_cases e:p.1=k
  ·rw[aL e,aL<|h1.symm.trans e];exact⟨h1,ry⟩
  ·rw[aJ e,aJ λz=>e<|h1.trans z];exact⟨h1,h2⟩
def KV.put(r:KV kvs vs)(k:κ)(ry:RelV y u):KV (putK kvs k y) (stored vs k u):=by
 unfold putK stored;rw[r.any k];by_cases e:(vs.any λkv=>decide<|kv.1=k)=true
 ·rw[aL e,aL e];exact r.repl k ry
 ·rw[aJ e,aJ e];exact Paired.snoc r ⟨rfl,ry⟩
def KV.length{kvs:List<|κ×V}{vs:List<|κ×af}(r:KV kvs vs):kvs.length=vs.length:=jc r
end
def FJ{P:aj}{w:ah}{k:Key}(r:RelV (kV k) u):(kN P w).is k u=true:=by
 cases k with
 | inl i=>obtain⟨t,e⟩:=(show ∃t,u=Value.int i t from r);subst e;exact G6 P w i t
 | inr x=>obtain⟨t,e⟩:=(show ∃t,u=Value.str x t from r);subst e;exact Ga P w x t
theorem Dw{P:aj}{w:ah}:∀{ks:List Key}{us:ba},Vals (ks.map kV) us->ItemsAre (kN P w) ks us
 | [],_,r=>by rw[gR]at r;cases r;exact .nil
 | k::ks,_,r=>by
  rw[bJ]at r
  cases r with
  | cons h t=>exact .cons (FJ h)<|Dw t
meta abbrev KT (H:Hp):List (List Key×V)->List (List Key×ak×af)->Prop:=Paired λp q=>p.1=q.1/\H q.2.1=some (.tup<|p.1.map kV)/\RelV p.2 q.2.2
def KT.val{H:Hp}(r:KT H kvs xs)(k:List Key):zx (qY kvs k) ((atKey xs k).map (·.2)):=by
 induction r with
 | nil=>exact True.intro
 | @cons p q ps qs h t ih=>
  obtain⟨h1,_,h2⟩:=h;by_cases e:p.1=k
  ·have e':q.1=k:=h1.symm.trans e;have b:atKey (q::qs) k=some q.2:=by simp[atKey,cR,e']
   rw[vU e,b];exact h2
  ·have e':¬q.1=k:=λz=>e<|h1.trans z;have b:atKey (q::qs) k=atKey qs k:=by simp[atKey,cR,e']
   rw[vF e,b];exact ih
def KT.repl{H:Hp}{kvs:List<|List Key×V}{xs:List<|List Key×ak×af}(r:KT H kvs xs)(k:List Key)(ry:RelV y u) :
  KT H (kvs.map λkv=>if kv.1=k then(kv.1,y)else kv) (xs.map<|putAt k u):=by
 induction r with
 | nil=>exact .nil
 | @cons p q ps qs h t ih=>
  rw[bJ,bJ];refine .cons ?_ ih;obtain⟨h1,h2,h3⟩:=h;unfold putAt;by_cases e:p.1=k
  ·rw[aL e,aL<|h1.symm.trans e];exact⟨h1,h2,ry⟩
  ·rw[aJ e,aJ λz=>e<|h1.trans z];exact⟨h1,h2,h3⟩
def KT.put{H:Hp}(r:KT H kvs xs)(k:List Key)(hb:H b=some (.tup<|k.map kV))(ry:RelV y u) :
  KT H (putK kvs k y) (storedH xs k b u):=by
 have e:(kvs.any λkv=>decide<|kv.1=k)=(atKey xs k).isSome:=by
  rw[yo,(r.val k).zF,gU]
 unfold putK storedH;rw[e];by_cases q:(atKey xs k).isSome=true
 ·rw[aL q,aL q];exact r.repl k ry
 ·rw[aJ q,aJ q];exact Paired.snoc r ⟨rfl,hb,ry⟩
def KT.keeps{H H':Hp}(r:KT H kvs xs)(ht:∀b ys,H b=some (.tup ys)->H' b=some (.tup ys)):KT H' kvs xs:=
 Paired.YF r λ_ _ z=>⟨z.1,ht _ _ z.2.1,z.2.2⟩
section
variable {P:aj}{w:ah}{H:Hp}{h:aq}{a:ak}
def Wb(ok:xK P w H h)(e:Rd H a u):mj P w H h a u:=e.ok ok
def Gg{kvs:List<|Key×V}(ok:xK P w H h)(e:Rd H a<|.dK kvs):kvs.length<=sizeLine/\(a == sysModules)=false/\∃vs,KV kvs vs/\h.DictOf (kN P w) a vs:=
 show mj P w H h a (.dK kvs)from Wb ok e
def V5{kvs:List<|Key×V}(ok:xK P w H h)(e:H a=some (.dK kvs)):kvs.length<=sizeLine/\(a == sysModules)=false/\∃vs,KV kvs vs/\h.DictOf (kN P w) a vs:=Gg ok<|.inl e
def yX{ks:List Key}(ok:xK P w H h)(e:H a=some (.tup<|ks.map kV)):(tupleKind<|kN P w).is h ks a:=by
 obtain⟨_,its,r,o,h1,h2,_,n,h3⟩:=(show mj P w H h a (.tup<|ks.map kV)from ok a _ e);exact⟨o,its.toArray,n,h1,h2,h3,by simpa using Dw r⟩
def Fx{kvs:List<|List Key×V}(ok:xK P w H h)(e:Rd H a<|.dT kvs):kvs.length<=sizeLine/\(a == sysModules)=false /\
  ∃xs,KT H kvs xs/\h.DictOfH (tupleKind<|kN P w) a xs:=by
 obtain⟨z,y,xs,r,o,es,ep,h1,h2,h3,h4,h5⟩:=(show mj P w H h a (.dT kvs)from Wb ok e);refine⟨z,y,xs,r,o,es,ep,h1,h2,h3,h4,λx hx=>?_,h5⟩;have all:∀{l:List<|List Key×V} {m:List<|List Key×ak×af},KT H l m->∀x∈m,(tupleKind<|kN P w).is h x.1 x.2.1:=by
  intro l m q
  induction q with
  | nil=>intro x hx;exact nomatch hx
  | @cons p q ps qs hq t ih=>
   intro x hx
   rcases bu.mp hx with e|hx
   ·subst e;exact yX ok (by rw[<- hq.1];exact hq.2.1)
   ·exact ih x hx
 exact all r x hx
def NI{kvs:List<|List Key×V}(ok:xK P w H h)(e:H a=some (.dT kvs)):kvs.length<=sizeLine/\(a == sysModules)=false /\
  ∃xs,KT H kvs xs/\h.DictOfH (tupleKind<|kN P w) a xs:=Fx ok<|.inl e
end
abbrev xJ (H:Hp)(a:ak)(y:V)(r:Option V):Prop:=
 (∃kvs k,Rd H a (.dK kvs)/\y=kV k/\r=qY kvs k)\/∃kvs k b,Rd H a (.dT kvs)/\y=.ref b/\H b=some (.tup<|k.map kV)/\r=qY kvs k
abbrev F2 (H:Hp)(a:ak)(y v:V)(H':Hp):Prop:=
 (∃kvs k,H a=some (.dK kvs)/\y=kV k/\kvs.length<sizeLine/\H'=upd H a (.dK<|putK kvs k v)) \/
 ∃kvs k b,H a=some (.dT kvs)/\y=.ref b/\H b=some (.tup<|k.map kV)/\kvs.length<sizeLine/\H'=upd H a (.dT<|putK kvs k v)
theorem xJ.k{H:Hp}{a:ak}{k:Key}(e:H a=some (.dK kvs)):xJ H a (kV k) (qY kvs k):=.inl ⟨kvs,k,.inl e,rfl,rfl⟩
def xJ.t{H:Hp}{a:ak}{k:List Key}(e:H a=some (.dT kvs))(eb:H b=some (.tup<|k.map kV)):xJ H a (.ref b) (qY kvs k):=.inr ⟨kvs,k,b,.inl e,rfl,eb,rfl⟩
theorem F2.k{H:Hp}{a:ak}{kvs:List<|Key×V}{k:Key}{v:V}(e:H a=some (.dK kvs))(hl:kvs.length<sizeLine):F2 H a (kV k) v (upd H a<|.dK<|putK kvs k v):=.inl ⟨kvs,k,e,rfl,hl,rfl⟩
def F2.t{H:Hp}{a:ak}{kvs:List<|List Key×V}{k:List Key}{v:V}(e:H a=some (.dT kvs))(eb:H b=some (.tup<|k.map kV))(hl:kvs.length<sizeLine) :
  F2 H a (.ref b) v (upd H a<|.dT<|putK kvs k v):=.inr ⟨kvs,k,b,e,rfl,eb,hl,rfl⟩
section
variable {X:Cx}{pins:bo}{σ:St}{H:Hp}{s:aA}{a:ak}{y v:V}{u r:af}{o:Option V}{A:az}{E:af->aA->Prop}
def Inv.big(I:Inv X pins σ H s):sysModules<s.heap.objs.size:=by
 have h:mainGlobals<s.heap.objs.size:=(I.mod.glob.keeps I.bk).lt;exact lt_trans ⋯ h
def Ms{Q:af->aA->Prop}(hu:A.units+1<cLine)(I:Inv X pins σ H s)(g:xJ H a y<|some v)(ry:RelV y u)(h:∀w' s',Inv X pins σ H s'->RelV v w'->Q w' s') :
  wpAny (model X.prog X.w) A (getItem (.ref a) u) Q E s:=by
 rcases g with⟨kvs,k,e,ey,l⟩|⟨kvs,k,b,e,ey,eb,l⟩
 ·subst ey;obtain⟨z,hd,vs,rel,dd⟩:=Gg I.hok e;obtain⟨w',hw,rw'⟩:=zx.some_of (v:=v) (o:=valueAt vs k) (by rw[l];exact rel.val k);exact wpAny_getItem_of (FJ ry) dd.mapOf hw (h w' _ (I.tok _) rw')
 ·subst ey
  cases(show u=Value.ref b from ry)
  obtain⟨z,hd,xs,rel,dd⟩:=Fx I.hok e;obtain⟨w',hw,rw'⟩:=zx.some_of (v:=v) (o:=(atKey xs k).map (·.2)) (by rw[l];exact rel.val k);obtain⟨p,hp,hp2⟩:=aY.mp hw;refine wpAny_getItem_heap (fV hu) (yX I.hok eb) dd hp ?_;rw[hp2];exact h w' _ (I.tok _) rw'
def Sy{Q:af->aA->Prop}(hu:A.units+1<cLine)(I:Inv X pins σ H s)(g:xJ H a y o)(ry:RelV y u)(h:∀s',Inv X pins σ H s'->Q (.bool<|!o.isSome) s') :
  wpAny (model X.prog X.w) A (compareOp .NotIn u<|.ref a) Q E s:=by
 rcases g with⟨kvs,k,e,ey,l⟩|⟨kvs,k,b,e,ey,eb,l⟩
 ·subst ey;obtain⟨z,hd,vs,rel,dd⟩:=Gg I.hok e;refine wpAny_notIn_of (FJ ry) hd dd.mapOf ?_;rw[<- (rel.val k).zF,<- l];exact h _ (I.tok _)
 ·subst ey
  cases(show u=Value.ref b from ry)
  obtain⟨z,hd,xs,rel,dd⟩:=Fx I.hok e;refine wpAny_notIn_heap (fV hu) (yX I.hok eb) hd dd ?_;have q:=(rel.val k).zF;rw[gU]at q;rw[<- q,<- l];exact h _<|I.tok _
def Jl{h':aq}{t':Nat}{ob:HO}(I:Inv X pins σ H s)(mu:Mut<|H a)(hs:Heap.SameBut a s.heap h')(he:∃q,h'.get? a=some q)(new:mj X.prog X.w (upd H a ob) h' a ob) :
  Inv X pins σ (upd H a ob) { s with heap:=h',toks:=t' }:=
 I.write (x:=a) (e:=a) mu (.inl rfl) (λb q hb z=>(hs.2 b hb).trans z) he new
def QS{P:aj}{w:ah}{H':Hp}{h':aq}{kvs:List<|Key×V}(z:kvs.length<=sizeLine)(hd:(a == sysModules)=false)(rel:KV kvs vs)(dd:h'.DictOf (kN P w) a vs) :
  mj P w H' h' a (.dK kvs):=⟨z,hd,vs,rel,dd⟩
def Nc{H':Hp}{Q:Unit->aA->Prop}(hu:A.units+1<cLine)(I:Inv X pins σ H s)(g:F2 H a y v H')(ry:RelV y u)(rv:RelV v r)(h:∀s',Inv X pins σ H' s'->Q Unit.unit s') :
  wpAny (model X.prog X.w) A (setItem (.ref a) u r) Q E s:=by
 rcases g with⟨kvs,k,e,ey,l,eH⟩|⟨kvs,k,b,e,ey,eb,l,eH⟩
 ·subst ey eH;obtain⟨z,hd,vs,rel,dd⟩:=V5 I.hok e;have hz:vs.length<=sizeLine:=by rw[<- rel.length];exact z
  have hl:(putK kvs k v).length<=sizeLine:=by have:=u7 kvs k v;lia
  refine wpAny_setItem_pairs (hsz:=hz) (FJ ry) dd λh' dd' hs=>h _ ?_;have he:∃q,h'.get? a=some q:=let⟨q,_,_,hq,_⟩:=dd';⟨q,hq⟩
  exact Jl I (by rw[e];exact True.intro) hs he<|QS hl hd (rel.put k rv) dd'
 ·subst ey eH
  cases(show u=Value.ref b from ry)
  obtain⟨z,hd,xs,rel,dd⟩:=NI I.hok e;have hz:xs.length<=sizeLine:=by rw[<- jc rel];exact z
  have hl:(putK kvs k v).length<=sizeLine:=by have:=u7 kvs k v;lia
  refine wpAny_setItem_heap (hsz:=hz) (fV hu) (yX I.hok eb) dd λh' dd' hs=>h _ ?_;obtain⟨q,es,ep,hq,h2,h3,h4,_,h5⟩:=dd';refine Jl I (by rw[e];exact True.intro) hs ⟨q,hq⟩ ⟨hl,hd,_,(rel.put k eb rv).keeps λc ys ec=>?_,q,es,ep,hq,h2,h3,h4,h5⟩;rw[jV<|ZN ec e λz=>nomatch z];exact ec
end
def Gb{X:Cx}{H:Hp}{s:aA}{a:ak}(I:Inv X pins σ H s)(g:xJ H a y o):s.TypeIs (.ref a) "dict" := by
 rcases g with⟨kvs,k,e,_,_⟩|⟨kvs,k,b,e,_,_,_⟩
 ·obtain⟨_,_,vs,_,dd⟩:=Gg I.hok e;exact dd.typeIs
 ·obtain⟨_,_,xs,_,dd⟩:=Fx I.hok e;exact dd.typeIs
def NW{P:aj}{w:ah}{H:Hp}(h:aq)(hb:sysModules<h.objs.size):mj P w H (h.push { cls:=.type "dict",data:=.dict #[]}) h.objs.size (.dK []):=
 ⟨bP _,eG.mpr<|cO<|bC hb,[],.nil,Heap.DictOf.new h⟩
def N3{P:aj}{w:ah}{H:Hp}(h:aq)(hb:sysModules<h.objs.size):mj P w H (h.push { cls:=.type "dict",data:=.dict #[]}) h.objs.size (.dT []):=
 ⟨bP _,eG.mpr<|cO<|bC hb,[],.nil,_,#[],0,bq _ rfl,⟨rfl,rfl,rfl⟩,rfl,rfl,d9⟩
abbrev X6:TE:=λ_ H Q=>∀p,H p=none->Q (.ref p) (upd H p<|.dK [])
abbrev Ws:TE:=λ_ H Q=>∀p,H p=none->Q (.ref p) (upd H p<|.dT [])
section
variable {X:Cx}{pos:Pos}
def Q7:PE X (.Dict [] [] pos) X6:=λpins s σ H Q I h=>
 wpAny_Dict_empty ⟨.ref s.heap.objs.size,_,I.laid (a:=s.heap.objs.size) (o:=.dK []) (t':=s.toks) (λ_ _ q=>aQ _ q) (aO _)<|NW s.heap I.big,rfl,h _<|I.hok.fresh<|aO _⟩
def Ry:PE X (.Dict [] [] pos) Ws:=λpins s σ H Q I h=>
 wpAny_Dict_empty ⟨.ref s.heap.objs.size,_,I.laid (a:=s.heap.objs.size) (o:=.dT []) (t':=s.toks) (λ_ _ q=>aQ _ q) (aO _)<|N3 s.heap I.big,rfl,h _<|I.hok.fresh<|aO _⟩
end
structure M1 (X:Cx)(o:aC)(m:Str)(apos:Pos)(e:aC)(cpos:Pos):Prop where
 base:attributeBase o m X.env (eval o X.env)=eval o X.env
 few:((backTo cpos<|starEach [e] X.env).all (λx=>!x.1) && (backToKw cpos<|keywordEach [] X.env).all (λx=>x.1.isSome)
  && decide (([e]:List aC).length+([]:List Keyword).length+(if ([]:List Keyword).isEmpty then 0 else 1)<30))=true
 line:(apos.endLine == cpos.line)=true
 trees:backTo cpos (starEach [e] X.env)=[(false,eval e X.env)]
structure M2 (X:Cx)(o:aC)(m:Str)(apos:Pos)(e f:aC)(cpos:Pos):Prop where
 base:attributeBase o m X.env (eval o X.env)=eval o X.env
 few:((backTo cpos<|starEach [e,f] X.env).all (λx=>!x.1) && (backToKw cpos<|keywordEach [] X.env).all (λx=>x.1.isSome)
  && decide (([e,f]:List aC).length+([]:List Keyword).length+(if ([]:List Keyword).isEmpty then 0 else 1)<30))=true
 line:(apos.endLine == cpos.line)=true
 trees:backTo cpos (starEach [e,f] X.env)=[(false,eval e X.env),(false,eval f X.env)]
section
variable {X:Cx}{pins:bo}{σ:St}{H:Hp}{s:aA}{a:ak}{y d:V}{u r:af}{o:Option V}{A:az}{E:af->aA->Prop}
def Wv{Q:af->aA->Prop}(hu:A.units+1<cLine)(I:Inv X pins σ H s)(g:xJ H a y o)(ry:RelV y u)(rd:RelV d r)(h:∀w' s',Inv X pins σ H s'->RelV (o.getD d) w'->Q w' s') :
  wpAny (model X.prog X.w) A (call (.builtin "dict.get") [.ref a,u,r]) Q E s:=by
 rcases g with⟨kvs,k,e,ey,l⟩|⟨kvs,k,b,e,ey,eb,l⟩
 ·subst ey;obtain⟨z,hd,vs,rel,dd⟩:=Gg I.hok e;refine call_meetsIn cM dd.typeIs gW (gP _ _ _) (meets_dict_get_default (kN X.prog X.w) a (FJ ry) hd r) ⟨_,dd.mapOf,h _ _ (I.tok _) ?_⟩;rw[l];exact(rel.val k).getD rd
 ·subst ey
  cases(show u=Value.ref b from ry)
  obtain⟨z,hd,xs,rel,dd⟩:=Fx I.hok e;refine call_meetsIn cM dd.typeIs gW (gP _ _ _) (meetsH_dict_get_default (tupleKind<|kN X.prog X.w) a b hd r) ⟨fV hu,k,xs,yX I.hok eb,dd,h _ _ (I.tok _) ?_⟩;rw[l];exact(rel.val k).getD rd
end
meta abbrev Nk:=ag×ag
abbrev VP (x:ag):Int:=reduceHash<|Builtin.Tuple.tupleHashOf<|x.map hashInt
abbrev aan (k:Nk):Int:=reduceHash<|Builtin.Tuple.tupleHashOf [VP k.1,VP k.2]
abbrev dpE (x:(Nk×ak×af)):DictEntry:=⟨aan x.1,.ref x.2.1,x.2.2⟩
abbrev abJ (a:ak)(xs:List<|Nk×ak×af)(h:aq):Prop:=(a == sysModules)=false/\xs.length<=sizeLine/\∃o es ep,h.get? a=some o/\o.ExactDict/\o.data=.dict es ep/\es.toList=xs.map dpE/\(xs.map (·.1)).Nodup
abbrev FZ (H:Hp)(b:ak)(k:Nk):Prop:=∃r1 r2,H b=some (.tup [.ref r1,.ref r2])/\H r1=some (.tup<|k.1.map V.int)/\H r2=some (.tup<|k.2.map V.int)
section
variable {X:Cx}
def Lh(hu:X.A.units+1<cLine):Wk X (λx y H Q=>∃a v,x=.ref a/\xJ H a y (some v)/\Q v H):=by
 f_are;obtain⟨a,z,rfl,g,q⟩:=h
 cases rx
 have hT:=Gb I g;unfold subscriptTail;refine aH ?_;rw[getitemInPython_of_ne hT.not_modules];refine aH<|wpAny_specialOf hT PySem.F.slot_dict_getitem.lookup ?_;have fin:wpAny (model X.prog X.w) X.A (subscripted slice false (.ref a) u) (λr s₃=>wpAny (model X.prog X.w) X.A (letTemporaryGo value (.ref a) r >>= λ_=>pure r) (EP X pins σ Q) X.xe s₃) X.xe s:=by
  rw[hs];exact wpAny_operating<|Ms hu I g ry λw' s3 I3 rw'=>aH<|wpAny_letTemporaryGo<|aR ⟨z,H,I3,rw',q⟩
 first
  | exact aR (aH fin)
  | exact aH (aR<|aH fin)
  | exact aH fin
def MO(hu:X.A.units+1<cLine):pV X (compareOp .NotIn) (λy x H Q=>∃a o,x=.ref a/\xJ H a y o/\Q (.bl<|!o.isSome) H):=by
 intro pins s σ H y x v u Q I ry rx h;obtain⟨a,o,rfl,g,q⟩:=h
 cases rx
 exact Sy hu I g ry λs3 I3=>⟨.bl<|!o.isSome,H,I3,rfl,q⟩
def set_dict(hu:X.A.units+1<cLine):MS X (λo i v H Q=>∃a H',o=.ref a/\F2 H a i v H'/\Q H'):=by
 intro pins s σ H o i v ov iv u Q I ro ri rv h;obtain⟨a,H',rfl,g,q⟩:=h
 cases ro
 exact Nc hu I g ri rv λs4 I4=>⟨H',I4,q⟩
abbrev aaw:V->List V->Hp->VK->Prop:=λx vs H Q=>∃a b ks kvs y,x=.ref a/\vs=[.ref b,y]/\H a=some (.dT kvs)/\H b=some (.tup<|ks.map kV)/\Q ((qY kvs ks).getD y) H
def S_(hu:X.A.units+1<cLine):MtM X "dict.get" aaw:=by
 intro pins s σ H x vs v us Q I rx rv h;obtain⟨a,b,ks,kvs,y,rfl,rfl,ea,eb,q⟩:=h
 cases rx
 cases rv with
 | @cons _ u1 _ JX r1 rv=>
  cases rv with
  | @cons _ u2 _ Cz r2 rv=>
   cases rv
   cases r1
   obtain⟨z,hd,xs,rel,dd⟩:=NI I.hok ea;refine call_meetsIn cM dd.typeIs gW (gP _ _ _) (meetsH_dict_get_default (tupleKind<|kN X.prog X.w) a b hd u2) ⟨fV hu,ks,xs,yX I.hok eb,dd,?_⟩;refine⟨(qY kvs ks).getD y,H,I.tok _,?_,q⟩;have rl:=rel.val ks
   cases e1:qY kvs ks with
   | none=>
    rw[e1]at rl
    cases e2:(atKey xs ks).map (·.2)with
    | none=>exact r2
    | some w'=>rw[e2]at rl;exact rl.elim
   | some w1=>
    rw[e1]at rl
    cases e2:(atKey xs ks).map (·.2)with
    | none=>rw[e2]at rl;exact rl.elim
    | some w'=>rw[e2]at rl;exact rl
end
section
theorem kt_at{H:Hp}:∀{kvs:List<|List Key×V}{xs:List<|List Key×ak×af},KT H kvs xs->kvs.length=xs.length/\∀(i:Nat) (p:List Key×V),kvs[i]?=some p->∃y:List Key×ak×af,xs[i]?=some y/\p.1=y.1/\H y.2.1=some (.tup<|p.1.map kV)/\RelV p.2 y.2.2
 | [],[],_=>⟨rfl,λi p h=>by simp at h⟩
 | [],_::_,r=>nomatch r
 | _::_,[],r=>nomatch r
 | a::kvs,b::xs,.cons z r=>by
  obtain⟨l,q⟩:=kt_at r;refine⟨by simp[l],λi p h=>?_⟩
  cases i with
  | zero=>
   have:a=p:=by simpa using h
   subst this;exact⟨b,rfl,z⟩
  | succ i=>exact q i p<|by simpa using h
end
abbrev C0 (e:ak)(h:aq):Prop:=∃o vs,h.get? e=some o/\o.data=.fields vs/\vs[2]?=some .none/\o.dict=none
structure Fly (l:List Env)(g:aq)(pn:bo)(H:Hp)(e:ak)(cls:af)(h:aq):Prop where
 ex:∃(B:aq) (a0:af),Heap.FlyingW B l e cls a0 h/\(∀a u,H a=some u->∃o,B.get? a=some o)/\(∀b o,g.get? b=some o->b∉frs l->∃o',B.get? b=some o')/\(∀p∈pn,∃o',B.get? p.1=some o')/\C0 e h
structure Made (X:Cx)(H:Hp)(e:ak)(cls:af)(g:aq)(h:aq):Prop where
 ex:∃(g':aq) (vs:ba),Heap.MadeExcOf g' h e cls vs/\g'.FunFrames X.base X.stack/\(∀a u,H a=some u->∃o,g'.get? a=some o)/\(∀b o,g.get? b=some o->∃o',g'.get? b=some o')/\(∀p∈X.pn,∃o',g'.get? p.1=some o')
abbrev Xf (X:Cx)(H:Hp)(e:ak)(cls:af)(s':aA):Prop:=Made X H e cls X.s₀.heap s'.heap\/Fly X.stack X.s₀.heap X.pn H e cls s'.heap
section
abbrev EX (X:Cx):XK:=λcls _ H'=>X.ex=[]/\∀pins σ' s' e,Inv X pins σ' H' s'->Xf X H' e cls s'->X.xe (.ref e) s'
end
inductive FParts (X:Cx):List aC->List (Str ⊕ TE)->Prop
 | nil:FParts X [] []
 | txt {x:Str} {j pos} {es:List aC} {ps:List<|Str ⊕ TE} (h:FParts X es ps):FParts X (.Constant (.str x) j pos::es) (.inl x::ps)
 | val {e:aC} {pos:Pos} {t:TE} {es:List aC} {ps:List<|Str ⊕ TE} (he:PE X e t) (h:FParts X es ps):FParts X (.FormattedValue e (-1) none pos::es) (.inr t::ps)
abbrev xu:HO:=.ext λ_=>True
structure XO (C:ak)(o:Obj):Prop where
 cls:o.cls=.ref C
 dict:o.dict=none
 ctx:∃vs,o.data=.fields vs/\vs[2]?=some .none
structure Fr0 (X:Cx)(e:ak):Prop where
 no:∀o,X.s₀.heap.get? e≠some o
 tup:∀xs,X.H₀ e≠some (.tup xs)
 frz:∀o u,X.H₀ e≠some (.frz o u)
 tbl:∀ps,X.H₀ e≠some (.tbl ps)
abbrev mroIn (K:au)(C:ak):Option (ba):=match K.lookup C with
 | some ⟨.type "type",_,.cls cd,sl⟩=>(match cd.mro,sl.toList with
  | .ref C'::bm,[_,_,_,_,some<|.builtin _,_]=>if C'=C/\cd.hasDel=false then some bm else none
  | _,_=>none)
 | _=>none
structure ClsAt (h:aq)(C:ak)(bm:ba):Prop where
 ex:∃nm q N bs hdct sn sub ab col dd k0 k1 k2 k3 k5 newId,h.get? C=some (excClassObj nm q C N bs bm hdct sn sub ab col dd k0 k1 k2 k3 k5 newId)
open PySem.W in
structure XCls (K:au)(C:ak):Prop where
 ga:findIn K (.ref C) "__getattribute__" = some (some<|.builtin "BaseException.__getattribute__")
 gt:findIn K (.ref C) "__getattr__" = some none
 fc:findObj K C none "__class__" = some (.bind (.builtin "getset_descriptor.__get__")<|.builtin "object.__class__")
 ob:PySem.W.mroIn K C (.type "object")=some true
 bs:subIn K (.ref C) (.type "BaseException")=some true
abbrev WW (A:az):az:={ A with handled:=none }
abbrev ZA (k:Nat)(A:az):Prop:=Room k<|WW A
structure Hnd (A:az)(H:Hp)(e:ak)(oe:Obj)(C:ak):Prop where
 hh:A.handled=some (.ref e)
 h0:H e=some (.frz oe xu)
 xo:XO C oe
structure FnOkH (P:aj)(w:ah)(K:au)(mg:Str->bd)(base:aq)(k:Nat)(f:ak)(fd:FuncData)(ps:ar)(sp:Sp):Prop where
 len:∀vs H Q E,sp vs H Q E->vs.length=ps.length
 run:∀(A:az) (outer:List Env) (s:aA) (H:Hp) (args:Args) (us:ba) (vs:List V) (Q:VK) (e:ak) (oe:Obj) (C:ak),ZA k A->Hnd A H e oe C->Env0 P w K mg base A outer s H->BindsTo s fd args (ps.zip us)->Vals vs us->sp vs H Q E0 ->
  codeAny (model P w) A (.call (.ref f) args) (CR qm outer P w H s Q E0) s
end L2
namespace L2
open PySem PySem.Spec PyProof.Rows PySem.SeqAt
def FW:bootBuiltins "reversed" = some (.type "reversed"):=by decide +kernel
def WA:bootBuiltins "zip" = some (.type "zip"):=by decide +kernel
abbrev Itz (K:au)(l1 l2:ak):It:=
 ⟨λi H=>∃xs ys x y,nJ K H l1 xs/\nJ K H l2 ys/\xs[i]?=some x/\ys[i]?=some y,
  λi H v H'=>∃T,H T=none/\v=.ref T/\∀xs ys x y,nJ K H l1 xs->nJ K H l2 ys->xs[i]?=some x->ys[i]?=some y->H'=upd H T (.tup [x,y]),
  λi H=>∃xs ys,nJ K H l1 xs/\nJ K H l2 ys/\(xs[i]?=none\/ys[i]?=none)⟩
def QG{P:aj}{w:ah}{K:au}{TI TO:ak}(D:ZipApart z TI TO i1 i2 l1 l2) :
  Turn P w K (.Tuple elts x1 tpos) (Itz K l1 l2) [z,TI,TO,i1,i2] z (λi h=>IsZip h z TI TO .none/\IsPair h TI (.ref i1) (.ref i2)/\(∃a b,IsPair h TO a b)/\h.IsListIter i1 l1 i/\h.IsListIter i2 l2 i) where
 mem:=by simp
 obj:=λi h st b hb=>by
  obtain⟨s1,s2,⟨a,b',s3⟩,⟨o4,e4,c4,d4⟩,⟨o5,e5,c5,d5⟩⟩:=st;have hb':b=z\/b=TI\/b=TO\/b=i1\/b=i2:=by simpa using hb
  rcases hb' with rfl|rfl|rfl|rfl|rfl
  ·exact⟨_,s1,λv z=>by cases z⟩
  ·exact⟨_,s2,λv z=>by cases z⟩
  ·exact⟨_,s3,λv z=>by cases z⟩
  ·exact⟨o4,e4,λv z=>by rw[d4]at z;cases z⟩
  ·exact⟨o5,e5,λv z=>by rw[d5]at z;cases z⟩
 keep:=λi h h' st k=>by
  obtain⟨s1,s2,⟨a,b',s3⟩,s4,s5⟩:=st;exact⟨k z (by simp) _ s1,k TI (by simp) _ s2,⟨a,b',k TO (by simp) _ s3⟩,s4.at λo ho=>k i1 (by simp) o ho,s5.at λo ho=>k i2 (by simp) o ho⟩
 item:=by
  z_go;subst hP hw hK;obtain⟨s1,s2,⟨a,b',s3⟩,s4,s5⟩:=st;obtain⟨xs,ys,x,y,hq1,hq2,hx,hy⟩:=hg;obtain⟨its1,rv1,p1,hz1⟩:=I.list hq1;obtain⟨its2,rv2,p2,hz2⟩:=I.list hq2;obtain⟨u1,hu1,ru1⟩:=rv1.get hx;obtain⟨u2,hu2,ru2⟩:=rv2.get hy;refine wpAny_pyNext_zip_item D s1 s2 s3 s4 s5 p1.isList p2.isList (x:=u1) (y:=u2) (by simpa using hu1) (by simpa using hu2) λh' hz' hTO' h1' h2' hT hsz hk=>?_;refine⟨_,rfl,wpAny_letOwnedTupleGo_zip hz' λh2 he2 hs2=>?_⟩;have fT:H s.heap.objs.size=none:=I.hok.fresh<|aO _;have lz:z<s.heap.objs.size:=a_ s1;have lTI:TI<s.heap.objs.size:=a_ s2;have lTO:TO<s.heap.objs.size:=a_ s3;have li1:i1<s.heap.objs.size:=by obtain⟨o,ho,_⟩:=s4;exact a_ ho
  have li2:i2<s.heap.objs.size:=by obtain⟨o,ho,_⟩:=s5;exact a_ ho
  have k2:∀b o,b≠z->b≠TO->b≠i1->b≠i2->s.heap.get? b=some o->h2.get? b=some o:=λb o q1 q2 q3 q4 q=>hs2.extBut b o q1<|hk b o q1 q2 q3 q4 q;have hT2:IsPair h2 s.heap.objs.size u1 u2:=hs2.extBut _ _ (ju lz) hT;have fz:=hf z (by simp);have fTI:=hf TI (by simp);have fTO:=hf TO (by simp);have fi1:=hf i1 (by simp);have fi2:=hf i2 (by simp);have nT:∀b o,s.heap.get? b=some o->b≠s.heap.objs.size:=λb o q=>bC<|a_ q;have ne_tr:∀c v,H c=some v->c≠z/\c≠TO/\c≠i1/\c≠i2:=λc v q=>⟨(λw=>by rw[w,fz.1]at q;cases q),(λw=>by rw[w,fTO.1]at q;cases q),(λw=>by rw[w,fi1.1]at q;cases q),(λw=>by rw[w,fi2.1]at q;cases q)⟩;have nch:∀b,b∉[z,TO,i1,i2]->b≠z/\b≠TO/\b≠i1/\b≠i2:=λb hb=>by simpa using hb
  have I2:Inv X pins σ (upd H s.heap.objs.size<|.tup [x,y]) { s with heap:=h2,toks:=s.toks }:=by
   refine I.step (g':=s.gens) (d':=s.drawn) (ch:=[z,TO,i1,i2]) (λb hb=>?_) (λb o _ _ hch q _=>?_) (λb o _ _ hch q _=>?_) (λb o hch q n=>?_) (λb o hch q=>?_) (λb ys q=>?_) (λb o u' q=>?_) (λb ps q=>?_) (λm hm=>?_) (λb u' q=>?_) I.bare
   ·have hb':b=z\/b=TO\/b=i1\/b=i2:=by simpa using hb
    rcases hb' with rfl|rfl|rfl|rfl
    ·exact⟨fz.2.2.2.1,fz.2.1,fz.2.2.2.2.1,fz.2.2.2.2.2⟩
    ·exact⟨fTO.2.2.2.1,fTO.2.1,fTO.2.2.2.2.1,fTO.2.2.2.2.2⟩
    ·exact⟨fi1.2.2.2.1,fi1.2.1,fi1.2.2.2.2.1,fi1.2.2.2.2.2⟩
    ·exact⟨fi2.2.2.2.1,fi2.2.1,fi2.2.2.2.2.1,fi2.2.2.2.2.2⟩
   ·o_rec;exact k2 b o q1 q2 q3 q4 q
   ·o_rec;exact⟨o.slots,k2 b o q1 q2 q3 q4 q⟩
   ·rw[jV<|nT b o q];exact n
   ·o_rec;exact⟨o,k2 b o q1 q2 q3 q4 q⟩
   ·rw[jV<|j5 q fT];exact q
   ·rw[jV<|j5 q fT];exact q
   ·exact⟨#[],by rw[jV<|j5 q fT,q];simp⟩
   ·obtain⟨o,es,ep,ho,r⟩:=hm;exact⟨o,es,ep,k2 _ o (cO fz.2.1) (cO fTO.2.1) (cO fi1.2.1) (cO fi2.2.1) ho,r⟩
   ·by_cases hb:b=s.heap.objs.size
    ·subst hb;rw[kZ]at q
     cases q
     exact⟨by show 2<=sizeLine;decide,[u1,u2],.cons ru1<|.cons ru2 .nil,⟨_,hT2,rfl,rfl,0,rfl⟩⟩
    ·rw[jV hb]at q;refine(I.hok b u' q).stay (λc v hc q'=>?_) (λc q'=>?_) λc ys q'=>?_
     ·have n4:c≠z/\c≠TO/\c≠i1/\c≠i2:=by
       rcases hc with w|w
       ·rw[w];exact ne_tr b u' q
       ·exact ne_tr c _ w
      exact k2 c v n4.1 n4.2.1 n4.2.2.1 n4.2.2.2 q'
     ·rw[jV<|j5 q' fT];exact q'
     ·rw[jV<|j5 q' fT];exact q'
  refine⟨.ref s.heap.objs.size,_,I2,rfl,⟨s.heap.objs.size,fT,rfl,λxs' ys' x' y' hy1 hy2 e1 e2=>?_⟩,⟨he2,?_,⟨u1,u2,?_⟩,?_,?_⟩,λb hb=>?_⟩
  ·rw[I.yH hy1 hq1,hx]at e1;rw[I.yH hy2 hq2,hy]at e2
   cases e1;cases e2;rfl
  ·exact k2 TI _ D.TIz D.TITO D.TIi1 D.TIi2 s2
  ·exact hs2.extBut TO _ D.TOz hTO'
  ·exact h1'.at λo ho=>hs2.extBut i1 o D.i1z ho
  ·exact h2'.at λo ho=>hs2.extBut i2 o D.i2z ho
  ·have hb':b=z\/b=TI\/b=TO\/b=i1\/b=i2:=by simpa using hb
   rcases hb' with rfl|rfl|rfl|rfl|rfl
   ·rw[jV<|bC lz];exact fz.1
   ·rw[jV<|bC lTI];exact fTI.1
   ·rw[jV<|bC lTO];exact fTO.1
   ·rw[jV<|bC li1];exact fi1.1
   ·rw[jV<|bC li2];exact fi2.1
 done:=by
  z_go;subst hP hw hK;obtain⟨s1,s2,⟨a,b',s3⟩,s4,s5⟩:=st;obtain⟨xs,ys,hq1,hq2,hend⟩:=hg;obtain⟨its1,rv1,p1,hz1⟩:=I.list hq1;obtain⟨its2,rv2,p2,hz2⟩:=I.list hq2;have hl1:=rv1.length;have hl2:=rv2.length;have fz:=hf z (by simp);have fTO:=hf TO (by simp);have fi1:=hf i1 (by simp);have fi2:=hf i2 (by simp);have hend':its1.toArray[i]?=none\/its2.toArray[i]?=none:=by
   rcases hend with q|q
   ·left;rw[eY]at q;simp;lia
   ·right;rw[eY]at q;simp;lia
  refine wpAny_pyNext_zip_end (I.ok.hd hc) D s1 s2 s3 s4 s5 p1.isList p2.isList hend' λh' hk=>⟨rfl,?_⟩;have nch:∀b,b∉[z,TO,i1,i2]->b≠z/\b≠TO/\b≠i1/\b≠i2:=λb hb=>by simpa using hb
  have ne_tr:∀c v,H c=some v->c≠z/\c≠TO/\c≠i1/\c≠i2:=λc v q=>⟨(λw=>by rw[w,fz.1]at q;cases q),(λw=>by rw[w,fTO.1]at q;cases q),(λw=>by rw[w,fi1.1]at q;cases q),(λw=>by rw[w,fi2.1]at q;cases q)⟩;refine I.step (g':=s.gens) (d':=s.drawn) (t':=s.toks) (ch:=[z,TO,i1,i2]) (λb hb=>?_) (λb o _ _ hch q _=>?_) (λb o _ _ hch q _=>?_) (λb o hch q n=>n) (λb o hch q=>?_) (λb ys q=>q) (λb o u' q=>q) (λb ps q=>⟨#[],by rw[q];simp⟩) (λm hm=>?_) (λb u' q=>?_) I.bare
  ·have hb':b=z\/b=TO\/b=i1\/b=i2:=by simpa using hb
   rcases hb' with rfl|rfl|rfl|rfl
   ·exact⟨fz.2.2.2.1,fz.2.1,fz.2.2.2.2.1,fz.2.2.2.2.2⟩
   ·exact⟨fTO.2.2.2.1,fTO.2.1,fTO.2.2.2.2.1,fTO.2.2.2.2.2⟩
   ·exact⟨fi1.2.2.2.1,fi1.2.1,fi1.2.2.2.2.1,fi1.2.2.2.2.2⟩
   ·exact⟨fi2.2.2.2.1,fi2.2.1,fi2.2.2.2.2.1,fi2.2.2.2.2.2⟩
  ·o_rec;exact hk b o q1 q2 q3 q4 q
  ·o_rec;exact⟨o.slots,hk b o q1 q2 q3 q4 q⟩
  ·o_rec;exact⟨o,hk b o q1 q2 q3 q4 q⟩
  ·obtain⟨o,es,ep,ho,r⟩:=hm;exact⟨o,es,ep,hk _ o (cO fz.2.1) (cO fTO.2.1) (cO fi1.2.1) (cO fi2.2.1) ho,r⟩
  ·refine(I.hok b u' q).stay (λc v hc q'=>?_) (λc q'=>q') λc ys q'=>q';have n4:c≠z/\c≠TO/\c≠i1/\c≠i2:=by
    rcases hc with w|w
    ·rw[w];exact ne_tr b u' q
    ·exact ne_tr c _ w
   exact hk c v n4.1 n4.2.1 n4.2.2.1 n4.2.2.2 q'
 self:=λ_ _ _ _ _ st h=>wpAny_pyIter_zip st.1 h
section
variable {X:Cx}
abbrev abH (K:au)(ta:TA):TI:=λσ H R=>ta σ H λvs H1=>∃a b xs ys,vs=[.ref a,.ref b]/\nJ K H1 a xs/\nJ K H1 b ys/\R (Itz K a b) H1
def Xh{a b:aC}{ta:TA}{p:Pos}(hg:Gl X "zip")(hm:X.mg "zip" = none)(ha:PA X [a,b] ta)(hs:starEach [a,b] X.env=(false,eval a X.env)::starEach [b] X.env:=by rfl)(hpl:(backTo pos<|starEach [b] X.env).any (·.1)=false:=by rfl):PI X (.Tuple elts x1 tpos) (.Call (.Name "zip" p) [a,b] [] pos) (abH X.K ta):=by
 intro pins s σ H R I h;refine Call_<|uZ I hg hm WA<|c8 (nK (ha pos pins s σ H _ I h) λus s1 ⟨vs,H1,I1,r1,q1⟩=>?_) hs hpl;obtain⟨t1,t2,xs,ys,e,hq1,hq2,q⟩:=q1;subst e;obtain⟨u1,us',rfl,rx1,r2⟩:∃u us',us=u::us'/\RelV (.ref t1) u/\Vals [.ref t2] us':=by
  cases r1 with|cons h t=>exact⟨_,_,rfl,h,t⟩
 obtain⟨u2,rfl,rx2⟩:=vals1 r2
 cases rx1
 cases rx2
 obtain⟨its1,rv1,p1,hz1⟩:=I1.list hq1;obtain⟨its2,rv2,p2,hz2⟩:=I1.list hq2;refine call_zip_2 p1.isList p2.isList λh' hz hTI hTO hi1 hi2 hsz hk=>?_;have I2:Inv X pins σ H1 { s1 with heap:=h' }:=I1.kept (t':=s1.toks) hk;have lt1:t1<s1.heap.objs.size:=by obtain⟨o,ho,_⟩:=p1.isList;exact a_ ho
 have lt2:t2<s1.heap.objs.size:=by obtain⟨o,ho,_⟩:=p2.isList;exact a_ ho
 have fr:∀k,H1 (s1.heap.objs.size+k)=none:=λk=>I1.hok.fresh<|iC _ k;refine wpAny_pyIter_zip hz ⟨_,[s1.heap.objs.size+4,s1.heap.objs.size+2,s1.heap.objs.size+3,s1.heap.objs.size,s1.heap.objs.size+1],_,_,H1,rfl,I2,QG<|zipApart_new lt1 lt2,⟨hz,hTI,⟨_,_,hTO⟩,hi1,hi2⟩,λb hb=>?_,q⟩;have hb':∃k,b=s1.heap.objs.size+k:=by
  dsimp[bu,jf,or_false]at hb
  rcases hb with rfl|rfl|rfl|rfl|rfl
  ·exact⟨4,rfl⟩
  ·exact⟨2,rfl⟩
  ·exact⟨3,rfl⟩
  ·exact⟨0,rfl⟩
  ·exact⟨1,rfl⟩
 obtain⟨k,rfl⟩:=hb';exact I1.EO (iC _ k)<|fr k
end
def owner_lri:Manifest.owners.lookup (String.ofList ['r','o','t','a','r','e','t','i','e','s','r','e','v','e','r','_','t','s','i','l'].reverse)=some Manifest.sig_list_reverseiterator:=by kernel_rfl
def slot_lri_next:Slot "list_reverseiterator" "__next__" "list_reverseiterator.__next__" :=
 .of (owner := "list_reverseiterator") (n := "__next__") (by rw[iM,f7];kernel_rfl) ∅ ∅ ∅
  (by first|exact .inl ∅|exact .inr ∅) (by rw[gf];kernel_rfl)
def entry_lri_next:entryFor table "list_reverseiterator.__next__" = some Builtin.«list_reverseiterator.__next__»:=entryFor_of_tree<|by kernel_rfl
def wW(a:af):argsOk "list_reverseiterator.__next__" ⟨[a],[]⟩:=by
 unfold argsOk;rw[signature?_of (id := "list_reverseiterator.__next__") (n:=['_','_','t','x','e','n','_','_']) (o:=['r','o','t','a','r','e','t','i','e','s','r','e','v','e','r','_','t','s','i','l']) (by kernel_rfl) owner_lri];kernel_rfl
def slot_lri_iter:Slot "list_reverseiterator" "__iter__" "list_reverseiterator.__iter__" :=
 .of (owner := "list_reverseiterator") (n := "__iter__") (by rw[iM,f7];kernel_rfl) ∅ ∅ ∅
  (by first|exact .inl ∅|exact .inr ∅) (by rw[gf];kernel_rfl)
def entry_lri_iter:entryFor table "list_reverseiterator.__iter__" = some Builtin.«dict_keyiterator.__iter__»:=
 entryFor_alias (id' := "dict_keyiterator.__iter__") (by kernel_rfl) (by first|rfl|decide +kernel|(unfold String.splitOn;simp +decide [String.splitOnAux])) ∅ (by kernel_rfl)
def CK(a:af):argsOk "list_reverseiterator.__iter__" ⟨[a],[]⟩:=by
 unfold argsOk;rw[signature?_of (id := "list_reverseiterator.__iter__") (n:=['_','_','r','e','t','i','_','_']) (o:=['r','o','t','a','r','e','t','i','e','s','r','e','v','e','r','_','t','s','i','l']) (by kernel_rfl) owner_lri];kernel_rfl
def xw:Slot "reversed" "__init__" "object.__init__" :=
 .of (owner := "object") (n := "__init__") (by rw[iM,f7];kernel_rfl) ∅ ∅ ∅
  (by first|exact .inl ∅|exact .inr ∅) (by rw[gf];kernel_rfl)
def mro_reversed:mroOf (.type "reversed")=pure [.type "reversed",.type "object"]:=by rw[mroOf_type];kernel_rfl
def lookup_reversed_new:typeLookup (.type "reversed") "__new__" = pure (some<|.builtin "reversed.__new__"):=by rw[iM,f7];kernel_rfl
def z8:TypeCalled "reversed" "reversed.__new__" "object.__init__" :=
 ⟨by decide +kernel,by decide +kernel,⟨_,_,mro_reversed⟩,madeBy_type mro_reversed lookup_reversed_new ∅,by decide +kernel,by rw[gf];kernel_rfl,xw⟩
def typeCall_reversed_1(a:af):checkTypeCall "reversed" ⟨[a],[]⟩=pure Unit.unit:=by kernel_rfl
def newCall_reversed_1(a:af):checkBuiltinCall "reversed.__new__" ⟨[.type "reversed",a],[]⟩=pure Unit.unit:=by kernel_rfl
def entry_reversed_new:entryFor table "reversed.__new__" = some Builtin.«reversed.__new__»:=entryFor_of_tree<|by kernel_rfl
def sub_lri_reversed:isSubtype (.type "list_reverseiterator") (.type "reversed")=pure false:=by rw[gf];kernel_rfl
def Ec:isSubtype (.type "reversed") (.type "reversed")=pure true:=by rw[gf];kernel_rfl
section
variable {prog:aj}{w:ah}{A:az}{E:af->aA->Prop}{s:aA}
def callType_other{Q:af->aA->Prop}(ft:TypeCalled T newId "object.__init__")
  (hct:checkTypeCall T ⟨args,[]⟩=pure Unit.unit) (hcn:checkBuiltinCall newId ⟨.type T::args,[]⟩=pure Unit.unit)
  (entryN:entryFor table newId=some Bn) (g:Meets (Bn ⟨.type T::args,[]⟩) S) (hns:isSubtype (.type T') (.type T)=pure false)
  (h:S A.in1 (wants (λobj s₁=>s₁.TypeIs obj T'/\Q obj s₁) E) s):wpAny (model prog w) A (call (.type T) args) Q E s:=by
 obtain⟨c,tl,hmro⟩:=ft.mro;have hmade:=ft.made;refine wpAny_call (codeAny_of_tree ?_)
 skip
 refine aR ⟨Code.quiet_builtin _ ∅,gI F.entry_type_call ?_⟩;rw[Around.under_plain (weight_type_call_type T args [])<|units_type_call_type T args []];have h1:=ft.notType;have h2:=ft.canCreate
 repeat (any_goals (first|assumption|wp_step))
 refine iT (codeAny_call_builtin ft.plain entryN<|iI hcn<|g prog w A.in1 _ s h) λr s₁ hr=>?_
 cases r with
 | error e=>exact hr
 | ok fl=>
  cases fl with
  | ret obj=>
   obtain⟨hT,hq⟩:=hr
   repeat (any_goals (first|assumption|wp_step))
  | _=>exact hr.elim
end
abbrev vM (h:aq)(a l:ak)(i:Int):Prop:=∃o,h.get? a=some o/\o.cls=.type "list_reverseiterator" /\ o.data=.fields #[.ref l,rawInt i]
def vM.typeIs{s:aA}{a l:ak}{i:Int}(x:vM s.heap a l i):s.TypeIs (.ref a) "list_reverseiterator" := let⟨o,ho,hc,_⟩:=x;⟨o,ho,hc⟩
def vM.at{h h':aq}{a l:ak}{i:Int}(x:vM h a l i)(k:∀o,h.get? a=some o->h'.get? a=some o):vM h' a l i:=let⟨o,ho,r⟩:=x;⟨o,k o ho,r⟩
section
variable {prog:aj}{w:ah}{A:az}{E:af->aA->Prop}{s:aA}
def Cw{l:ak}{i:Int}{Q:af->aA->Prop}(hz:vM s.heap it l i)(h:Q (.ref it) s):wpAny (model prog w) A (pyIter<|.ref it) Q E s:=by
 refine wpAny_pyIter_slot hz.typeIs slot_lri_iter (cH slot_lri_iter hz.typeIs entry_lri_iter ?_<|CK _)
 skip
 exact aR ⟨_,rfl, "list_reverseiterator",_,hz.typeIs,slot_lri_next.lookup,h⟩
def z9{l:ak}{i:Nat}{x:af}{Q:bd->aA->Prop}(hit:vM s.heap it l i)
  (ht:s.heap.IsList l items) (hx:items[i]?=some x) (hQ:∀h',vM h' it l ((i:Int)-1)->Heap.SameBut it s.heap h'->Q (some x) { s with heap:=h' }) :
  wpAny (model prog w) A (pyNext<|.ref it) Q E s:=by
 obtain⟨o,ho,hc,hd⟩:=id hit;obtain⟨ol,hol,_,nl,hdl⟩:=ht;unfold pyNext;refine aH (iE (cU (name:=Str.ofString "__next__") hit.typeIs slot_lri_next
  (cH slot_lri_next hit.typeIs entry_lri_next ?_<|wW _)))
 show wpAny _ _ (field (.ref it) 1 >>= _) _ _ s;refine aH<|fh ho hd (x:=rawInt i) rfl ?_;show wpAny _ _ (if (i:Int)<0 then _ else _) _ _ s;rw[aJ ()]
 skip
 refine aH (fh ho hd (x:=.ref l) rfl ?_)
 skip
 refine aH<|iW hol hdl ?_;dsimp[c9,hx];refine aH (gT ho hd (by simp)<|aR ⟨x,rfl,aR<|hQ _ ?_<|fH ..⟩);exact⟨_,f6 _ ho<|iu<|eS hd _,(i9 ..).trans hc,by
  rw[eS hd];simp[rawInt]⟩
def BY{l:ak}{i:Int}{Q:bd->aA->Prop}(hh:A.handled=none)(hit:vM s.heap it l i)(hi:i<0)
  (hQ:∀h',(∀b o,s.heap.get? b=some o->h'.get? b=some o)->Q none { s with heap:=h' }):wpAny (model prog w) A (pyNext<|.ref it) Q E s:=by
 obtain⟨o,ho,hc,hd⟩:=id hit;unfold pyNext;refine aH (iE (cU (name:=Str.ofString "__next__") hit.typeIs slot_lri_next
  (cH slot_lri_next hit.typeIs entry_lri_next ?_<|wW _)))
 show wpAny _ _ (field (.ref it) 1 >>= _) _ _ s;refine aH<|fh ho hd (x:=rawInt i) rfl ?_;show wpAny _ _ (if i<0 then _ else _) _ _ s;rw[aL hi];refine aH<|eT ?_;refine aH ?_
 skip
 refine aH ?_;dsimp[newExc,newTuple];refine aH (b9 ?_<|by size_fits);refine aH (m:=firstArgMember _ _) (iI (a:=Value.none) (by first|rfl|(dsimp[firstArgMember];rfl)) ?_);refine b9 ?_ (by size_fits);dsimp[raiseNew];refine aH (wpAny_handled ?_)
 first|rw[show A.in1.handled=none from hh]|rw[hh]
 refine aH<|aR<|wpAny_throw ?_;refine aH<|wpAny_isInstance (T := "StopIteration") (b:=true) ⟨_,bq _ rfl,rfl⟩ isSubtype_stop ?_;exact aR<|hQ _ λb o e=>aQ _<|aQ _ e
end
def Mc(l:ak)(items:Array af)(n:Nat)(dd:Option ak)(sl:Array<|bd) :
  Meets (Builtin.«list.__reversed__» ⟨[.ref l],[]⟩) (λ_ R s=>s.heap.get? l=some { cls:=.type "list",dict:=dd,data:=.seq items n,slots:=sl }/\R (.ok<|.ret<|Value.ref s.heap.objs.size) { s with heap:=s.heap.push { cls:=Value.type "list_reverseiterator",data:=Data.fields #[Value.ref l,rawInt<|((items.size:Nat):Int)-1]},toks:=s.toks }):=
 .of_wp λprog w A R s h=>by obtain⟨hp,g,d,tk,os⟩:=s;obtain⟨hl,h⟩:=h;wp_walk using cJ hl;exact⟨_,rfl,h⟩
def BR(l:ak)(items:Array af)(n:Nat)(dd:Option ak)(sl:Array<|bd) :
  Meets (Builtin.«reversed.__new__» ⟨[.type "reversed",.ref l],[]⟩) (λ_ R s=>s.heap.get? l=some { cls:=.type "list",dict:=dd,data:=.seq items n,slots:=sl } /\
   R (.ok<|.ret<|.ref s.heap.objs.size) { s with heap:=s.heap.push { cls:=Value.type "list_reverseiterator",data:=Data.fields #[Value.ref l,rawInt<|((items.size:Nat):Int)-1]}}):=
 .of_wp λprog w A R s h=>by
  obtain⟨hp,g,d,tk,os⟩:=s;obtain⟨hl,h⟩:=h;have hsub:=Ec;have hlk:=iJ.lookup;have hT:Shared.TypeIs ⟨hp,g,d,tk,os⟩ (.ref l) "list" := ⟨_,hl,rfl⟩
  wp_walk using cJ hl,wpAny_specialOf hT hlk
  refine iI (iJ.bind<|.ref l) ?_;show wpAny _ _ (if (Value.builtin "list.__reversed__" == Value.none)=true then _ else _) _ _ _;rw[aJ<|show ¬((Value.builtin "list.__reversed__" == Value.none)=true)from by decide];refine aH (eT ?_)
  skip
  refine aH<|iA iJ ⟨_,hl,rfl⟩ F.entry_list_reversed (F.args_list_reversed_1 _) (Mc l items n dd sl) ⟨hl,?_⟩;exact aR ⟨_,rfl,h⟩
abbrev Itv (K:au)(a:ak)(n:Nat):It:=
 ⟨λi H=>i<n/\∃xs x,nJ K H a xs/\xs[n-1-i]?=some x,λi H x H'=>H'=H/\∀xs y,nJ K H a xs->xs[n-1-i]?=some y->x=y,λi H=>n<=i⟩
def QF{P:aj}{w:ah}{K:au}(a it:ak)(n:Nat) :
  Turn P w K tg (Itv K a n) [it] it (λi h=>vM h it a<|(n:Int)-1-i) where
 mem:=by simp
 obj:=λi h st b hb=>by
  rw[aP]at hb;subst hb;obtain⟨o,e,c,d⟩:=st;exact⟨o,e,λv z=>by rw[d]at z;cases z⟩
 keep:=λi h h' st k=>st.at λo ho=>k it (by simp) o ho
 item:=by
  z_go;subst hP hw hK;obtain⟨hi,xs,x,hq,hx⟩:=hg;obtain⟨its,rv,p,hz⟩:=I.list hq;obtain⟨u,hu,ru⟩:=rv.get hx;obtain⟨i0,i1,i2,i3,i4,i5⟩:=hf it (by simp);refine z9 (i:=n-1-i) (by rw[show(((n-1-i:Nat)):Int)=(n:Int)-1-i by lia];exact st) p.isList (x:=u) (by simpa using hu) λh' hit' hs'=>?_;obtain⟨oo,e1,c1,d1⟩:=id hit';refine⟨u,rfl,F7 (s:={ s with heap:=h' }) e1 c1 d1 ⋯ ⟨x,H,I.turned (t':=s.toks) (λb o hb q=>hs'.extBut b o hb q) i0 i1 i3 i4 i5,ru,⟨rfl,λys y hy hyi=>?_⟩,?_,λb hb=>?_⟩⟩
  ·rw[I.yH hy hq,hx]at hyi;exact bh hyi
  ·rw[show(n:Int)-1-((i+1:Nat):Int)=((n-1-i:Nat):Int)-1 by lia];exact hit'
  ·rw[aP]at hb;rw[hb];exact i0
 done:=by
  z_go;subst hP hw hK;have hg:n<=i:=hg;exact BY (I.ok.hd hc) st () λh' hk=>⟨rfl,I.kept (t':=s.toks) hk⟩
 self:=λ_ _ _ _ _ st h=>Cw st h
section
variable {X:Cx}
abbrev abK (K:au)(ta:TA):TI:=λσ H R=>ta σ H λvs H1=>∃a xs,vs=[.ref a]/\nJ K H1 a xs/\R (Itv K a xs.length) H1
def XC{a:aC}{ta:TA}{p:Pos}(hg:Gl X "reversed")(hm:X.mg "reversed" = none)(ha:PA X [a] ta)(hs:starEach [a] X.env=[(false,eval a X.env)]:=by rfl):PI X tg (.Call (.Name "reversed" p) [a] [] pos) (abK X.K ta):=by
 intro pins s σ H R I h;refine Call_<|uZ I hg hm FW<|c8 (nK (ha pos pins s σ H _ I h) λus s1 ⟨vs,H1,I1,r1,q1⟩=>?_) hs rfl;obtain⟨t,xs,e,hq,q⟩:=q1;subst e;obtain⟨u,rfl,rx⟩:=vals1 r1
 cases rx
 obtain⟨its,rv,⟨⟨cls,dd,data,sl⟩,n,g1,g2,g3,g4⟩,hz⟩:=I1.list hq;simp only at g2 g3 g4;subst g2 g3 g4;have hl:=rv.length;refine callType_other (T' := "list_reverseiterator") z8 (typeCall_reversed_1 _) (newCall_reversed_1 _) entry_reversed_new (BR t its.toArray n none sl) sub_lri_reversed ⟨g1,⟨_,bq _ rfl,rfl⟩,?_⟩;have I2:Inv X pins σ H1 { s1 with heap:=s1.heap.push { cls:=.type "list_reverseiterator",data:=.fields #[.ref t,rawInt<|((its.toArray.size:Nat):Int)-1]}}:=I1.kept (t':=s1.toks) λb o e=>aQ _ e;have he:vM (s1.heap.push { cls:=.type "list_reverseiterator",data:=.fields #[.ref t,rawInt<|((its.toArray.size:Nat):Int)-1]}) s1.heap.objs.size t ((xs.length:Int)-1-((0:Nat):Int)):=⟨_,bq _ rfl,rfl,by rw[aX,hl];simp⟩;refine Cw he ⟨_,[s1.heap.objs.size],_,_,H1,rfl,I2,QF t _ xs.length,he,λb hb=>?_,q⟩;rw[aP]at hb;rw[hb];kpf_c
end
end L2
namespace L2
open PySem PySem.Spec PyProof.Rows
def RH{X:Cx}{i:Nat}{spos:Pos}{iter:aC}{N:ar}{wi:TI}{g:TG}{tc:TT}{te:TE}
  (hN:X.N.Nodup) (hi':X.N[i]?=some y) (hx:Loc X.env.scope y) (hc:X.calm=true) (S:CpScope X scope N cap) (hi:PI X tg iter wi)
  (hg:∀C s₀ H₀ ex,PG (pH X scope N C s₀ H₀ ex) tg g) (ht:∀C s₀ H₀ ex,X7 (pH X scope N C s₀ H₀ ex) ifs tc) (he:∀C s₀ H₀ ex,PE (pH X scope N C s₀ H₀ ex) elt te)
  (hsw:swapsWith (.ListComp elt [⟨tg,iter,ifs,0⟩] scope pos) (some<|.Name y py) spos.line X.env=pure true)
  (hf:X.fn y=true\/X.env.scope.names.lookup y=some .local) (hs:∀x,foldedSetIterable iter X.env x=pure x:=by intro _;rfl) :
  PS X (.Assign [.Name y py] (.ListComp elt [⟨tg,iter,ifs,0⟩] scope pos) spos) (UR (tLC cap wi g tc te)<|Rg i):=by
 kln_w;rw[exec_Assign_Name_used _ _ _ _ hsw];refine aH (wpAny_standAt<|aH ?_)
 skip
 refine aH<|iz (J9 (ok:=λY=>Y.calm=true) (Q':=λ_ s'=>SP X pins D .next s') S (λ_ _ _ _ _=>hc) (PI.g hi) hg ht he hs pins s σ H _ I h ?_) (λ_ s' hq=>aR<|aR hq) λ_ _ e=>e;intro s6 C Dd H5 m hn fk inv q v;have Ia:=inv s6.heap<|Heap.SameBut.refl _ _;obtain⟨oC,hoC⟩:∃o,s6.heap.get? C=some o/\∀v,o.data≠.cell v:=by
  obtain⟨o,es,ep,e,d,_⟩:=hn;exact⟨o,e,λv z=>by rw[d]at z;cases z⟩
 have Ip:=Ia.pinned (fp:=[C]) (λb hb=>by rw[aP]at hb;rw[hb];exact fk) (λb hb=>by rw[aP]at hb;rw[hb];exact⟨oC,hoC⟩)
 skip
 refine nK (JQ hN hi' hx hf _ s6 σ H5 (.ref Dd) (.ref Dd) _ Ip rfl q) λ_ s7 h9=>?_;obtain⟨σ7,H7,I7,q7⟩:=h9;have hp:=I7.pin (C,oC)<|bU _<|bU _<|qU (aP.mpr rfl) hoC.1;refine⟨m,hn.at' λo e=>by rw[hoC.1]at e;cases e;exact hp.1,λh' sb=>?_⟩;have nC:∀c v,H7 c=some v->c≠C:=λc v e z=>by rw[z,hp.2.1]at e;cases e
 refine⟨σ7,H7,?_,q7⟩;refine I7.vV.VW (ch:=[C]) rfl ⟨λb o e n hb hx=>?_,λb o e n hb hx=>?_,λb o e n hx=>n,λb o e hx=>?_,λ_ _ e=>e,λ_ _ _ e=>e,λ_ _ e=>⟨#[],by rw[Array.append_empty];exact e⟩⟩ ?_ I7.bare ?_
 ·exact sb.extBut b o (by simpa using hx) e
 ·exact⟨o.slots,sb.extBut b o (by simpa using hx) e⟩
 ·exact⟨o,sb.extBut b o (by simpa using hx) e⟩
 ·intro b o e;refine(I7.hok b o e).stay (λc v hc q=>sb.extBut c v ?_ q) (λ_ q=>q) λ_ _ q=>q
  rcases hc with z|z
  ·rw[z];exact nC b o e
  ·exact nC c _ z
 ·intro b hb;rw[aP]at hb;rw[hb];exact⟨fk.2.2.2.1,fk.2.1,fk.2.2.2.2.1,fk.2.2.2.2.2⟩
def Dp(a b:Int):Builtin.Range.rangeSize a b (-1)=if a>b then a-b else 0:=by
 unfold Builtin.Range.rangeSize;dsimp[show ¬((-1:Int)>0)by decide,cj,Int.neg_neg,Int.ediv_one];split<;>lia
def small_down{a b:Int}(ha:-(2 ^ 62)<=a)(ha':a<2 ^ 62)(hb:-(2 ^ 62)<=b)(hb':b<2 ^ 62):Builtin.Range.small a b (-1)=true:=by
 unfold Builtin.Range.small;rw[Dp];dsimp[Builtin.Range.rangeFitsLong,fM,iN,eF,beq_iff_eq,show ¬((-1:Int)>0)by decide,cj];split<;>lia
end L2
namespace Sx
open PySem PyProof.Rows
structure Ord where
 lt:Nat->Nat->Bool
 Np:∀i,lt i i=false
 tr:∀i j k,lt i j=true->lt j k=true->lt i k=true
 neg:∀i j k,lt i k=true->lt i j=true\/lt j k=true
abbrev P (o:Ord)(i j:Nat):Prop:=o.lt i j=true\/(o.lt j i=false/\i<j)
def Ord.abS(o:Ord)(h:o.lt i j=true):o.lt j i=false:=by
 cases e:o.lt j i with
 | false=>rfl
 | true=>have:=o.tr _ _ _ h e;rw[o.Np]at this;cases this
def P.Np(h:P o i i):False:=by
 rcases h with h|⟨_,h⟩
 ·rw[o.Np]at h;cases h
 ·lia
def P.trans{k:Nat}(a:P o i j)(b:P o j k):P o i k:=by
 rcases a with a|⟨a,a'⟩
 ·rcases b with b|⟨b,b'⟩
  ·exact .inl (o.tr _ _ _ a b)
  ·rcases o.neg i k j a with z|z
   ·exact .inl z
   ·rw[b]at z;cases z
 ·rcases b with b|⟨b,b'⟩
  ·rcases o.neg j i k b with z|z
   ·rw[a]at z;cases z
   ·exact .inl z
  ·refine .inr ⟨?_,()⟩
   cases e:o.lt k i with
   | false=>rfl
   | true=>
    rcases o.neg k j i e with z|z
    ·rw[b]at z;cases z
    ·rw[a]at z;cases z
def P.of_lt{o:Ord}(h:o.lt i j=true):P o i j:=.inl h
def P.zO{o:Ord}(h:o.lt j i=false)(hij:i<j):P o i j:=.inr ⟨h,hij⟩
def P.lt{o:Ord}(h:P o i j)(hij:j<i):o.lt i j=true:=by
 rcases h with h|⟨_,h⟩
 ·exact h
 ·lia
def P.ge{o:Ord}(h:P o i j):o.lt j i=false:=by
 rcases h with h|⟨h,_⟩
 ·exact o.abS h
 ·exact h
abbrev So (o:Ord)(g:Nat->Nat)(a b:Nat):Prop:=∀i j,a<=i->i<j->j<b->P o (g i) (g j)
abbrev Cl (g:Nat->Nat)(a b:Nat):Prop:=∀i,a<=i->i<b->a<=g i/\g i<b
abbrev rev (g:Nat->Nat)(i j:Nat):Nat->Nat:=λk=>if i<=k/\k<j then g (i+j-1-k)else g k
abbrev mv (g:Nat->Nat)(src dst:Nat):Nat->Nat:=λk=>if k=dst then g src else if dst<k/\k<=src then g (k-1)else g k
def BE{g:Nat->Nat}{k:Nat}(h:i<=k)(h2:k<j):rev g i j k=g (i+j-1-k):=aL ⟨h,h2⟩
def qN{g:Nat->Nat}{k:Nat}(h:k<i\/j<=k):rev g i j k=g k:=aJ ()
def Ru{g:Nat->Nat}:mv g s d d=g s:=aL rfl
def FQ{g:Nat->Nat}{k:Nat}(h:d<k)(h2:k<=s):mv g s d k=g (k-1):=by
 unfold mv;rw[aJ (),aL ⟨h,h2⟩]
def DM{g:Nat->Nat}{k:Nat}(hd:d<=s)(h:k<d\/s<k):mv g s d k=g k:=by
 unfold mv;rw[aJ (),aJ ()]
section
variable {prog:aj}{w:ah}{A:az}{E:af->aA->Prop}{s:aA}{o:Ord}{N:Nat}{f:Nat->Keyed}{kd:SortKind}{g:Nat->Nat}{p:Array (Nat×Nat×Nat)}{st:SortSt}
abbrev CT (prog:aj)(w:ah)(A:az)(s:aA)(o:Ord)(N:Nat)(f:Nat->Keyed)(kd:SortKind):Prop:=
 ∀i j,i<N->j<N->∀(E':af->aA->Prop) (Q:Bool->aA->Prop),Q (o.lt i j) s->wpAny (model prog w) A (keyLt' kd (f i).1 (f j).1) Q E' s
structure Sg (N:Nat)(f:Nat->Keyed)(kd:SortKind)(g:Nat->Nat)(p:Array (Nat×Nat×Nat))(st:SortSt):Prop where
 size:(arrOf st).size=N
 get:∀i,i<N->(arrOf st)[i]?=some (f<|g i)
 lt:∀i,i<N->g i<N
 kind:kindOf st=kd
 failed:failedOf st=none
 pend:pendingOf st=p
def Cb(C:CT prog w A s o N f kd)(hk:kindOf st=kd)(hi:i<N)(hj:j<N){Q:bj->SortSt->Prop}(q:Q (some<|o.lt i j) st):wpS (model prog w) A E s (lt' (f i)<|f j) Q st:=by
 rw[lt'_eq];refine aZ<|gY ?_;rw[hk];refine aZ<|wpS_lift<|iE<|C i j hi hj _ _ ⟨rfl,?_⟩;exact bA q
def kC{xs:Array Keyed}{i:Nat}{x:Keyed}(e:xs[i]?=some x){Q:Keyed->SortSt->Prop}(q:Q x st):wpS (model prog w) A E s (elem' xs i) Q st:=by
 rw[elem'_eq,e];exact bA q
def ye(C:CT prog w A s o N f kd)(h:Sg N f kd g p st)(hi:i<N)(hj:j<N){Q:bj->SortSt->Prop}(q:Q (some<|o.lt (g i)<|g j) st):wpS (model prog w) A E s (ltAt' i j) Q st:=by
 rw[ltAt'_eq];refine aZ (gY ?_)
 skip
 exact aZ<|kC (h.get i hi)<|aZ<|kC (h.get j hj)<|Cb C h.kind (h.lt i hi) (h.lt j hj) q
def Sg.arr(h:Sg N f kd g p st){xs:Array Keyed}{g':Nat->Nat}(hs:xs.size=N)(hg:∀i,i<N->xs[i]?=some (f<|g' i))(hl:∀i,i<N->g' i<N):Sg N f kd g' p (setArr st xs):=⟨hs,hg,hl,h.kind,h.failed,h.pend⟩
def AA(h:Sg N f kd g p st)(hj:j<=N){Q:Unit->SortSt->Prop}(q:∀st',Sg N f kd (rev g i j) p st'->Q Unit.unit st'):wpS (model prog w) A E s (reverseSlice' i j) Q st:=by
 rw[reverseSlice'_eq];refine fW (q _<|h.arr (by rw[mirror_size];exact h.size) (λk hk=>?_) λk hk=>?_)
 ·rw[getElem?_mirror_all<|by rw[h.size];exact hj];unfold rev;by_cases c:i<=k/\k<j
  ·rw[aL c,aL c];exact h.get _ (by omega)
  ·rw[aJ c,aJ c];exact h.get _ hk
 ·unfold rev;by_cases c:i<=k/\k<j
  ·rw[aL c];exact h.lt _ (by omega)
  ·rw[aJ c];exact h.lt _ hk
def Yd(h:Sg N f kd g p st){a:Nat}(ha:a<N)(hb:b<=a){Q:Unit->SortSt->Prop}(q:∀st',Sg N f kd (mv g a b) p st'->Q Unit.unit st'):wpS (model prog w) A E s (moveDown' a b) Q st:=by
 rw[moveDown'_eq];refine fW (q _<|h.arr (by rw[bubble_size];exact h.size) (λk hk=>?_) λk hk=>?_)
 ·rw[getElem?_bubble (by rw[h.size];exact ha) _ (),show a-(a-b)=b by lia];unfold mv;by_cases c:k=b
  ·rw[aL c,aL c];exact h.get _ ha
  ·rw[aJ c,aJ c];by_cases c2:b<k/\k<=a
   ·rw[aL c2,aL c2];exact h.get _ ()
   ·rw[aJ c2,aJ c2];exact h.get _ hk
 ·unfold mv;by_cases c:k=b
  ·rw[aL c];exact h.lt _ ha
  ·rw[aJ c];by_cases c2:b<k/\k<=a
   ·rw[aL c2];exact h.lt _ ()
   ·rw[aJ c2];exact h.lt _ hk
structure Rn (o:Ord)(g0 g:Nat->Nat)(a b:Nat):Prop where
 out:∀i,i<a\/b<=i->g i=g0 i
 cl:Cl g a b
 so:So o g a b
def Yy{g0:Nat->Nat}{lo k l:Nat}(R:Rn o g0 g lo<|lo+k)(hk:g (lo+k)=lo+k)(hl:l<=k)(h1:∀i,i<l->P o (g<|lo+i) (lo+k))(h2:∀i,l<=i->i<k->P o (lo+k) (g<|lo+i)):Rn o g0 (mv g (lo+k)<|lo+l) lo (lo+(k+1)) where
 out i hi:=by rw[DM () ()];exact R.out i ()
 cl i a b:=by
  by_cases c:i=lo+l
  ·subst c;rw[Ru,hk];lia
  ·by_cases c2:lo+l<i
   ·rw[FQ c2 ()];have:=R.cl (i-1) () ()
    lia
   ·rw[DM () ()];have:=R.cl i () ()
    lia
 so i j a b d:=by
  by_cases c:i=lo+l
  ·subst c;rw[Ru,FQ b (),hk];have:=h2 (j-1-lo) () ()
   rwa [show lo+(j-1-lo)=j-1 by lia]at this
  ·by_cases c2:lo+l<i
   ·rw[FQ c2 (),FQ () ()];exact R.so _ _ () () ()
   ·rw[DM (k:=i) () ()];by_cases c3:j=lo+l
    ·subst c3;rw[Ru,hk];have:=h1 (i-lo) ()
     rwa [show lo+(i-lo)=i by lia]at this
    ·by_cases c4:lo+l<j
     ·rw[FQ c4 ()];exact R.so _ _ () () ()
     ·rw[DM () ()];exact R.so _ _ () () ()
def Xs(C:CT prog w A s o N f kd){g0:Nat->Nat}{lo n ok:Nat}(h:Sg N f kd g p st)(hn:lo+n<=N)(h1:1<=ok)(hok:ok<=n)(R:Rn o g0 g lo<|lo+ok)(hid:∀i,lo+ok<=i->i<lo+n->g0 i=i)
  {Q:Bool->SortSt->Prop} (q:∀g' st',Sg N f kd g' p st'->Rn o g0 g' lo (lo+n)->Q true st'):wpS (model prog w) A E s (binarySort' lo n ok) Q st:=by
 rw[binarySort'_eq,show max ok 1=ok by lia];refine aZ (eK (cP (I:=λk c st'=>c=(none,Unit.unit)/\∃g',Sg N f kd g' p st'/\Rn o g0 g' lo (lo+min k n))
  (Q:=λc st'=>c=(none,Unit.unit)/\∃g',Sg N f kd g' p st'/\Rn o g0 g' lo (lo+n)) ?step ?fin ?init) ?post)
 case post=>
  rintro c st' ⟨rfl,g',h',R'⟩;exact bA<|q g' st' h' R'
 case init=>exact⟨rfl,g,h,by rw[show min ok n=ok by lia];exact R⟩
 case fin=>
  rintro c st' ⟨hc,g',h',R'⟩;exact⟨hc,g',h',by rwa [show min (max ok n) n=n by lia]at R'⟩
 case step=>
  rintro k c st' hak hkn ⟨rfl,g',h',R'⟩;rw[show min k n=k by lia]at R';have gk:g' (lo+k)=lo+k:=by rw[R'.out _ ()];exact hid _ () ()
  refine aZ (eK (cP (I:=λx c s2=>s2=st'/\∃u v,c=(none,u,v)/\u<=v/\v<=k/\v-u<=k-x /\
    (∀i,i<u->P o (g'<|lo+i) (lo+k))/\(∀i,v<=i->i<k->P o (lo+k) (g'<|lo+i)))
   (Q:=λc s2=>s2=st'/\∃u v,c=(none,u,v)/\u<=k /\
    (∀i,i<u->P o (g'<|lo+i) (lo+k))/\(∀i,u<=i->i<k->P o (lo+k) (g'<|lo+i))) ?istep ?ifin ?iinit) ?ipost)
  case iinit=>exact⟨rfl,0,k,rfl,(),(),(),λi hi=>(),λi h1 h2=>()⟩
  case ifin=>
   rintro c s2 ⟨rfl,u,v,rfl,huv,hvk,hm,low,top⟩;have:u=v:=()
   subst this;exact⟨rfl,u,u,rfl,hvk,low,top⟩
  case istep=>
   rintro x c s2 _ hxk ⟨rfl,u,v,rfl,huv,hvk,hm,low,top⟩;dsimp only;by_cases hge:u>=v
   ·rw[aL hge];have:u=v:=()
    subst this;exact bA ⟨rfl,u,u,rfl,hvk,low,top⟩
   ·rw[aJ hge];have hmk:(u+v) / 2<k:=()
    have gm:=R'.cl (lo+(u+v) / 2) () ();refine aZ<|ye C h' () () ?_;rw[gk]
    cases hless:o.lt (lo+k) (g'<|lo+(u+v) / 2)
    case true=>
     dsimp[c_];refine bA ⟨rfl,u,(u+v) / 2,rfl,(),(),(),low,λi h1 h2=>?_⟩;by_cases c:i=(u+v) / 2
     ·subst c;exact .inl hless
     ·exact(P.of_lt hless).trans (R'.so _ _ () () ())
    case false=>
     dsimp[bF,cj];refine bA ⟨rfl,(u+v) / 2+1,v,rfl,(),(),(),λi h1=>?_,top⟩;have last:=P.zO hless gm.2;by_cases c:i=(u+v) / 2
     ·subst c;exact last
     ·exact(R'.so _ _ () () ()).trans last
  case ipost=>
   rintro c s2 ⟨rfl,u,v,rfl,huk,low,top⟩;dsimp only;refine aZ<|Yd h' () () λst3 h3=>?_;refine bA ⟨rfl,_,h3,?_⟩;rw[show min (k+1) n=k+1 by lia];exact Yy R' gk huk low top
end
meta abbrev As:=Option (bn)×Nat
meta abbrev Ds:=Option (bn)×Nat×Nat
abbrev Pc (lo a nrem:Nat):StateT SortSt Sem As:=
 forIn [a:nrem] ((none,a):As) λ_ c=>do
  let x <- ltAt' (lo+c.2) (lo+c.2-1)
  match x with
  | some b=>if b=true then pure (ForInStep.done (none,c.2))else pure (ForInStep.yield (none,c.2+1))
  | _=>pure<|ForInStep.done (some none,c.2)
abbrev Fo (lo n nrem:Nat):StateT SortSt Sem (bn):=do
 reverseSlice' lo (lo+n)
 let c <- Pc lo n nrem
 match c.1 with
 | some r=>pure r
 | none=>pure<|some c.2
abbrev Th (lo n nrem:Nat):StateT SortSt Sem Ds:=
 forIn [n:nrem] ((none,n,0):Ds) λ_ c=>do
  let x <- ltAt' (lo+c.2.1) (lo+c.2.1-1)
  match x with
  | some b=>
   if b=true then
    if c.2.2>0 then do
     reverseSlice' (lo+c.2.1-(c.2.2+1)) (lo+c.2.1)
     pure (ForInStep.yield (none,c.2.1+1,0))
    else pure (ForInStep.yield (none,c.2.1+1,0))
   else do
    let x <- ltAt' (lo+c.2.1-1) (lo+c.2.1)
    match x with
    | some b=>
     if b=true then pure (ForInStep.done (none,c.2.1,c.2.2))
     else pure (ForInStep.yield (none,c.2.1+1,c.2.2+1))
    | _=>pure<|ForInStep.done (some none,c.2.1,c.2.2)
  | _=>pure<|ForInStep.done (some none,c.2.1,c.2.2)
abbrev Qe (lo n nrem:Nat):StateT SortSt Sem (bn):=do
 liftM (rule "list.sort.descending-run")
 let c <- Th lo (n+1) nrem
 match c.1 with
 | some r=>pure r
 | none=>
  if c.2.2>0 then do
   reverseSlice' (lo+c.2.1-(c.2.2+1)) (lo+c.2.1)
   Fo lo c.2.1 nrem
  else Fo lo c.2.1 nrem
def count_eq(lo nrem:Nat):countRun' lo nrem=(do
  let c <- Pc lo 1 nrem
  match c.1 with
  | some r=>pure r
  | none=>
   if (c.2 == nrem)=true then pure (some c.2)
   else if c.2>1 then do
    let x <- ltAt' lo (lo+c.2-1)
    match x with
    | some b=>if b=true then pure (some c.2)else do
      reverseSlice' lo (lo+c.2)
      Qe lo c.2 nrem
    | _=>pure none
   else Qe lo c.2 nrem):=by
 rw[countRun'_eq];dsimp only;unfold Qe Fo Th Pc;congr 1
 funext c
 obtain⟨r,n⟩:=c
 cases r with
 | some r=>rfl
 | none=>
  dsimp only;split
  ·rfl
  ·split
   ·congr 1
    funext x
    cases x with
    | none=>rfl
    | some b=>
     dsimp only;split
     ·rfl
     ·congr 1
      funext _r
      congr 1
      funext _u
      congr 1;congr 1
      funext s2
      obtain⟨r2,n2,q2⟩:=s2
      cases r2 with
      | some r2=>rfl
      | none=>
       dsimp only;split
       ·congr 1
        funext _v
        congr 1
        funext _w
        congr 1
        funext s3
        obtain⟨r3,n3⟩:=s3
        cases r3<;>rfl
       ·congr 1
        funext _w
        congr 1
        funext s3
        obtain⟨r3,n3⟩:=s3
        cases r3<;>rfl
   ·congr 1
    funext _u
    congr 1;congr 1
    funext s2
    obtain⟨r2,n2,q2⟩:=s2
    cases r2 with
    | some r2=>rfl
    | none=>
     dsimp only;split
     ·congr 1
      funext _v
      congr 1
      funext _w
      congr 1
      funext s3
      obtain⟨r3,n3⟩:=s3
      cases r3<;>rfl
     ·congr 1
      funext _w
      congr 1
      funext s3
      obtain⟨r3,n3⟩:=s3
      cases r3<;>rfl
section
variable {prog:aj}{w:ah}{A:az}{E:af->aA->Prop}{s:aA}{o:Ord}{N:Nat}{f:Nat->Keyed}{kd:SortKind}{g g0:Nat->Nat}{p:Array (Nat×Nat×Nat)}{st:SortSt}
def Rn.snoc{a:Nat}(R:Rn o g0 g a b)(hab:a<b)(hb:g b=b)(h:o.lt b (g<|b-1)=false):Rn o g0 g a (b+1) where
 out i hi:=R.out i ()
 cl i h1 h2:=by
  by_cases c:i=b
  ·subst c;lia
  ·have:=R.cl i h1 ();lia
 so i j h1 h2 h3:=by
  by_cases c:j=b
  ·subst c;rw[hb];have l:=R.cl (j-1) () ();have last:P o (g<|j-1) j:=P.zO h l.2;by_cases c2:i=j-1
   ·subst c2;exact last
   ·exact(R.so i (j-1) h1 () ()).trans last
  ·exact R.so i j h1 h2 ()
def QJ(C:CT prog w A s o N f kd){lo a:Nat}(h:Sg N f kd g p st)(hn:lo+nrem<=N)(h1:1<=a)(han:a<=nrem)(R:Rn o g0 g lo<|lo+a)(hid:∀i,lo+a<=i->i<lo+nrem->g0 i=i)
  {Q:As->SortSt->Prop} (q:∀n,a<=n->n<=nrem->Rn o g0 g lo (lo+n)->(n=nrem\/o.lt (lo+n) (g<|lo+n-1)=true)->Q (none,n) st):wpS (model prog w) A E s (Pc lo a nrem) Q st:=by
 unfold Pc;refine cP (I:=λx c st'=>st'=st/\c=(none,x)/\Rn o g0 g lo (lo+x)) ?step ?fin ⟨rfl,rfl,R⟩
 case fin=>
  rintro c st' ⟨rfl,rfl,R'⟩;rw[show max a nrem=nrem by lia]at R' ⊢;exact q nrem han (aO _) R'<|.inl rfl
 case step=>
  rintro x c st' hax hxn ⟨rfl,rfl,R'⟩;dsimp only;have gx:g (lo+x)=lo+x:=by rw[R'.out _ ()];exact hid _ () ()
  refine aZ<|ye C h () () ?_;rw[gx]
  cases hl:o.lt (lo+x) (g<|lo+x-1)
  case true=>
   dsimp[c_];exact bA<|q x hax () R'<|.inr hl
  case false=>
   dsimp[bF,cj];exact bA ⟨rfl,rfl,R'.snoc () gx hl⟩
structure Dc (o:Ord)(g0 g:Nat->Nat)(a b q:Nat):Prop where
 out:∀i,i<a\/b<=i->g i=g0 i
 cl:Cl g a b
 few:a+(q+1)<=b
 dn:∀i j,a<=i->i<j->j<b->i<b-(q+1)->P o (g j) (g i)
 id:∀i,b-(q+1)<=i->i<b->g i=i
 al:∀i j,b-(q+1)<=i->i<b->b-(q+1)<=j->j<b->o.lt i j=false
def Dc.turn{a q:Nat}(D:Dc o g0 g a b q):(∀i,i<a\/b<=i->rev g (b-(q+1)) b i=g0 i)/\Cl (rev g (b-(q+1)) b) a b/\(∀i j,a<=i->i<j->j<b->P o (rev g (b-(q+1)) b j) (rev g (b-(q+1)) b i))/\(∀i,b-(q+1)<=i->i<b->∃k,rev g (b-(q+1)) b i=k/\b-(q+1)<=k/\k<b):=by
 have few:=D.few;have inn:∀i,b-(q+1)<=i->i<b->rev g (b-(q+1)) b i=b-(q+1)+b-1-i:=λi h1 h2=>by
  rw[BE h1 h2];exact D.id _ (by omega)<|by omega
 refine⟨λi hi=>?_,λi h1 h2=>?_,λi j h1 h2 h3=>?_,λi h1 h2=>⟨_,inn i h1 h2,by omega,by omega⟩⟩
 ·rw[qN<|by omega];exact D.out i hi
 ·by_cases c:i<b-(q+1)
  ·rw[qN<|by omega];exact D.cl i h1 h2
  ·rw[inn i (by omega) h2];omega
 ·by_cases c:i<b-(q+1)
  ·rw[qN (k:=i)<|by omega];by_cases c2:j<b-(q+1)
   ·rw[qN<|by omega];exact D.dn i j h1 h2 h3 c
   ·rw[inn j (by omega) h3];have:=D.dn i (b-(q+1)+b-1-j) h1 (by omega) (by omega) c
    rwa [D.id _ (by omega)<|by omega]at this
  ·rw[inn i (by omega)<|by omega,inn j (by omega) h3];exact P.zO (D.al _ _ (by omega) (by omega) (by omega)<|by omega)<|by omega
abbrev Fin (o:Ord)(g0 g:Nat->Nat)(a b:Nat):Prop:=(∀i,i<a\/b<=i->g i=g0 i)/\Cl g a b/\(∀i j,a<=i->i<j->j<b->P o (g j) (g i))
def Dc.Hs{a:Nat}(D:Dc o g0 g a b 0):Fin o g0 g a b:=⟨D.out,D.cl,λi j h1 h2 h3=>D.dn i j h1 h2 h3 ()⟩
def Fin.rn{a:Nat}(D:Fin o g0 g a b):Rn o g0 (rev g a b) a b where
 out i hi:=by rw[qN hi];exact D.1 i hi
 cl i h1 h2:=by
  rw[BE h1 h2];exact D.2.1 _ () ()
 so i j h1 h2 h3:=by
  rw[BE h1 (),BE () h3];exact D.2.2 _ _ () () ()
def Fin.add{a:Nat}(D:Fin o g0 g a b)(hb:g b=b)(hab:a<b)(h:∀i,a<=i->i<b->P o b (g i)):Dc o g0 g a (b+1) 0 where
 out i hi:=D.1 i ()
 cl i h1 h2:=by
  by_cases c:i=b
  ·subst c;lia
  ·have:=D.2.1 i h1 ();lia
 few:=()
 dn i j h1 h2 h3 _:=by
  by_cases c:j=b
  ·subst c;rw[hb];exact h i h1 h2
  ·exact D.2.2 i j h1 h2 ()
 id i h1 h2:=by
  have:i=b:=()
  rw[this,hb]
 al i j h1 h2 h3 h4:=by
  have:i=j:=()
  rw[this];exact o.Np _
def LN(C:CT prog w A s o N f kd){lo n:Nat}(h:Sg N f kd g p st)(hn:lo+nrem<=N)(h1:1<=n)(han:n<=nrem)(D:Fin o g0 g lo<|lo+n)(hid:∀i,lo<=i->i<lo+nrem->g0 i=i)
  {Q:bn->SortSt->Prop} (q:∀m g' st',Sg N f kd g' p st'->1<=m->m<=nrem->Rn o g0 g' lo (lo+m)->Q (some m) st'):wpS (model prog w) A E s (Fo lo n nrem) Q st:=by
 unfold Fo;refine aZ<|AA h () λst2 h2=>?_;exact aZ<|QJ C h2 hn h1 han D.rn (λi a b=>hid i () b) λm hm1 hm2 R _=>bA<|q m _ _ h2 () hm2 R
def YL(C:CT prog w A s o N f kd){lo n:Nat}(h:Sg N f kd g p st)(hn:lo+nrem<=N)(h1:1<=n)(han:n<=nrem)(D:Dc o g0 g lo (lo+n) 0)(hid:∀i,lo<=i->i<lo+nrem->g0 i=i)
  {Q:Ds->SortSt->Prop} (q:∀m e g' st',Sg N f kd g' p st'->1<=m->m<=nrem->Dc o g0 g' lo (lo+m) e->Q (none,m,e) st'):wpS (model prog w) A E s (Th lo n nrem) Q st:=by
 unfold Th;refine cP (I:=λx c st'=>∃e g',c=(none,x,e)/\Sg N f kd g' p st'/\Dc o g0 g' lo (lo+x) e) ?step ?fin ⟨0,g,rfl,h,D⟩
 case fin=>
  rintro c st' ⟨e,g',rfl,h',D'⟩;rw[show max n nrem=nrem by lia]at D' ⊢;exact q nrem e g' st' h' () (aO _) D'
 case step=>
  rintro x c st' hax hxn ⟨e,g',rfl,h',D'⟩;dsimp only;have few:=D'.few;have gx:g' (lo+x)=lo+x:=by rw[D'.out _ ()];exact hid _ () ()
  have gy:g' (lo+x-1)=lo+x-1:=D'.id _ () ();refine aZ<|ye C h' () () ?_;rw[gx,gy]
  cases hl:o.lt (lo+x) (lo+x-1)
  case true=>
   dsimp[c_];by_cases he:e>0
   ·rw[aL he];obtain⟨t1,t2,t3,t4⟩:=D'.turn;refine aZ<|AA h' () λst2 h2=>bA ⟨0,_,rfl,h2,?_⟩;refine Fin.add (b:=lo+x) ⟨t1,t2,t3⟩ (by rw[qN ()];exact gx) () λi a b=>?_;by_cases c:lo+x-(e+1)<=i
    ·obtain⟨k,ek,k1,k2⟩:=t4 i c b;rw[ek]
     rcases o.neg _ k _ hl with z|z
     ·exact .inl z
     ·rw[D'.al _ _ k1 k2 () ()]at z;cases z
    ·rw[qN ()];have:=D'.dn i (lo+x-1) a () () ();rw[gy]at this;exact(P.of_lt hl).trans this
   ·rw[aJ he];have:e=0:=()
    subst this;refine bA ⟨0,_,rfl,h',Fin.add (b:=lo+x) D'.Hs gx () λi a b=>?_⟩;by_cases c:i=lo+x-1
    ·subst c;rw[gy];exact .inl hl
    ·have:=D'.dn i (lo+x-1) a () () ();rw[gy]at this;exact(P.of_lt hl).trans this
  case false=>
   dsimp[bF,cj];refine aZ<|ye C h' () () ?_;rw[gx,gy]
   cases hg:o.lt (lo+x-1) (lo+x)
   case true=>
    dsimp[c_];exact bA<|q x e g' st' h' () () D'
   case false=>
    dsimp[bF,cj];refine bA ⟨e+1,g',rfl,h',?_⟩;have eq1:∀i,lo+x-(e+1)<=i->i<lo+x->o.lt i (lo+x)=false/\o.lt (lo+x) i=false:=λi a b=>by
     constructor
     ·cases z:o.lt i (lo+x)with
      | false=>rfl
      | true=>
       rcases o.neg _ (lo+x-1) _ z with y|y
       ·rw[D'.al _ _ a b () ()]at y;cases y
       ·rw[hg]at y;cases y
     ·cases z:o.lt (lo+x) i with
      | false=>rfl
      | true=>
       rcases o.neg _ (lo+x-1) _ z with y|y
       ·rw[hl]at y;cases y
       ·rw[D'.al _ _ () () a b]at y;cases y
    exact {
     out:=λi hi=>D'.out i ()
     cl:=λi a b=>by
      by_cases c:i=lo+x
      ·subst c;lia
      ·have:=D'.cl i a ();lia
     few:=()
     dn:=λi j a b c d=>by
      by_cases z:j=lo+x
      ·subst z;rw[gx];have y:=D'.dn i (lo+x-1) a () () ();rw[gy]at y;have gi:=D'.cl i a ()
       rcases y with y|⟨_,y⟩
       ·rcases o.neg _ (lo+x) _ y with v|v
        ·rw[hg]at v;cases v
        ·exact .inl v
       ·lia
      ·exact D'.dn i j a b () ()
     id:=λi a b=>by
      by_cases z:i=lo+x
      ·subst z;exact gx
      ·exact D'.id i () ()
     al:=λi j a b c d=>by
      by_cases z:i=lo+x
      ·subst z;by_cases y:j=lo+x
       ·subst y;exact o.Np _
       ·exact(eq1 j () ()).2
      ·by_cases y:j=lo+x
       ·subst y;exact(eq1 i () ()).1
       ·exact D'.al i j () () () ()}
def Km(C:CT prog w A s o N f kd){lo n:Nat}(h:Sg N f kd g p st)(hn:lo+nrem<=N)(han:n+1<=nrem)(D:Dc o g0 g lo (lo+(n+1)) 0)(hid:∀i,lo<=i->i<lo+nrem->g0 i=i)
  {Q:bn->SortSt->Prop} (q:∀m g' st',Sg N f kd g' p st'->1<=m->m<=nrem->Rn o g0 g' lo (lo+m)->Q (some m) st'):wpS (model prog w) A E s (Qe lo n nrem) Q st:=by
 unfold Qe;ksr_p;refine aZ<|YL C h hn () han D hid λm e g' st' h' m1 m2 D'=>?_;dsimp only;by_cases he:e>0
 ·rw[aL he];obtain⟨t1,t2,t3,_⟩:=D'.turn;exact aZ (AA h' () λst2 h2=>LN C h2 hn m1 m2 ⟨t1,t2,t3⟩ hid q)
 ·rw[aJ he];have:e=0:=()
  subst this;exact LN C h' hn m1 m2 D'.Hs hid q
def Qz(C:CT prog w A s o N f kd){lo:Nat}(h:Sg N f kd g p st)(hn:lo+nrem<=N)(h1:1<=nrem)(hid:∀i,lo<=i->i<lo+nrem->g i=i)
  {Q:bn->SortSt->Prop} (q:∀m g' st',Sg N f kd g' p st'->1<=m->m<=nrem->Rn o g g' lo (lo+m)->Q (some m) st'):wpS (model prog w) A E s (countRun' lo nrem) Q st:=by
 rw[count_eq];refine aZ (QJ C h hn (aO 1) h1 (g0:=g) ⟨λ_ _=>rfl,λi a b=>?_,λi j a b c=>()⟩ (λi a b=>hid i () b) λn n1 n2 R hor=>?_)
 ·have:i=lo:=()
  subst this;rw[hid i (aO _) ()];lia
 dsimp only;by_cases hnn:n=nrem
 ·rw[aL<|by simpa using hnn];exact bA (q n g st h n1 n2 R)
 ·rw[aJ<|by simpa using hnn];have hlt:=hor.resolve_left hnn;rw[hid (lo+n-1) () ()]at hlt;have gn:g (lo+n)=lo+n:=hid _ () ();by_cases hgt:n>1
  ·rw[aL hgt];refine aZ<|ye C h () () ?_;rw[hid lo () (),hid (lo+n-1) () ()]
   cases hr:o.lt lo (lo+n-1)
   case true=>
    dsimp[c_];exact bA<|q n g st h n1 n2 R
   case false=>
    dsimp[bF,cj];have id':∀i,lo<=i->i<lo+n->g i=i:=λi a b=>hid i a ();have pp:∀i j,lo<=i->i<j->j<lo+n->o.lt i j=false/\o.lt j i=false:=λi j a b c=>by
     have r:=R.so i j a b c;rw[id' i a (),id' j () c]at r;refine⟨?_,r.ge⟩
     cases z:o.lt i j with
     | false=>rfl
     | true=>
      rcases o.neg _ lo _ z with y|y
      ·by_cases x:i=lo
       ·subst x;rw[o.Np]at y;cases y
       ·have r2:=R.so lo i () () ();rw[id' i a (),id' lo () ()]at r2;rw[r2.ge]at y;cases y
      ·rcases o.neg _ (lo+n-1) _ y with x|x
       ·rw[hr]at x;cases x
       ·by_cases v:j=lo+n-1
        ·subst v;rw[o.Np]at x;cases x
        ·have r2:=R.so j (lo+n-1) () () ();rw[id' j () c,id' (lo+n-1) () ()]at r2;rw[r2.ge]at x;cases x
    refine aZ<|AA h () λst2 h2=>Km C h2 hn () ?_ hid q;have rin:∀i,lo<=i->i<lo+n->rev g lo (lo+n) i=lo+(lo+n)-1-i:=λi a b=>by rw[BE a b];exact id' _ () ()
    refine Fin.add (b:=lo+n) ⟨λi hi=>qN hi,λi a b=>by rw[rin i a b];lia,λi j a b c=>?_⟩ (by rw[qN ()];exact gn) () λi a b=>?_
    ·rw[rin i a (),rin j () c];exact P.zO (pp _ _ () () ()).2 ()
    ·rw[rin i a b];by_cases x:lo+(lo+n)-1-i=lo+n-1
     ·rw[x];exact .inl hlt
     ·rcases o.neg _ (lo+(lo+n)-1-i) _ hlt with z|z
      ·exact .inl z
      ·rw[(pp _ _ () () ()).1]at z;cases z
  ·rw[aJ hgt];have:n=1:=()
   subst this;refine Km C h hn () ?_ hid q;refine Fin.add (b:=lo+1) ⟨λi hi=>rfl,R.cl,λi j a b c=>()⟩ gn () λi a b=>?_;have:i=lo:=()
   subst this;rw[hid i () ()];rw[show i+1-1=i by lia]at hlt;exact .inl hlt
end
abbrev nA:Bool->Keyed->Array Keyed->Nat->Nat->Nat->StateT SortSt Sem (bn):=sortPriv% PySem.Builtin.gallop
abbrev XG (ask:Nat->StateT SortSt Sem (bj))(n at0:Nat):StateT SortSt Sem (bn):=do
 let mut was:=0
 let mut far:=1
 let mut low:=0
 let mut top:=0
 let some yes <- ask at0|return none
 if yes then
  let most:=n-at0
  for _ in [0:n] do
   if far>=most then break
   let some ok <- ask (at0+far)|return none
   if !ok then break
   was:=far
   far:=2 * far+1
  low:=at0+was+1
  top:=at0+min far most
 else
  let most:=at0+1
  for _ in [0:n] do
   if far>=most then break
   let some hit <- ask (at0-far)|return none
   if hit then break
   was:=far
   far:=2 * far+1
  low:=at0+1-min far most
  top:=at0-was
 for _ in [0:n] do
  if low>=top then break
  let m:=low+(top-low) / 2
  let some ok <- ask m|return none
  if ok then low:=m+1 else top:=m
 return some top
def Dv(left:Bool)(key:Keyed)(arr:Array Keyed)(base n hint:Nat):nA left key arr base n hint=XG (λi=>do
  let x <- elem' arr (base+i)
  if left then lt' x key else return (<- lt' key x).map (!·)) n hint:=rfl
section
variable {prog:aj}{w:ah}{A:az}{E:af->aA->Prop}{s:aA}{st:SortSt}
abbrev bsB (be:Nat->StateT SortSt Sem (bj))(n l0 h0:Nat):StateT SortSt Sem (bn):=do
 let mut low:=l0
 let mut top:=h0
 for _ in [0:n] do
  if low>=top then break
  let m:=low+(top-low) / 2
  let some ok <- be m|return none
  if ok then low:=m+1 else top:=m
 return some top
def Wo{be:Nat->StateT SortSt Sem (bj)}{n h0:Nat}(b:Nat->Bool)(hbe:∀i,i<n->∀Q:bj->SortSt->Prop,Q (some<|b i) st->wpS (model prog w) A E s (be i) Q st)(hb:∀i j,i<=j->j<n->b j=true->b i=true)
  (hlh:l0<=h0) (hn:h0<=n) (hl:∀i,i<l0->b i=true) (hh:∀i,h0<=i->i<n->b i=false)
  {Q:bn->SortSt->Prop} (q:∀k,k<=n->(∀i,i<k->b i=true)->(∀i,k<=i->i<n->b i=false)->Q (some k) st):wpS (model prog w) A E s (bsB be n l0 h0) Q st:=by
 unfold bsB;refine aZ (eK (cP (I:=λx c st'=>st'=st/\∃lo hi,c=(none,lo,hi)/\lo<=hi/\hi<=n/\hi-lo<=n-x/\(∀i,i<lo->b i=true)/\(∀i,hi<=i->i<n->b i=false))
  (Q:=λc st'=>st'=st/\∃k,c=(none,k,k)/\k<=n/\(∀i,i<k->b i=true)/\(∀i,k<=i->i<n->b i=false)) ?step ?fin ⟨rfl,l0,h0,rfl,hlh,hn,(),hl,hh⟩) ?post)
 case post=>
  rintro c st' ⟨rfl,k,rfl,h1,h2,h3⟩;exact bA<|q k h1 h2 h3
 case fin=>
  rintro c st' ⟨rfl,lo,hi,rfl,h1,h2,h3,h4,h5⟩;have:lo=hi:=()
  subst this;exact⟨rfl,lo,rfl,h2,h4,h5⟩
 case step=>
  rintro x c st' _ hx ⟨rfl,lo,hi,rfl,h1,h2,h3,h4,h5⟩;dsimp only;by_cases hge:lo>=hi
  ·rw[aL hge];have:lo=hi:=()
   subst this;exact bA ⟨rfl,lo,rfl,h2,h4,h5⟩
  ·rw[aJ hge];have hm:lo+(hi-lo) / 2<hi:=()
   obtain⟨m,hm'⟩:∃m,m=lo+(hi-lo) / 2:=⟨_,rfl⟩;rw[<- hm']at hm ⊢;refine aZ (hbe m () _ ?_)
   cases hv:b m
   ·dsimp[bF,cj];refine bA ⟨rfl,lo,m,rfl,(),(),(),h4,λi a c=>?_⟩
    cases z:b i with
    | false=>rfl
    | true=>rw[hb m i a c z]at hv;cases hv
   ·dsimp[c_];exact bA ⟨rfl,m+1,hi,rfl,(),h2,(),λi a=>hb i m () () hv,h5⟩
def KL{be:Nat->StateT SortSt Sem (bj)}{n:Nat}(b:Nat->Bool)(hbe:∀i,i<n->∀Q:bj->SortSt->Prop,Q (some<|b i) st->wpS (model prog w) A E s (be i) Q st)(hb:∀i j,i<=j->j<n->b j=true->b i=true)(hh:hint<n)
  {Q:bn->SortSt->Prop} (q:∀k,k<=n->(∀i,i<k->b i=true)->(∀i,k<=i->i<n->b i=false)->Q (some k) st):wpS (model prog w) A E s (XG be n hint) Q st:=by
 unfold XG;have hb':∀i j,i<=j->j<n->b i=false->b j=false:=λi j a c d=>by
  cases z:b j with
  | false=>rfl
  | true=>rw[hb i j a c z]at d;cases d
 refine aZ (hbe hint hh _ ?_)
 cases hr:b hint
 ·dsimp only;dsimp[bF,cj];refine aZ (eK (cP (I:=λx c st'=>st'=st/\∃l u,c=(none,l,u)/\x+1<=u/\l<u/\l<=hint/\b (hint-l)=false)
   (Q:=λc st'=>st'=st/\∃l u,c=(none,l,u)/\l<u/\l<=hint/\b (hint-l)=false/\(u>=hint+1\/b (hint-u)=true)) ?step ?fin ⟨rfl,0,1,rfl,by omega,by omega,by omega,hr⟩) ?post)
  case post=>
   rintro c st' ⟨rfl,l,u,rfl,h1,h2,h3,h4⟩;dsimp only;refine(Wo b hbe hb (l0:=hint+1-min u (hint+1)) (h0:=hint-l) (by omega) (by omega) (λi a=>?_) (λi a c=>hb' _ _ a c h3) q:wpS (model prog w) A E s (bsB be n _ _) Q st')
   rcases h4 with h4|h4
   ·omega
   ·exact hb i (hint-u) (by omega) (by omega) h4
  case fin=>
   rintro c st' ⟨rfl,l,u,rfl,h1,h2,h3,h4⟩;exact⟨rfl,l,u,rfl,h2,h3,h4,.inl<|by omega⟩
  case step=>
   rintro x c st' _ hx ⟨rfl,l,u,rfl,h1,h2,h3,h4⟩;dsimp only;by_cases hge:u>=hint+1
   ·rw[aL hge];exact bA ⟨rfl,l,u,rfl,h2,h3,h4,.inl hge⟩
   ·rw[aJ hge];refine aZ (hbe _ (by omega) _ ?_)
    cases hv:b (hint-u)
    ·dsimp[bF,cj];exact bA ⟨rfl,u,2 * u+1,rfl,by omega,by omega,by omega,hv⟩
    ·dsimp[c_];exact bA ⟨rfl,l,u,rfl,h2,h3,h4,.inr hv⟩
 ·dsimp only;dsimp[c_];refine aZ (eK (cP (I:=λx c st'=>st'=st/\∃l u,c=(none,l,u)/\x+1<=u/\l<u/\hint+l<n/\b (hint+l)=true)
   (Q:=λc st'=>st'=st/\∃l u,c=(none,l,u)/\l<u/\hint+l<n/\b (hint+l)=true/\(u>=n-hint\/b (hint+u)=false)) ?step2 ?fin2 ⟨rfl,0,1,rfl,by omega,by omega,by omega,hr⟩) ?post2)
  case post2=>
   rintro c st' ⟨rfl,l,u,rfl,h1,h2,h3,h4⟩;dsimp only;refine(Wo b hbe hb (l0:=hint+l+1) (h0:=hint+min u (n-hint)) (by omega) (by omega) (λi a=>hb i _ (by omega) h2 h3) (λi a c=>?_) q:wpS (model prog w) A E s (bsB be n _ _) Q st')
   rcases h4 with h4|h4
   ·omega
   ·exact hb' (hint+u) i (by omega) c h4
  case fin2=>
   rintro c st' ⟨rfl,l,u,rfl,h1,h2,h3,h4⟩;exact⟨rfl,l,u,rfl,h2,h3,h4,.inl<|by omega⟩
  case step2=>
   rintro x c st' _ hx ⟨rfl,l,u,rfl,h1,h2,h3,h4⟩;dsimp only;by_cases hge:u>=n-hint
   ·rw[aL hge];exact bA ⟨rfl,l,u,rfl,h2,h3,h4,.inl hge⟩
   ·rw[aJ hge];refine aZ (hbe _ (by omega) _ ?_)
    cases hv:b (hint+u)
    ·dsimp[eU,c_];exact bA ⟨rfl,l,u,rfl,h2,h3,h4,.inr hv⟩
    ·dsimp[cV,bF,cj];exact bA ⟨rfl,u,2 * u+1,rfl,by omega,by omega,by omega,hv⟩
end
section
variable {prog:aj}{w:ah}{A:az}{E:af->aA->Prop}{s:aA}{o:Ord}{N:Nat}{f:Nat->Keyed}{kd:SortKind}{st:SortSt}
def R_(C:CT prog w A s o N f kd)(hk:kindOf st=kd){base n:Nat}{arr:Array Keyed}{h:Nat->Nat}(ha:∀i,i<n->arr[base+i]?=some (f<|h i))(hN:∀i,i<n->h i<key)(hkN:key<N)(so:So o h 0 n)(hh:hint<n)
  {Q:bn->SortSt->Prop} (q:∀k,k<=n->(∀i,i<k->P o (h i) key)->(∀i,k<=i->i<n->P o key (h i))->Q (some k) st):wpS (model prog w) A E s (nA false (f key) arr base n hint) Q st:=by
 rw[Dv];refine KL (λi=>!o.lt key (h i)) (λi hi Q' q'=>?_) (λi j a b c=>?_) hh λk h1 h2 h3=>q k h1 (λi a=>?_) λi a b=>?_
 ·refine aZ<|kC (ha i hi) ?_;dsimp[bF,cj];exact aZ (Cb C hk hkN (by have:=hN i hi;lia)<|bA q')
 ·by_cases z:i=j
  ·subst z;exact c
  ·have r:=so i j (bP _) () b;have c':o.lt key (h j)=false:=by simpa using c
   cases e:o.lt key (h i)with
   | false=>rfl
   | true=>
    have:=(P.of_lt e).trans r;rw[this.lt<|hN j b]at c';cases c'
 ·have:=h2 i a;exact P.zO (by simpa using this) (hN i ())
 ·have:=h3 i a b;exact .inl<|by simpa using this
def Qf(C:CT prog w A s o N f kd)(hk:kindOf st=kd){base n:Nat}{arr:Array Keyed}{h:Nat->Nat}(ha:∀i,i<n->arr[base+i]?=some (f<|h i))(hN:∀i,i<n->key<h i/\h i<N)(so:So o h 0 n)(hh:hint<n)
  {Q:bn->SortSt->Prop} (q:∀k,k<=n->(∀i,i<k->P o (h i) key)->(∀i,k<=i->i<n->P o key (h i))->Q (some k) st):wpS (model prog w) A E s (nA true (f key) arr base n hint) Q st:=by
 rw[Dv];refine KL (λi=>o.lt (h i) key) (λi hi Q' q'=>?_) (λi j a b c=>?_) hh λk h1 h2 h3=>q k h1 (λi a=>?_) λi a b=>?_
 ·refine aZ<|kC (ha i hi) ?_;dsimp[c_];exact Cb C hk (hN i hi).2 (by have:=hN i hi;lia) q'
 ·by_cases z:i=j
  ·subst z;exact c
  ·have r:=so i j (bP _) () b;exact(r.trans<|P.of_lt c).lt (hN i ()).1
 ·exact .inl (h2 i a)
 ·exact P.zO (h3 i a b) (hN i b).1
end
abbrev Ck:Array Keyed->Array Keyed->StateT SortSt Sem (Array Keyed):=sortPriv% PySem.Builtin.mergeLo
abbrev B6:Array Keyed->Array Keyed->StateT SortSt Sem (Array Keyed):=sortPriv% PySem.Builtin.mergeHi
abbrev zV:Nat->StateT SortSt Sem Unit:=sortPriv% PySem.Builtin.setMinGallop
def Tn(m:Nat):zV m=modify λs=>SortSt.mk' (kindOf s) (arrOf s) (pendingOf s) m (failedOf s):=rfl
def HF(a b:Array Keyed):Ck a b=(do
 rule "list.sort.merge-lo"
 let all_:=a.size+b.size
 let end1 (acc:Array Keyed) (p q:Nat):=acc++a.extract p a.size++b.extract q b.size
 let end2 (acc:Array Keyed) (p q:Nat):=acc++b.extract q b.size++a.extract p a.size
 let mut acc:Array Keyed:=#[<- elem' b 0]
 let mut p:=0
 let mut q:=1
 if q == b.size then return end1 acc p q
 if p+1 == a.size then return end2 acc p q
 let mut mg:=gallopOf (<- get)
 for _ in [0:all_] do
  let mut ca:=0
  let mut cb:=0
  for _ in [0:all_] do
   let some won <- lt' (<- elem' b q) (<- elem' a p)|return end1 acc p q
   if won then
    acc:=acc.push<|<- elem' b q;q:=q+1;cb:=cb+1;ca:=0
    if q == b.size then return end1 acc p q
    if cb>=mg then break
   else
    acc:=acc.push<|<- elem' a p;p:=p+1;ca:=ca+1;cb:=0
    if p+1 == a.size then return end2 acc p q
    if ca>=mg then break
  rule "list.sort.gallop"
  mg:=mg+1
  for _ in [0:all_] do
   if mg>1 then mg:=mg-1
   zV mg
   let some k <- nA false (<- elem' b q) a p (a.size-p) 0|return end1 acc p q
   ca:=k
   if k>0 then
    acc:=acc++a.extract p (p+k);p:=p+k
    if p+1 == a.size then return end2 acc p q
    if p == a.size then return end1 acc p q
   acc:=acc.push<|<- elem' b q;q:=q+1
   if q == b.size then return end1 acc p q
   let some k <- nA true (<- elem' a p) b q (b.size-q) 0|return end1 acc p q
   cb:=k
   if k>0 then
    acc:=acc++b.extract q (q+k);q:=q+k
    if q == b.size then return end1 acc p q
   acc:=acc.push<|<- elem' a p;p:=p+1
   if p+1 == a.size then return end2 acc p q
   if ca<7 && cb<7 then break
  mg:=mg+1
  zV mg
 unsupported "internal:list.sort.merge-bound"):=rfl
section
variable {o:Ord}{N:Nat}{f:Nat->Keyed}{A B hs:am}{ia ib:Nat}
abbrev fa (f:Nat->Keyed)(l:am):Array Keyed:=(l.map f).toArray
def om(l:am):(fa f l).size=l.length:=by unfold fa;rw[aX,aG]
def OJ(l:am)(i:Nat):(fa f l)[i]?=(l[i]?).map f:=by unfold fa;rw[eW,aV]
def nE{l:am}{i x:Nat}(h:l[i]?=some x):(fa f l)[i]?=some (f x):=by rw[OJ,h];rfl
def yD(l:am)(x:Nat):(fa f l).push (f x)=fa f (l++[x]):=by
 unfold fa;rw[List.push_toArray,bN];rfl
def rP(l m:am):fa f l++fa f m=fa f (l++m):=by
 unfold fa;rw[List.append_toArray,bN]
def zy(l:am)(i j:Nat):(fa f l).extract i j=fa f ((l.drop i).take<|j-i):=by
 unfold fa;rw[List.extract_toArray,List.extract_eq_take_drop,map_take,map_drop]
def AM(l:am)(i:Nat):(fa f l).extract i l.length=fa f (l.drop i):=by
 rw[zy,dQ<|by rw[cT];lia]
structure Ab (o:Ord)(N:Nat)(A B:am):Prop where
 sa:A.Pairwise (P o)
 sb:B.Pairwise (P o)
 lt:∀x∈A,∀y∈B,x<y
 nb:∀y∈B,y<N
 na:∀x∈A,x<N
structure Mg (o:Ord)(A B hs:am)(ia ib:Nat):Prop where
 la:ia<=A.length
 lb:ib<=B.length
 len:hs.length=ia+ib
 so:hs.Pairwise (P o)
 mem:∀x∈hs,x∈A\/x∈B
 ua:∀x∈hs,∀y∈A.drop ia,P o x y
 ub:∀x∈hs,∀y∈B.drop ib,P o x y
abbrev Res (o:Ord)(f:Nat->Keyed)(A B:am)(out:Array Keyed):Prop:=∃hs:am,out=fa f hs/\hs.length=A.length+B.length/\hs.Pairwise (P o)/\∀x∈hs,x∈A\/x∈B
def vD{l:am}(h:l.Pairwise<|P o){i j x:Nat}(hx:l[i]?=some x)(hy:l[j]?=some y)(hij:i<j):P o x y:=by
 obtain⟨h1,e1⟩:=aK.mp hx;obtain⟨h2,e2⟩:=aK.mp hy;rw[<- e1,<- e2];exact cA.mp h i j h1 h2 hij
def xW{l:am}{y:Nat}(h:y∈l.drop i):∃j,i<=j/\l[j]?=some y:=by
 obtain⟨k,hk⟩:=gg h;rw[gK]at hk;exact⟨i+k,(),hk⟩
def Mg.zU(ab:Ab o N A B)(m:Mg o A B hs ia ib){x:Nat}(hx:A[ia]?=some x)(h:∀y∈B.drop ib,P o x y):Mg o A B (hs++[x]) (ia+1) ib:=by
 obtain⟨h1,e1⟩:=aK.mp hx;have hd:A.drop ia=x::A.drop (ia+1):=by rw[<- e1];exact di h1
 refine⟨(),m.lb,by rw[aS,m.len];show ia+ib+1=_;lia,?_,λz hz=>?_,λz hz y hy=>?_,λz hz y hy=>?_⟩
 ·rw[cC];exact⟨m.so,cu ..,λa ha b hb=>by rw[aP.mp hb];exact m.ua a ha x<|by rw[hd];exact aM ..⟩
 ·rcases bE.mp hz with z'|z'
  ·exact m.mem z z'
  ·rw[aP.mp z'];exact .inl<|aW hx
 ·rcases bE.mp hz with z'|z'
  ·exact m.ua z z' y (by rw[hd];exact aN _ hy)
  ·rw[aP.mp z'];obtain⟨j,hj,ej⟩:=xW hy;exact vD ab.sa hx ej ()
 ·rcases bE.mp hz with z'|z'
  ·exact m.ub z z' y hy
  ·rw[aP.mp z'];exact h y hy
def Ab.AD(ab:Ab o N A B)(m:Mg o A B hs ia ib){x:Nat}(hx:B[ib]?=some x)(h:∀y∈A.drop ia,P o x y):Mg o A B (hs++[x]) ia (ib+1):=by
 obtain⟨h1,e1⟩:=aK.mp hx;have hd:B.drop ib=x::B.drop (ib+1):=by rw[<- e1];exact di h1
 refine⟨m.la,(),by rw[aS,m.len];rfl,?_,λz hz=>?_,λz hz y hy=>?_,λz hz y hy=>?_⟩
 ·rw[cC];exact⟨m.so,cu ..,λa ha b hb=>by rw[aP.mp hb];exact m.ub a ha x<|by rw[hd];exact aM ..⟩
 ·rcases bE.mp hz with z'|z'
  ·exact m.mem z z'
  ·rw[aP.mp z'];exact .inr<|aW hx
 ·rcases bE.mp hz with z'|z'
  ·exact m.ua z z' y hy
  ·rw[aP.mp z'];exact h y hy
 ·rcases bE.mp hz with z'|z'
  ·exact m.ub z z' y (by rw[hd];exact aN _ hy)
  ·rw[aP.mp z'];obtain⟨j,hj,ej⟩:=xW hy;exact vD ab.sb hx ej ()
def tY{l:am}(h:l.Pairwise<|P o){i x:Nat}(hx:l[i]?=some x)(hxy:P o y x):∀z∈l.drop i,P o y z:=λz hz=>by
 obtain⟨j,hj,ej⟩:=xW hz;by_cases c:j=i
 ·subst c;rw[hx]at ej;cases ej;exact hxy
 ·exact hxy.trans<|vD h hx ej ()
def take_snoc{l:am}{k x:Nat}(h:l[i+k]?=some x):(l.drop i).take (k+1)=(l.drop i).take k++[x]:=by
 have h':(l.drop i)[k]?=some x:=by rw[gK];exact h
 obtain⟨h1,e1⟩:=aK.mp h';rw[fq h1,e1]
theorem Mg.BN(ab:Ab o N A B)(m:Mg o A B hs ia ib)(hy:B[ib]?=some y):∀k,ia+k<=A.length->(∀i x,i<k->A[ia+i]?=some x->P o x y)->Mg o A B (hs++(A.drop ia).take k) (ia+k) ib
 | 0,_,_=>by rw[fP,cG];exact m
 | k+1,hk,h=>by
  have ih:=Mg.BN ab m hy k () λi x hi=>h i x ();have hx:A[ia+k]?=some (A[ia+k]'()):=aF _;rw[take_snoc hx,<- ck];exact ih.zU ab hx<|tY ab.sb hy<|h k _ () hx
theorem Mg.Bu(ab:Ab o N A B)(m:Mg o A B hs ia ib)(hy:A[ia]?=some y):∀k,ib+k<=B.length->(∀i x,i<k->B[ib+i]?=some x->P o x y)->Mg o A B (hs++(B.drop ib).take k) ia (ib+k)
 | 0,_,_=>by rw[fP,cG];exact m
 | k+1,hk,h=>by
  have ih:=Mg.Bu ab m hy k () λi x hi=>h i x ();have hx:B[ib+k]?=some (B[ib+k]'()):=aF _;rw[take_snoc hx,<- ck];exact ab.AD ih hx<|tY ab.sa hy<|h k _ () hx
def Aw{l:am}(h:l.Pairwise<|P o)(i:Nat):(l.drop i).Pairwise (P o):=h.sublist<|List.drop_sublist ..
def Mg.fin(ab:Ab o N A B)(m:Mg o A B hs ia ib)(h:∀x∈A.drop ia,∀y∈B.drop ib,P o x y):Res o f A B (fa f hs++(fa f A).extract ia A.length++(fa f B).extract ib B.length):=by
 rw[AM,AM,rP,rP];have la:=m.la;have lb:=m.lb;refine⟨_,rfl,by rw[aS,aS,m.len,cT,cT];lia,?_,λx hx=>?_⟩
 ·rw[cC,cC];refine⟨⟨m.so,Aw ab.sa _,m.ua⟩,Aw ab.sb _,λx hx y hy=>?_⟩
  rcases bE.mp hx with z|z
  ·exact m.ub x z y hy
  ·exact h x z y hy
 ·rcases bE.mp hx with z|z
  ·rcases bE.mp z with z|z
   ·exact m.mem x z
   ·exact .inl<|fu z
  ·exact .inr<|fu z
def Mg.Wz(ab:Ab o N A B)(m:Mg o A B hs ia ib)(h:∀x∈A.drop ia,∀y∈B.drop ib,P o y x):Res o f A B (fa f hs++(fa f B).extract ib B.length++(fa f A).extract ia A.length):=by
 rw[AM,AM,rP,rP];have la:=m.la;have lb:=m.lb;refine⟨_,rfl,by rw[aS,aS,m.len,cT,cT];lia,?_,λx hx=>?_⟩
 ·rw[cC,cC];refine⟨⟨m.so,Aw ab.sb _,m.ub⟩,Aw ab.sa _,λx hx y hy=>?_⟩
  rcases bE.mp hx with z|z
  ·exact m.ua x z y hy
  ·exact h y hy x z
 ·rcases bE.mp hx with z|z
  ·rcases bE.mp z with z|z
   ·exact m.mem x z
   ·exact .inr<|fu z
  ·exact .inl<|fu z
def drop_nil{l:am}(h:l.length<=i):l.drop i=[]:=List.drop_eq_nil_of_le h
def Jx{l:am}(h:l.Pairwise<|P o)(b n:Nat)(hn:b+n<=l.length):So o (λi=>l.getD (b+i) 0) 0 n:=λi j _ hij hj=>
 vD h (i:=b+i) (j:=b+j) (by show _=some (l.getD (b+i) 0);rw[aI,aF<|show b+i<l.length by lia];rfl) (by show _=some (l.getD (b+j) 0);rw[aI,aF<|show b+j<l.length by lia];rfl) ()
def getD_at{l:am}{i:Nat}(h:i<l.length):l[i]?=some (l.getD i 0):=by
 rw[aI,aF h];rfl
end
structure Sm (st st':SortSt):Prop where
 a:arrOf st'=arrOf st
 k:kindOf st'=kindOf st
 p:pendingOf st'=pendingOf st
 f:failedOf st'=failedOf st
def Sm.refl{st:SortSt}:Sm st st:=⟨rfl,rfl,rfl,rfl⟩
def Sm.trans{st:SortSt}(a:Sm st st')(b:Sm st' st''):Sm st st'':=⟨b.a.trans a.a,b.k.trans a.k,b.p.trans a.p,b.f.trans a.f⟩
meta abbrev G:=Option (Array Keyed)×Array Keyed×Nat×Nat×Nat×Nat×Nat
abbrev T3 (a b out:Array Keyed)(ia ib mg ac bc:Nat):StateT SortSt Sem (ForInStep G):=do
 let x <- elem' a ia
 if (ia+1+1 == a.size)=true then pure (ForInStep.done (some<|out.push x++b.extract ib b.size++a.extract (ia+1) a.size,out.push x,ia+1,ib,mg,ac,bc))
 else if (decide (ac<7) && decide (bc<7))=true then pure (ForInStep.done (none,out.push x,ia+1,ib,mg,ac,bc))
 else pure (ForInStep.yield (none,out.push x,ia+1,ib,mg,ac,bc))
abbrev T2 (a b out:Array Keyed)(ia ib mg ac bc:Nat):StateT SortSt Sem (ForInStep G):=do
 let x <- elem' b ib
 if (ib+1 == b.size)=true then pure (ForInStep.done (some<|out.push x++a.extract ia a.size++b.extract (ib+1) b.size,out.push x,ia,ib+1,mg,ac,bc))
 else
  let y <- elem' a ia
  let r <- nA true y b (ib+1) (b.size-(ib+1)) 0
  match r with
  | some k=>
   if k>0 then
    if (ib+1+k == b.size)=true then pure (ForInStep.done (some<|out.push x++b.extract (ib+1) (ib+1+k)++a.extract ia a.size++b.extract (ib+1+k) b.size,out.push x++b.extract (ib+1) (ib+1+k),ia,ib+1+k,mg,ac,k))
    else T3 a b (out.push x++b.extract (ib+1) (ib+1+k)) ia (ib+1+k) mg ac k
   else T3 a b (out.push x) ia (ib+1) mg ac k
  | _=>pure<|ForInStep.done (some<|out.push x++a.extract ia a.size++b.extract (ib+1) b.size,out.push x,ia,ib+1,mg,ac,bc)
abbrev T1 (a b out:Array Keyed)(ia ib mg ac bc:Nat):StateT SortSt Sem (ForInStep G):=do
 zV mg
 let x <- elem' b ib
 let r <- nA false x a ia (a.size-ia) 0
 match r with
 | some k=>
  if k>0 then
   if (ia+k+1 == a.size)=true then pure (ForInStep.done (some<|out++a.extract ia (ia+k)++b.extract ib b.size++a.extract (ia+k) a.size,out++a.extract ia (ia+k),ia+k,ib,mg,k,bc))
   else if (ia+k == a.size)=true then pure (ForInStep.done (some<|out++a.extract ia (ia+k)++a.extract (ia+k) a.size++b.extract ib b.size,out++a.extract ia (ia+k),ia+k,ib,mg,k,bc))
   else T2 a b (out++a.extract ia (ia+k)) (ia+k) ib mg k bc
  else T2 a b out ia ib mg k bc
 | _=>pure<|ForInStep.done (some<|out++a.extract ia a.size++b.extract ib b.size,out,ia,ib,mg,ac,bc)
section
variable {prog:aj}{w:ah}{A:az}{E:af->aA->Prop}{s:aA}{o:Ord}{N:Nat}{f:Nat->Keyed}{kd:SortKind}{st st0:SortSt}{X Y hs:am}{ia ib:Nat}
def yE(h:Sm st0 st){Q:Unit->SortSt->Prop}(q:∀st',Sm st0 st'->Q Unit.unit st'):wpS (model prog w) A E s (zV m) Q st:=by
 rw[Tn];exact fW<|q _<|h.trans ⟨rfl,rfl,rfl,rfl⟩
abbrev On (o:Ord)(f:Nat->Keyed)(X Y:am)(n:Nat)(hs:am)(ia ib:Nat):Prop:=Mg o X Y hs ia ib/\ia+1<X.length/\ib<Y.length/\n<=ia+ib
abbrev G2 (o:Ord)(f:Nat->Keyed)(X Y:am)(n:Nat)(st0:SortSt):ForInStep G->SortSt->Prop:=λr st'=>Sm st0 st'/\match r with
 | .done c=>(∃r z,c=(some r,z)/\Res o f X Y r)\/∃hs ia ib mg ac bc,c=(none,fa f hs,ia,ib,mg,ac,bc)/\On o f X Y n hs ia ib
 | .yield c=>∃hs ia ib mg ac bc,c=(none,fa f hs,ia,ib,mg,ac,bc)/\On o f X Y n hs ia ib
abbrev Top (o:Ord)(X Y:am):Prop:=∀i x,X[i]?=some x->i+1=X.length->∀y∈Y,P o y x
def un3{α β γ κ:Type}{g:α->κ}{O:α->β->γ->Prop}{T:κ->Prop}(k:∀a b c,O a b c->T (g a)):∀q,(∃a b c,q=g a/\O a b c)->T q:=by
 rintro _ ⟨a,b,c,rfl,h⟩;exact k a b c h
def un4{α β γ δ κ:Type}{S:Prop}{g:α->β->γ->δ->κ}{O:α->β->γ->δ->Prop}{T:κ->Prop}(k:S->∀a b c d,O a b c d->T (g a b c d)):∀q,(S/\∃a b c d,q=g a b c d/\O a b c d)->T q:=by
 rintro q ⟨s,a,b,c,d,rfl,o⟩;exact k s a b c d o
def un5{α β γ δ ε κ:Type}{S:Prop}{g:α->β->γ->δ->ε->κ}{O:α->β->γ->δ->ε->Prop}{T:κ->Prop}(k:S->∀a b c d e,O a b c d e->T (g a b c d e)):∀q,(S/\∃a b c d e,q=g a b c d e/\O a b c d e)->T q:=by
 rintro q ⟨s,a,b,c,d,e,rfl,o⟩;exact k s a b c d e o
def un6{α β γ δ ε ζ κ:Type}{S:Prop}{g:α->β->γ->δ->ε->ζ->κ}{O:α->β->γ->δ->ε->ζ->Prop}{T:κ->Prop}(k:S->∀a b c d e f,O a b c d e f->T (g a b c d e f)):∀q,(S/\∃a b c d e f,q=g a b c d e f/\O a b c d e f)->T q:=by
 rintro q ⟨s,a,b,c,d,e,f,rfl,o⟩;exact k s a b c d e f o
def uo5{α β γ δ ε κ ρ σ:Type}{S:Prop}{j:ρ->σ->κ}{R:ρ->Prop}{g:α->β->γ->δ->ε->κ}{O:α->β->γ->δ->ε->Prop}{T:κ->Prop}(k1:S->∀r z,R r->T (j r z))(k:S->∀a b c d e,O a b c d e->T (g a b c d e)):∀q,(S/\((∃r z,q=j r z/\R r)\/∃a b c d e,q=g a b c d e/\O a b c d e))->T q:=by
 rintro q ⟨s,⟨r,z,rfl,hr⟩|⟨a,b,c,d,e,rfl,o⟩⟩
 ·exact k1 s r z hr
 ·exact k s a b c d e o
def uo6{α β γ δ ε ζ κ ρ σ:Type}{S:Prop}{j:ρ->σ->κ}{R:ρ->Prop}{g:α->β->γ->δ->ε->ζ->κ}{O:α->β->γ->δ->ε->ζ->Prop}{T:κ->Prop}(k1:S->∀r z,R r->T (j r z))(k:S->∀a b c d e f,O a b c d e f->T (g a b c d e f)):∀q,(S/\((∃r z,q=j r z/\R r)\/∃a b c d e f,q=g a b c d e f/\O a b c d e f))->T q:=by
 rintro q ⟨s,⟨r,z,rfl,hr⟩|⟨a,b,c,d,e,f,rfl,o⟩⟩
 ·exact k1 s r z hr
 ·exact k s a b c d e f o
def yG(ab:Ab o N X Y)(tp:Top o X Y)(m:Mg o X Y hs ia ib)(h:ia+1=X.length):Res o f X Y (fa f hs++(fa f Y).extract ib Y.length++(fa f X).extract ia X.length):=
 m.Wz ab λx hx y hy=>by
  obtain⟨j,hj,ej⟩:=xW hx;have:=(aK.mp ej).1;exact tp j x ej () y<|fu hy
def VX(ab:Ab o N X Y)(tp:Top o X Y)(hm:Sm st0 st){n mg x:Nat}(m:Mg o X Y hs ia ib)(ha:ia+1<X.length)(hb:ib<Y.length)(hn:n<=ia+ib)(hx:X[ia]?=some x)(hy:Y[ib]?=some y)(hxy:P o x y) :
  wpS (model prog w) A E s (T3 (fa f X) (fa f Y) (fa f hs) ia ib mg ac bc) (G2 o f X Y n st0) st:=by
 unfold T3;rw[om,om];refine aZ<|kC (nE hx) ?_;have m2:=m.zU ab hx<|tY ab.sb hy hxy;rw[yD];by_cases c:ia+1+1=X.length
 ·rw[aL<|by rw[c];exact bV _];exact bA ⟨hm,.inl ⟨_,_,rfl,yG ab tp m2 c⟩⟩
 ·rw[aJ<|by simpa using c];by_cases c2:(decide (ac<7) && decide (bc<7))=true
  ·rw[aL c2];exact bA ⟨hm,.inr ⟨_,_,_,_,_,_,rfl,m2,(),hb,()⟩⟩
  ·rw[aJ c2];exact bA ⟨hm,⟨_,_,_,_,_,_,rfl,m2,(),hb,()⟩⟩
def Vt(C:CT prog w A s o N f kd)(hk:kindOf st=kd)(ab:Ab o N X Y)(tp:Top o X Y)(hm:Sm st0 st){n mg x:Nat}(m:Mg o X Y hs ia ib)(ha:ia+1<X.length)(hb:ib<Y.length)(hn:n<=ia+ib)(hx:X[ia]?=some x)(hy:Y[ib]?=some y)(hxy:P o y x) :
  wpS (model prog w) A E s (T2 (fa f X) (fa f Y) (fa f hs) ia ib mg ac bc) (G2 o f X Y n st0) st:=by
 unfold T2;rw[om,om];refine aZ<|kC (nE hy) ?_;have m2:=ab.AD m hy<|tY ab.sa hx hxy;rw[yD];by_cases c:ib+1=Y.length
 ·rw[aL<|by rw[c];exact bV _];exact bA ⟨hm,.inl ⟨_,_,rfl,m2.fin ab λx _ y hy=>by rw[drop_nil ()]at hy;cases hy⟩⟩
 ·rw[aJ<|by simpa using c];refine aZ<|kC (nE hx) ?_;refine aZ (Qf C hk (h:=λi=>Y.getD (ib+1+i) 0) (λi hi=>nE<|getD_at ()) (λi hi=>?_) (Jx ab.sb _ _ ()) () λk k1 k2 k3=>?_)
  ·have:=aW<|getD_at (l:=Y) (i:=ib+1+i) ();exact⟨ab.lt x (aW hx) _ this,ab.nb _ this⟩
  ·dsimp only;have m3:=m2.Bu ab hx k () λi z hi ez=>by
    have:=k2 i hi;rw[aI,ez]at this;exact this
   by_cases c2:k>0
   ·rw[aL c2,zy,show ib+1+k-(ib+1)=k by lia,rP];by_cases c3:ib+1+k=Y.length
    ·rw[aL<|by rw[c3];exact bV _];exact bA ⟨hm,.inl ⟨_,_,rfl,m3.fin ab λx _ y hy=>by rw[drop_nil ()]at hy;cases hy⟩⟩
    ·rw[aJ<|by simpa using c3];exact VX ab tp hm m3 ha () () hx (getD_at ())<|k3 k (aO _) ()
   ·rw[aJ c2];have:k=0:=()
    subst this;exact VX ab tp hm m2 ha () () hx (getD_at ())<|k3 0 (aO _) ()
def ZQ(C:CT prog w A s o N f kd)(hk:kindOf st0=kd)(ab:Ab o N X Y)(tp:Top o X Y)(hm:Sm st0 st){n mg:Nat}(m:Mg o X Y hs ia ib)(ha:ia+1<X.length)(hb:ib<Y.length)(hn:n<=ia+ib) :
  wpS (model prog w) A E s (T1 (fa f X) (fa f Y) (fa f hs) ia ib mg ac bc) (G2 o f X Y n st0) st:=by
 unfold T1;rw[om,om];refine aZ<|yE hm λst1 hm1=>?_;have hy:=getD_at (l:=Y) (i:=ib) hb;have yB:=aW hy;refine aZ<|kC (nE hy) ?_;refine aZ (R_ C (by rw[hm1.k];exact hk) (h:=λi=>X.getD (ia+i) 0) (λi hi=>nE<|getD_at ()) (λi hi=>ab.lt _ (aW<|getD_at (l:=X) (i:=ia+i) ()) _ yB) (ab.nb _ yB) (Jx ab.sa _ _ ()) () λk k1 k2 k3=>?_);dsimp only;have m3:=m.BN ab hy k () λi z hi ez=>by
  have:=k2 i hi;rw[aI,ez]at this;exact this
 by_cases c2:k>0
 ·rw[aL c2,zy,show ia+k-ia=k by lia,rP];by_cases c3:ia+k+1=X.length
  ·rw[aL<|by rw[c3];exact bV _];exact bA ⟨hm1,.inl ⟨_,_,rfl,yG ab tp m3 c3⟩⟩
  ·rw[aJ<|by simpa using c3];by_cases c4:ia+k=X.length
   ·rw[aL<|by rw[c4];exact bV _];exact bA ⟨hm1,.inl ⟨_,_,rfl,m3.fin ab λx hx y _=>by rw[drop_nil ()]at hx;cases hx⟩⟩
   ·rw[aJ<|by simpa using c4];exact Vt C (by rw[hm1.k];exact hk) ab tp hm1 m3 () hb () (getD_at ()) hy<|k3 k (aO _) ()
 ·rw[aJ c2];have:k=0:=()
  subst this;exact Vt C (by rw[hm1.k];exact hk) ab tp hm1 m ha hb hn (getD_at ()) hy<|k3 0 (aO _) ()
def ZJ(C:CT prog w A s o N f kd)(hk:kindOf st=kd)(ab:Ab o N X Y)(tp:Top o X Y)(h1:1<=X.length)(hy0:Y[0]?=some y0)(h0:∀x∈X,P o y0 x)
  {Q:Array Keyed->SortSt->Prop} (q:∀out st',Sm st st'->Res o f X Y out->Q out st'):wpS (model prog w) A E s (Ck (fa f X)<|fa f Y) Q st:=by
 rw[HF];ksr_p;dsimp only;rw[om,om];have hY:=(aK.mp hy0).1;refine aZ<|kC (nE hy0) ?_;have m0:Mg o X Y [] 0 0:=⟨bP _,bP _,rfl,List.Pairwise.nil,(nofun),(nofun),(nofun)⟩;have m1:Mg o X Y [y0] 0 1:=ab.AD m0 hy0 h0;have e1:(#[f y0]:Array Keyed)=fa f [y0]:=rfl;rw[e1];by_cases c:1=Y.length
 ·rw[aL<|by rw[<- c];rfl];exact bA (q _ _ Sm.refl<|m1.fin ab λx _ y hy=>by rw[drop_nil ()]at hy;cases hy)
 ·rw[aJ<|by simpa using c];by_cases c2:0+1=X.length
  ·rw[aL<|by rw[<- c2];rfl];exact bA (q _ _ Sm.refl<|yG ab tp m1 c2)
  ·rw[aJ<|by simpa using c2];refine aZ<|gY ?_;refine aZ (eK (cP (I:=λx c st'=>Sm st st'/\∃hs ia ib mg,c=(none,fa f hs,ia,ib,mg)/\On o f X Y (x+1) hs ia ib)
    (Q:=λc st'=>Sm st st'/\∃r z,c=(some r,z)/\Res o f X Y r) ?step ?fin ⟨Sm.refl,_,_,_,_,rfl,m1,(),(),aO _⟩) ?post)
   case post=>
    rintro c st' ⟨hm,r,z,rfl,hr⟩;exact bA<|q _ _ hm hr
   case fin=>
    rintro c st' ⟨hm,hs,ia,ib,mg,rfl,m,a1,a2,a3⟩;exfalso
    lia
   case step=>
    intro x c st' _ hx hh;revert hh;revert c;refine un4 λhm hs ia ib mg ho=>?_;have m:=ho.1;have a1:=ho.2.1;have a2:=ho.2.2.1;have a3:=ho.2.2.2;clear ho;dsimp only;refine aZ (eK (cP (I:=λx' c st''=>Sm st st''/\∃hs ia ib ac bc,c=(none,fa f hs,ia,ib,ac,bc)/\On o f X Y (x+1+min x' 1) hs ia ib)
     (Q:=λc st''=>Sm st st''/\((∃r z,c=(some r,z)/\Res o f X Y r)\/∃hs ia ib ac bc,c=(none,fa f hs,ia,ib,ac,bc)/\On o f X Y (x+1+1) hs ia ib)) ?istep ?ifin ⟨hm,_,_,_,_,_,rfl,m,a1,a2,a3⟩) ?ipost)
    case ifin=>
     rintro c st'' ⟨hm',hs,ia,ib,ac,bc,rfl,m,a1,a2,a3⟩;exact⟨hm',.inr ⟨_,_,_,_,_,rfl,m,a1,a2,()⟩⟩
    case istep=>
     intro x' c st'' _ hx' hh;revert hh;revert c;refine un5 λhm' hs ia ib ac bc ho=>?_;have m:=ho.1;have a1:=ho.2.1;have a2:=ho.2.2.1;have a3:=ho.2.2.2;clear ho;dsimp only;have hy:=getD_at (l:=Y) (i:=ib) a2;have hxx:=getD_at (l:=X) (i:=ia) ();have yB:=aW hy;have xA:=aW hxx;have lt:=ab.lt _ xA _ yB;refine aZ<|kC (nE hy) ?_;refine aZ<|kC (nE hxx) ?_;refine aZ (Cb C (by rw[hm'.k];exact hk) (ab.nb _ yB) (ab.na _ xA) ?_)
     cases hl:o.lt (Y.getD ib 0) (X.getD ia 0)
     ·dsimp[bF,cj];refine aZ<|kC (nE hxx) ?_;have m2:=m.zU ab hxx<|tY ab.sb hy<|P.zO hl lt;rw[yD];by_cases c3:ia+1+1=X.length
      ·rw[aL<|by rw[c3];exact bV _];exact bA ⟨hm',.inl ⟨_,_,rfl,yG ab tp m2 c3⟩⟩
      ·rw[aJ<|by simpa using c3];by_cases c4:ac+1>=mg
       ·rw[aL c4];exact bA ⟨hm',.inr ⟨_,_,_,_,_,rfl,m2,(),a2,()⟩⟩
       ·rw[aJ c4];exact bA ⟨hm',_,_,_,_,_,rfl,m2,(),a2,()⟩
     ·dsimp[c_];refine aZ<|kC (nE hy) ?_;have m2:=ab.AD m hy<|tY ab.sa hxx<|P.of_lt hl;rw[yD];by_cases c3:ib+1=Y.length
      ·rw[aL<|by rw[c3];exact bV _];exact bA ⟨hm',.inl ⟨_,_,rfl,m2.fin ab λx _ y hy=>by rw[drop_nil ()]at hy;cases hy⟩⟩
      ·rw[aJ<|by simpa using c3];by_cases c4:bc+1>=mg
       ·rw[aL c4];exact bA ⟨hm',.inr ⟨_,_,_,_,_,rfl,m2,a1,(),()⟩⟩
       ·rw[aJ c4];exact bA ⟨hm',_,_,_,_,_,rfl,m2,a1,(),()⟩
    case ipost=>
     intro c st'' hh;revert hh;revert c;refine uo5 (λhm' r z hr=>?_) λhm' hs ia ib ac bc ho=>?_
     ·dsimp only;exact bA ⟨hm',r,_,rfl,hr⟩
     ·have m:=ho.1;have a1:=ho.2.1;have a2:=ho.2.2.1;have a3:=ho.2.2.2;clear ho;dsimp only;ksr_p;refine aZ (eK (cP (I:=λx' c st''=>Sm st st''/\∃hs ia ib mg ac bc,c=(none,fa f hs,ia,ib,mg,ac,bc)/\On o f X Y (x+1+1) hs ia ib)
       (Q:=λc st''=>Sm st st''/\((∃r z,c=(some r,z)/\Res o f X Y r)\/∃hs ia ib mg ac bc,c=(none,fa f hs,ia,ib,mg,ac,bc)/\On o f X Y (x+1+1) hs ia ib)) ?jstep ?jfin ⟨hm',_,_,_,_,_,_,rfl,m,a1,a2,a3⟩) ?jpost)
      case jfin=>
       rintro c st3 ⟨hm3,hh⟩;exact⟨hm3,.inr hh⟩
      case jstep=>
       intro x' c st3 _ hx' hh;revert hh;revert c;refine un6 λhm3 hs ia ib mg ac bc ho=>?_;have m:=ho.1;have a1:=ho.2.1;have a2:=ho.2.2.1;have a3:=ho.2.2.2;clear ho;dsimp only;have t1:=λmg=>ZQ (n:=x+1+1) (mg:=mg) (ac:=ac) (bc:=bc) (E:=E) C hk ab tp hm3 m a1 a2 a3;unfold T1 T2 T3 at t1;rw[om,om]at t1;refine eK (Q:=G2 o f X Y (x+1+1) st) ?_ ?_
       ·by_cases c3:mg>1
        ·rw[aL c3];exact t1 (mg-1)
        ·rw[aJ c3];exact t1 mg
       ·rintro r st4 ⟨hm4,hr⟩
        cases r with
        | done c=>exact⟨hm4,hr⟩
        | yield c=>exact⟨hm4,hr⟩
      case jpost=>
       intro c st3 hh;revert hh;revert c;refine uo6 (λhm3 r z hr=>?_) λhm3 hs ia ib mg ac bc ho=>?_
       ·dsimp only;exact bA ⟨hm3,r,_,rfl,hr⟩
       ·have m:=ho.1;have a1:=ho.2.1;have a2:=ho.2.2.1;have a3:=ho.2.2.2;clear ho;dsimp only;refine aZ<|yE hm3 λst4 hm4=>?_;exact bA ⟨hm4,_,_,_,_,rfl,m,a1,a2,a3⟩
end
def Hy(a b:Array Keyed):B6 a b=(do
 rule "list.sort.merge-hi"
 let all_:=a.size+b.size
 let end1 (acc:Array Keyed) (p q:Nat):=a.extract 0 p++b.extract 0 q++acc.reverse
 let end2 (acc:Array Keyed) (p q:Nat):=b.extract 0 q++a.extract 0 p++acc.reverse
 let mut p:=a.size-1
 let mut q:=b.size
 let mut acc:Array Keyed:=#[<- elem' a p]
 if p == 0 then return end1 acc p q
 if q == 1 then return end2 acc p q
 let mut mg:=gallopOf (<- get)
 for _ in [0:all_] do
  let mut ca:=0
  let mut cb:=0
  for _ in [0:all_] do
   let some won <- lt' (<- elem' b (q-1)) (<- elem' a (p-1))|return end1 acc p q
   if won then
    p:=p-1;acc:=acc.push<|<- elem' a p;ca:=ca+1;cb:=0
    if p == 0 then return end1 acc p q
    if ca>=mg then break
   else
    q:=q-1;acc:=acc.push<|<- elem' b q;cb:=cb+1;ca:=0
    if q == 1 then return end2 acc p q
    if cb>=mg then break
  rule "list.sort.gallop"
  mg:=mg+1
  for _ in [0:all_] do
   if mg>1 then mg:=mg-1
   zV mg
   let some t <- nA false (<- elem' b (q-1)) a 0 p (p-1)|return end1 acc p q
   let k:=p-t
   ca:=k
   if k>0 then
    acc:=acc++(a.extract t p).reverse;p:=t
    if p == 0 then return end1 acc p q
   q:=q-1;acc:=acc.push (<- elem' b q)
   if q == 1 then return end2 acc p q
   let some t <- nA true (<- elem' a (p-1)) b 0 q (q-1)|return end1 acc p q
   let k:=q-t
   cb:=k
   if k>0 then
    acc:=acc++(b.extract t q).reverse;q:=t
    if q == 1 then return end2 acc p q
    if q == 0 then return end1 acc p q
   p:=p-1;acc:=acc.push (<- elem' a p)
   if p == 0 then return end1 acc p q
   if ca<7 && cb<7 then break
  mg:=mg+1
  zV mg
 unsupported "internal:list.sort.merge-bound"):=rfl
section
variable {o:Ord}{N:Nat}{f:Nat->Keyed}{A B ts:am}{na nb:Nat}
def RW(l:am):(fa f l).reverse=fa f l.reverse:=by
 unfold fa;rw[List.reverse_toArray,List.map_reverse]
def An(l:am)(i:Nat):(fa f l).extract 0 i=fa f (l.take i):=by
 rw[zy,jC,Nat.sub_zero]
structure Mh (o:Ord)(A B ts:am)(na nb:Nat):Prop where
 la:na<=A.length
 lb:nb<=B.length
 len:ts.length+na+nb=A.length+B.length
 so:ts.Pairwise (P o)
 mem:∀x∈ts,x∈A\/x∈B
 ua:∀y∈A.take na,∀x∈ts,P o y x
 ub:∀y∈B.take nb,∀x∈ts,P o y x
def xS{l:am}{y:Nat}(h:y∈l.take i):∃j,j<i/\l[j]?=some y:=by
 obtain⟨k,hk⟩:=gg h;have:=(aK.mp hk).1;rw[bI]at this;rw[gB ()]at hk;exact⟨k,(),hk⟩
def take_one{l:am}{i x:Nat}(h:l[i]?=some x):l.take (i+1)=l.take i++[x]:=by
 obtain⟨h1,e1⟩:=aK.mp h;rw[fq h1,e1]
def Mh.zU(ab:Ab o N A B)(m:Mh o A B ts (na+1) nb){x:Nat}(hx:A[na]?=some x)(h:∀y∈B.take nb,P o y x):Mh o A B (x::ts) na nb:=by
 have la:=m.la;have len:=m.len;have ht:=take_one hx;have xin:x∈A.take (na+1):=by rw[ht];exact bU _ (aP.mpr rfl)
 refine⟨(),m.lb,by rw[bz];lia,bQ.mpr ⟨λy hy=>m.ua x xin y hy,m.so⟩,λz hz=>?_,λy hy z hz=>?_,λy hy z hz=>?_⟩
 ·rcases bu.mp hz with rfl|z'
  ·exact .inl (aW hx)
  ·exact m.mem z z'
 ·rcases bu.mp hz with rfl|z'
  ·obtain⟨j,hj,ej⟩:=xS hy;exact vD ab.sa ej hx hj
  ·exact m.ua y (by rw[ht];exact ff _ hy) z z'
 ·rcases bu.mp hz with rfl|z'
  ·exact h y hy
  ·exact m.ub y hy z z'
def Mh.RX(ab:Ab o N A B)(m:Mh o A B ts na<|nb+1){x:Nat}(hx:B[nb]?=some x)(h:∀y∈A.take na,P o y x):Mh o A B (x::ts) na nb:=by
 have lb:=m.lb;have len:=m.len;have ht:=take_one hx;have xin:x∈B.take (nb+1):=by rw[ht];exact bU _ (aP.mpr rfl)
 refine⟨m.la,(),by rw[bz];lia,bQ.mpr ⟨λy hy=>m.ub x xin y hy,m.so⟩,λz hz=>?_,λy hy z hz=>?_,λy hy z hz=>?_⟩
 ·rcases bu.mp hz with rfl|z'
  ·exact .inr (aW hx)
  ·exact m.mem z z'
 ·rcases bu.mp hz with rfl|z'
  ·exact h y hy
  ·exact m.ua y hy z z'
 ·rcases bu.mp hz with rfl|z'
  ·obtain⟨j,hj,ej⟩:=xS hy;exact vD ab.sb ej hx hj
  ·exact m.ub y (by rw[ht];exact ff _ hy) z z'
def tR{l:am}(h:l.Pairwise<|P o){i x:Nat}(hx:l[i]?=some x)(hxy:P o x y):∀z∈l.take (i+1),P o z y:=λz hz=>by
 obtain⟨j,hj,ej⟩:=xS hz;by_cases c:j=i
 ·subst c;rw[hx]at ej;cases ej;exact hxy
 ·exact(vD h ej hx ()).trans hxy
theorem Mh.BN(ab:Ab o N A B){mb:Nat}(hy:B[mb]?=some y):∀(k:Nat) {ts:am}{at_:Nat},Mh o A B ts (at_+k) (mb+1)->(∀i x,at_<=i->i<at_+k->A[i]?=some x->P o y x)->Mh o A B ((A.drop at_).take k++ts) at_ (mb+1)
 | 0,ts,at_,m,_=>by rw[fP];exact m
 | k+1,ts,at_,m,h=>by
  have la:=m.la;have hx:A[at_+k]?=some (A[at_+k]'()):=aF _;have m2:=Mh.zU ab (show Mh o A B ts (at_+k+1) (mb+1)from m) hx<|tR ab.sb hy<|h _ _ () () hx;have m3:=Mh.BN ab hy k m2 λi x h1 h2=>h i x h1 ();rw[take_snoc hx,ck];exact m3
theorem Mh.Bu(ab:Ab o N A B){ma:Nat}(hy:A[ma]?=some y):∀(k:Nat) {ts:am}{at_:Nat},Mh o A B ts (ma+1) (at_+k)->(∀i x,at_<=i->i<at_+k->B[i]?=some x->P o y x)->Mh o A B ((B.drop at_).take k++ts) (ma+1) at_
 | 0,ts,at_,m,_=>by rw[fP];exact m
 | k+1,ts,at_,m,h=>by
  have lb:=m.lb;have hx:B[at_+k]?=some (B[at_+k]'()):=aF _;have m2:=Mh.RX ab (show Mh o A B ts (ma+1) (at_+k+1)from m) hx<|tR ab.sa hy<|h _ _ () () hx;have m3:=Mh.Bu ab hy k m2 λi x h1 h2=>h i x h1 ();rw[take_snoc hx,ck];exact m3
def Av{l:am}(h:l.Pairwise<|P o)(i:Nat):(l.take i).Pairwise (P o):=h.sublist<|List.take_sublist ..
def Mh.fin(ab:Ab o N A B)(m:Mh o A B ts na nb)(h:∀x∈A.take na,∀y∈B.take nb,P o x y):Res o f A B ((fa f A).extract 0 na++(fa f B).extract 0 nb++fa f ts):=by
 rw[An,An,rP,rP];have la:=m.la;have lb:=m.lb;have len:=m.len;refine⟨_,rfl,by rw[aS,aS,bI,bI];lia,?_,λx hx=>?_⟩
 ·rw[cC,cC];refine⟨⟨Av ab.sa _,Av ab.sb _,h⟩,m.so,λx hx y hy=>?_⟩
  rcases bE.mp hx with z|z
  ·exact m.ua x z y hy
  ·exact m.ub x z y hy
 ·rcases bE.mp hx with z|z
  ·rcases bE.mp z with z|z
   ·exact .inl (dM z)
   ·exact .inr<|dM z
  ·exact m.mem x z
def Mh.Wz(ab:Ab o N A B)(m:Mh o A B ts na nb)(h:∀x∈A.take na,∀y∈B.take nb,P o y x):Res o f A B ((fa f B).extract 0 nb++(fa f A).extract 0 na++fa f ts):=by
 rw[An,An,rP,rP];have la:=m.la;have lb:=m.lb;have len:=m.len;refine⟨_,rfl,by rw[aS,aS,bI,bI];lia,?_,λx hx=>?_⟩
 ·rw[cC,cC];refine⟨⟨Av ab.sb _,Av ab.sa _,λx hx y hy=>h y hy x hx⟩,m.so,λx hx y hy=>?_⟩
  rcases bE.mp hx with z|z
  ·exact m.ub x z y hy
  ·exact m.ua x z y hy
 ·rcases bE.mp hx with z|z
  ·rcases bE.mp z with z|z
   ·exact .inr (dM z)
   ·exact .inl<|dM z
  ·exact m.mem x z
abbrev Zs (o:Ord)(X Y:am):Prop:=∀y,Y[0]?=some y->∀x∈X,P o y x
def v_(ab:Ab o N A B)(bt:Zs o A B)(m:Mh o A B ts na nb)(h:nb=1):Res o f A B ((fa f B).extract 0 nb++(fa f A).extract 0 na++fa f ts):=
 m.Wz ab λx hx y hy=>by
  obtain⟨j,hj,ej⟩:=xS hy;have:j=0:=()
  subst this;exact bt y ej x<|dM hx
def Mh.Hs(ab:Ab o N A B)(m:Mh o A B ts na nb)(h:na=0\/nb=0):Res o f A B ((fa f A).extract 0 na++(fa f B).extract 0 nb++fa f ts):=
 m.fin ab λx hx y hy=>by
  rcases h with rfl|rfl
  ·rw[fP]at hx;cases hx
  ·rw[fP]at hy;cases hy
def Aq(l:am)(x:Nat):(fa f l.reverse).push (f x)=fa f (x::l).reverse:=by rw[yD,f_]
def QB(l m:am):fa f l.reverse++(fa f m).reverse=fa f (m++l).reverse:=by rw[RW,rP,List.reverse_append]
def xg(l:am):(fa f l.reverse).reverse=fa f l:=by rw[RW,gh]
end
meta abbrev H:=Option (Array Keyed)×Nat×Nat×Array Keyed×Nat×Nat×Nat
abbrev U3 (a b out:Array Keyed)(na nb mg ac bc:Nat):StateT SortSt Sem (ForInStep H):=do
 let x <- elem' a (na-1)
 if (na-1 == 0)=true then pure (ForInStep.done (some<|a.extract 0 (na-1)++b.extract 0 nb++(out.push x).reverse,na-1,nb,out.push x,mg,ac,bc))
 else if (decide (ac<7) && decide (bc<7))=true then pure (ForInStep.done (none,na-1,nb,out.push x,mg,ac,bc))
 else pure (ForInStep.yield (none,na-1,nb,out.push x,mg,ac,bc))
abbrev U2 (a b out:Array Keyed)(na nb mg ac bc:Nat):StateT SortSt Sem (ForInStep H):=do
 let x <- elem' b (nb-1)
 if (nb-1 == 1)=true then pure (ForInStep.done (some<|b.extract 0 (nb-1)++a.extract 0 na++(out.push x).reverse,na,nb-1,out.push x,mg,ac,bc))
 else
  let y <- elem' a (na-1)
  let r <- nA true y b 0 (nb-1) (nb-1-1)
  match r with
  | some t=>
   if nb-1-t>0 then
    if (t == 1)=true then pure (ForInStep.done (some<|b.extract 0 t++a.extract 0 na++(out.push x++(b.extract t<|nb-1).reverse).reverse,na,t,out.push x++(b.extract t<|nb-1).reverse,mg,ac,nb-1-t))
    else if (t == 0)=true then pure (ForInStep.done (some<|a.extract 0 na++b.extract 0 t++(out.push x++(b.extract t<|nb-1).reverse).reverse,na,t,out.push x++(b.extract t<|nb-1).reverse,mg,ac,nb-1-t))
    else U3 a b (out.push x++(b.extract t<|nb-1).reverse) na t mg ac (nb-1-t)
   else U3 a b (out.push x) na (nb-1) mg ac (nb-1-t)
  | _=>pure<|ForInStep.done (some<|a.extract 0 na++b.extract 0 (nb-1)++(out.push x).reverse,na,nb-1,out.push x,mg,ac,bc)
abbrev U1 (a b out:Array Keyed)(na nb mg ac bc:Nat):StateT SortSt Sem (ForInStep H):=do
 zV mg
 let x <- elem' b (nb-1)
 let r <- nA false x a 0 na (na-1)
 match r with
 | some t=>
  if na-t>0 then
   if (t == 0)=true then pure (ForInStep.done (some<|a.extract 0 t++b.extract 0 nb++(out++(a.extract t na).reverse).reverse,t,nb,out++(a.extract t na).reverse,mg,na-t,bc))
   else U2 a b (out++(a.extract t na).reverse) t nb mg (na-t) bc
  else U2 a b out na nb mg (na-t) bc
 | _=>pure<|ForInStep.done (some<|a.extract 0 na++b.extract 0 nb++out.reverse,na,nb,out,mg,ac,bc)
section
variable {prog:aj}{w:ah}{A:az}{E:af->aA->Prop}{s:aA}{o:Ord}{N:Nat}{f:Nat->Keyed}{kd:SortKind}{st st0:SortSt}{X Y ts:am}{na nb:Nat}
abbrev Oh (o:Ord)(X Y:am)(n:Nat)(ts:am)(na nb:Nat):Prop:=Mh o X Y ts na nb/\1<=na/\2<=nb/\na+nb+n<=X.length+Y.length
abbrev H2 (o:Ord)(f:Nat->Keyed)(X Y:am)(n:Nat)(st0:SortSt):ForInStep H->SortSt->Prop:=λr st'=>Sm st0 st'/\match r with
 | .done c=>(∃r z,c=(some r,z)/\Res o f X Y r)\/∃ts na nb mg ac bc,c=(none,na,nb,fa f ts.reverse,mg,ac,bc)/\Oh o X Y n ts na nb
 | .yield c=>∃ts na nb mg ac bc,c=(none,na,nb,fa f ts.reverse,mg,ac,bc)/\Oh o X Y n ts na nb
def VV(ab:Ab o N X Y)(hm:Sm st0 st){n mg x:Nat}(m:Mh o X Y ts (na+1)<|nb+1)(hb:1<=nb)(hn:na+1+(nb+1)+n<=X.length+Y.length)(hx:X[na]?=some x)(hy:Y[nb]?=some y)(hxy:P o y x) :
  wpS (model prog w) A E s (U3 (fa f X) (fa f Y) (fa f ts.reverse) (na+1) (nb+1) mg ac bc) (H2 o f X Y n st0) st:=by
 unfold U3;rw[show na+1-1=na by lia];refine aZ<|kC (nE hx) ?_;have m2:=m.zU ab hx<|tR ab.sb hy hxy;rw[Aq,xg];by_cases c:na=0
 ·rw[aL<|by rw[c];rfl];exact bA ⟨hm,.inl ⟨_,_,rfl,m2.Hs ab<|.inl c⟩⟩
 ·rw[aJ<|by simpa using c];by_cases c2:(decide (ac<7) && decide (bc<7))=true
  ·rw[aL c2];exact bA ⟨hm,.inr ⟨_,_,_,_,_,_,rfl,m2,(),(),()⟩⟩
  ·rw[aJ c2];exact bA ⟨hm,⟨_,_,_,_,_,_,rfl,m2,(),(),()⟩⟩
def Vw(C:CT prog w A s o N f kd)(hk:kindOf st=kd)(ab:Ab o N X Y)(bt:Zs o X Y)(hm:Sm st0 st){n mg x:Nat}(m:Mh o X Y ts (na+1)<|nb+1)(hb:1<=nb)(hn:na+1+(nb+1)+n<=X.length+Y.length)(hx:X[na]?=some x)(hy:Y[nb]?=some y)(hxy:P o x y) :
  wpS (model prog w) A E s (U2 (fa f X) (fa f Y) (fa f ts.reverse) (na+1) (nb+1) mg ac bc) (H2 o f X Y n st0) st:=by
 unfold U2;rw[show nb+1-1=nb by lia,show na+1-1=na by lia];refine aZ<|kC (nE hy) ?_;have m2:=m.RX ab hy<|tR ab.sa hx hxy;have lb:=m.lb;rw[Aq,xg];by_cases c:nb=1
 ·rw[aL<|by rw[c];rfl];exact bA ⟨hm,.inl ⟨_,_,rfl,v_ ab bt m2 c⟩⟩
 ·rw[aJ<|by simpa using c];refine aZ<|kC (nE hx) ?_;refine aZ (Qf C hk (h:=λi=>Y.getD (0+i) 0) (λi hi=>nE<|getD_at ()) (λi hi=>?_) (Jx ab.sb _ _ ()) () λt t1 t2 t3=>?_)
  ·have:=aW<|getD_at (l:=Y) (i:=0+i) ();exact⟨ab.lt x (aW hx) _ this,ab.nb _ this⟩
  ·dsimp only;have m3:=Mh.Bu ab hx (nb-t) (at_:=t) (by rw[show t+(nb-t)=nb by lia];exact m2) λi z hi1 hi2 ez=>by
    have:=t3 i hi1 ();rw[bR,aI (l:=Y),ez]at this;exact this
   by_cases c2:nb-t>0
   ·rw[aL c2,zy Y t nb,QB,xg];by_cases c3:t=1
    ·rw[aL<|by rw[c3];rfl];exact bA ⟨hm,.inl ⟨_,_,rfl,v_ ab bt m3 c3⟩⟩
    ·rw[aJ<|by simpa using c3];by_cases c4:t=0
     ·rw[aL<|by rw[c4];rfl];exact bA ⟨hm,.inl ⟨_,_,rfl,m3.Hs ab<|.inr c4⟩⟩
     ·rw[aJ<|by simpa using c4];obtain⟨u,rfl⟩:∃u,t=u+1:=⟨t-1,()⟩;have:=t2 u ();rw[bR]at this;exact VV ab hm m3 () () hx (getD_at ()) this
   ·rw[aJ c2];have:t=nb:=()
    subst this;obtain⟨u,rfl⟩:∃u,t=u+1:=⟨t-1,()⟩;have:=t2 u ();rw[bR]at this;exact VV ab hm m2 () () hx (getD_at ()) this
def aaf(C:CT prog w A s o N f kd)(hk:kindOf st0=kd)(ab:Ab o N X Y)(bt:Zs o X Y)(hm:Sm st0 st){n mg:Nat}(m:Mh o X Y ts (na+1)<|nb+1)(hb:1<=nb)(hn:na+1+(nb+1)+n<=X.length+Y.length) :
  wpS (model prog w) A E s (U1 (fa f X) (fa f Y) (fa f ts.reverse) (na+1) (nb+1) mg ac bc) (H2 o f X Y n st0) st:=by
 unfold U1;refine aZ<|yE hm λst1 hm1=>?_;have lb:=m.lb;have la:=m.la;rw[show nb+1-1=nb by lia,show na+1-1=na by lia];have hy:=getD_at (l:=Y) (i:=nb) ();have yB:=aW hy;refine aZ<|kC (nE hy) ?_;refine aZ (R_ C (by rw[hm1.k];exact hk) (h:=λi=>X.getD (0+i) 0) (λi hi=>nE<|getD_at ()) (λi hi=>ab.lt _ (aW<|getD_at (l:=X) (i:=0+i) ()) _ yB) (ab.nb _ yB) (Jx ab.sa _ _ ()) () λt t1 t2 t3=>?_);dsimp only;have m3:=Mh.BN ab hy (na+1-t) (at_:=t) (by rw[show t+(na+1-t)=na+1 by lia];exact m) λi z hi1 hi2 ez=>by
  have:=t3 i hi1 ();rw[bR,aI (l:=X),ez]at this;exact this
 by_cases c2:na+1-t>0
 ·rw[aL c2,zy X t<|na+1,QB,xg];by_cases c4:t=0
  ·rw[aL<|by rw[c4];rfl];exact bA ⟨hm1,.inl ⟨_,_,rfl,m3.Hs ab<|.inl c4⟩⟩
  ·rw[aJ<|by simpa using c4];obtain⟨u,rfl⟩:∃u,t=u+1:=⟨t-1,()⟩;have:=t2 u ();rw[bR]at this;exact Vw C (by rw[hm1.k];exact hk) ab bt hm1 m3 hb () (getD_at ()) hy this
 ·rw[aJ c2];have:t=na+1:=()
  subst this;have:=t2 na ();rw[bR]at this;exact Vw C (by rw[hm1.k];exact hk) ab bt hm1 m hb hn (getD_at ()) hy this
def ZS(C:CT prog w A s o N f kd)(hk:kindOf st=kd)(ab:Ab o N X Y)(tp:Top o X Y)(bt:Zs o X Y)(h1:1<=X.length)(h2:1<=Y.length)
  {Q:Array Keyed->SortSt->Prop} (q:∀out st',Sm st st'->Res o f X Y out->Q out st'):wpS (model prog w) A E s (B6 (fa f X)<|fa f Y) Q st:=by
 rw[Hy];ksr_p;dsimp only;rw[om,om];have hx0:=getD_at (l:=X) (i:=X.length-1) ();refine aZ<|kC (nE hx0) ?_;have m0:Mh o X Y [] (X.length-1+1) Y.length:=⟨(),aO _,by rw[cg];lia,List.Pairwise.nil,(nofun),(λ_ _ _ h=>nomatch h),(λ_ _ _ h=>nomatch h)⟩;have m1:=m0.zU ab hx0 λy hy=>tp _ _ hx0 () y<|dM hy;obtain⟨x0,ex0⟩:∃x0,x0=X.getD (X.length-1) 0:=⟨_,rfl⟩;rw[<- ex0]at m1 ⊢;have e1:(#[f x0]:Array Keyed)=fa f [x0].reverse:=rfl;rw[e1,xg];by_cases c:X.length-1=0
 ·rw[aL<|by rw[c];rfl];exact bA (q _ _ Sm.refl<|m1.Hs ab<|.inl c)
 ·rw[aJ<|by simpa using c];by_cases c2:Y.length=1
  ·rw[aL<|by rw[c2];rfl];exact bA (q _ _ Sm.refl<|v_ ab bt m1 c2)
  ·rw[aJ<|by simpa using c2];refine aZ<|gY ?_;refine aZ (eK (cP (I:=λx c st'=>Sm st st'/\∃ts na nb mg,c=(none,na,nb,fa f ts.reverse,mg)/\Oh o X Y (x+1) ts na nb)
    (Q:=λc st'=>Sm st st'/\∃r z,c=(some r,z)/\Res o f X Y r) ?step ?fin ⟨Sm.refl,_,_,_,_,rfl,m1,(),(),()⟩) ?post)
   case post=>
    rintro c st' ⟨hm,r,z,rfl,hr⟩;exact bA<|q _ _ hm hr
   case fin=>
    rintro c st' ⟨hm,ts,na,nb,mg,rfl,m,a1,a2,a3⟩;exfalso
    lia
   case step=>
    intro x c st' _ hx hh;revert hh;revert c;refine un4 λhm ts na nb mg ho=>?_;have m:=ho.1;have a1:=ho.2.1;have a2:=ho.2.2.1;have a3:=ho.2.2.2;clear ho;dsimp only;refine aZ (eK (cP (I:=λx' c st''=>Sm st st''/\∃ts na nb ac bc,c=(none,na,nb,fa f ts.reverse,ac,bc)/\Oh o X Y (x+1+min x' 1) ts na nb)
     (Q:=λc st''=>Sm st st''/\((∃r z,c=(some r,z)/\Res o f X Y r)\/∃ts na nb ac bc,c=(none,na,nb,fa f ts.reverse,ac,bc)/\Oh o X Y (x+1+1) ts na nb)) ?istep ?ifin ⟨hm,_,_,_,_,_,rfl,m,a1,a2,a3⟩) ?ipost)
    case ifin=>
     rintro c st'' ⟨hm',ts,na,nb,ac,bc,rfl,m,a1,a2,a3⟩;exact⟨hm',.inr ⟨_,_,_,_,_,rfl,m,a1,a2,()⟩⟩
    case istep=>
     intro x' c st'' _ hx' hh;revert hh;revert c;refine un5 λhm' ts na nb ac bc ho=>?_;have m:=ho.1;have a1:=ho.2.1;have a2:=ho.2.2.1;have a3:=ho.2.2.2;clear ho;dsimp only;obtain⟨u,rfl⟩:∃u,na=u+1:=⟨na-1,()⟩;obtain⟨v,rfl⟩:∃v,nb=v+1:=⟨nb-1,()⟩;have la:=m.la;have lb:=m.lb;rw[show u+1-1=u by lia,show v+1-1=v by lia];have hy:=getD_at (l:=Y) (i:=v) ();have hxx:=getD_at (l:=X) (i:=u) ();have yB:=aW hy;have xA:=aW hxx;have lt:=ab.lt _ xA _ yB;refine aZ<|kC (nE hy) ?_;refine aZ<|kC (nE hxx) ?_;refine aZ (Cb C (by rw[hm'.k];exact hk) (ab.nb _ yB) (ab.na _ xA) ?_)
     cases hl:o.lt (Y.getD v 0) (X.getD u 0)
     ·dsimp[bF,cj];refine aZ<|kC (nE hy) ?_;have m2:=m.RX ab hy<|tR ab.sa hxx<|P.zO hl lt;rw[Aq,xg];by_cases c3:v=1
      ·rw[aL<|by rw[c3];rfl];exact bA ⟨hm',.inl ⟨_,_,rfl,v_ ab bt m2 c3⟩⟩
      ·rw[aJ<|by simpa using c3];by_cases c4:bc+1>=mg
       ·rw[aL c4];exact bA ⟨hm',.inr ⟨_,_,_,_,_,rfl,m2,a1,(),()⟩⟩
       ·rw[aJ c4];exact bA ⟨hm',_,_,_,_,_,rfl,m2,a1,(),()⟩
     ·dsimp[c_];refine aZ<|kC (nE hxx) ?_;have m2:=m.zU ab hxx<|tR ab.sb hy<|P.of_lt hl;rw[Aq,xg];by_cases c3:u=0
      ·rw[aL<|by rw[c3];rfl];exact bA ⟨hm',.inl ⟨_,_,rfl,m2.Hs ab<|.inl c3⟩⟩
      ·rw[aJ<|by simpa using c3];by_cases c4:ac+1>=mg
       ·rw[aL c4];exact bA ⟨hm',.inr ⟨_,_,_,_,_,rfl,m2,(),a2,()⟩⟩
       ·rw[aJ c4];exact bA ⟨hm',_,_,_,_,_,rfl,m2,(),a2,()⟩
    case ipost=>
     intro c st'' hh;revert hh;revert c;refine uo5 (λhm' r z hr=>?_) λhm' ts na nb ac bc ho=>?_
     ·dsimp only;exact bA ⟨hm',r,_,rfl,hr⟩
     ·have m:=ho.1;have a1:=ho.2.1;have a2:=ho.2.2.1;have a3:=ho.2.2.2;clear ho;dsimp only;ksr_p;refine aZ (eK (cP (I:=λx' c st''=>Sm st st''/\∃ts na nb mg ac bc,c=(none,na,nb,fa f ts.reverse,mg,ac,bc)/\Oh o X Y (x+1+1) ts na nb)
       (Q:=λc st''=>Sm st st''/\((∃r z,c=(some r,z)/\Res o f X Y r)\/∃ts na nb mg ac bc,c=(none,na,nb,fa f ts.reverse,mg,ac,bc)/\Oh o X Y (x+1+1) ts na nb)) ?jstep ?jfin ⟨hm',_,_,_,_,_,_,rfl,m,a1,a2,a3⟩) ?jpost)
      case jfin=>
       rintro c st3 ⟨hm3,hh⟩;exact⟨hm3,.inr hh⟩
      case jstep=>
       intro x' c st3 _ hx' hh;revert hh;revert c;refine un6 λhm3 ts na nb mg ac bc ho=>?_;have m:=ho.1;have a1:=ho.2.1;have a2:=ho.2.2.1;have a3:=ho.2.2.2;clear ho;dsimp only;obtain⟨u,rfl⟩:∃u,na=u+1:=⟨na-1,()⟩;obtain⟨v,rfl⟩:∃v,nb=v+1:=⟨nb-1,()⟩;have t1:=λmg=>aaf (n:=x+1+1) (mg:=mg) (ac:=ac) (bc:=bc) (E:=E) C hk ab bt hm3 m () a3;unfold U1 U2 U3 at t1;refine eK (Q:=H2 o f X Y (x+1+1) st) ?_ ?_
       ·by_cases c3:mg>1
        ·rw[aL c3];exact t1 (mg-1)
        ·rw[aJ c3];exact t1 mg
       ·rintro r st4 ⟨hm4,hr⟩
        cases r with
        | done c=>exact⟨hm4,hr⟩
        | yield c=>exact⟨hm4,hr⟩
      case jpost=>
       intro c st3 hh;revert hh;revert c;refine uo6 (λhm3 r z hr=>?_) λhm3 ts na nb mg ac bc ho=>?_
       ·dsimp only;exact bA ⟨hm3,r,_,rfl,hr⟩
       ·have m:=ho.1;have a1:=ho.2.1;have a2:=ho.2.2.1;have a3:=ho.2.2.2;clear ho;dsimp only;refine aZ<|yE hm3 λst4 hm4=>?_;exact bA ⟨hm4,_,_,_,_,rfl,m,a1,a2,a3⟩
end
def Il(i:Nat):mergeAt' i=(do
 let s <- get
 let(some (a1,n1,pw),some (a2,n2,_)):=((pendingOf s)[i]?,(pendingOf s)[i+1]?)|unsupported "internal:list.sort.pending"
 set (setPending s<|((pendingOf s).setIfInBounds i (a1,n1+n2,pw)).eraseIdxIfInBounds<|i+1)
 let some k <- nA false (<- elem' (arrOf s) a2) (arrOf s) a1 n1 0|return false
 let(a1,n1):=(a1+k,n1-k)
 if n1 == 0 then return true
 let some n2 <- nA true (<- elem' (arrOf s) (a1+n1-1)) (arrOf s) a2 n2 (n2-1)|return false
 if n2 == 0 then return true
 let x:=(arrOf s).extract a1 a2
 let y:=(arrOf s).extract a2 (a2+n2)
 let both <- if n1<=n2 then Ck x y else B6 x y
 modify λs=>setArr s (both.toList.zipIdx.foldl (λa (p,j)=>a.setIfInBounds (a1+j) p)<|arrOf s)
 return (failedOf<|<- get).isNone):=rfl
abbrev seg (g:Nat->Nat)(a n:Nat):am:=(List.range n).map λi=>g<|a+i
section
variable {o:Ord}{N:Nat}{f:Nat->Keyed}{g:Nat->Nat}
def pT(g:Nat->Nat)(a n:Nat):(seg g a n).length=n:=by unfold seg;rw[aG,cF]
def uq{a n i:Nat}(h:i<n):(seg g a n)[i]?=some (g<|a+i):=by unfold seg;rw[aV,dS h];rfl
def sA{a n x:Nat}(h:x∈seg g a n):∃i,i<n/\x=g (a+i):=by
 obtain⟨i,hi,rfl⟩:=br.mp h;exact⟨i,dD.mp hi,rfl⟩
def O7{a n:Nat}(h:So o g a<|a+n):(seg g a n).Pairwise (P o):=by
 rw[cA];intro i j hi hj hij;rw[pT]at hi hj;have e1:=uq (g:=g) (a:=a) hi;have e2:=uq (g:=g) (a:=a) hj;rw[aF<|by rw[pT];exact hi]at e1;rw[aF<|by rw[pT];exact hj]at e2;rw[bh e1,bh e2];exact h _ _ () () ()
def LV{arr:Array Keyed}(hs:arr.size=N)(hg:∀i,i<N->arr[i]?=some (f<|g i)){a n:Nat}(h:a+n<=N):arr.extract a (a+n)=fa f (seg g a n):=by
 apply Array.ext_getElem?;intro i;rw[OJ,Array.getElem?_extract];by_cases c:i<n
 ·rw[aL (),uq c,hg _ ()];rfl
 ·rw[aJ (),b8<|by rw[pT];lia];rfl
theorem Dj{α:Type}(b:Nat):∀(l:List α) (n:Nat) (arr:Array α),((l.zipIdx n).foldl (λa (p,j)=>a.setIfInBounds (b+j) p) arr).size=arr.size
 | [],_,_=>rfl
 | x::l,n,arr=>by
  rw[jh,e8,Dj b l<|n+1];exact Array.size_setIfInBounds ..
theorem FU{α:Type}(b:Nat):∀(l:List α) (n:Nat) (arr:Array α) (k:Nat),b+n+l.length<=arr.size->((l.zipIdx n).foldl (λa (p,j)=>a.setIfInBounds (b+j) p) arr)[k]?=if b+n<=k/\k<b+n+l.length then l[k-(b+n)]? else arr[k]?
 | [],n,arr,k,h=>by rw[aJ<|by rw[cg];lia];rfl
 | x::l,n,arr,k,h=>by
  rw[bz]at h;rw[jh,e8,FU b l (n+1) _ k<|by rw[Array.size_setIfInBounds];lia,bz];by_cases c:k=b+n
  ·subst c;rw[aJ (),aL (),gZ];show(arr.setIfInBounds (b+n) x)[b+n]?=some x;rw[Array.getElem?_setIfInBounds_self_of_lt ()]
  ·by_cases c2:b+n<=k/\k<b+n+(l.length+1)
   ·rw[aL (),aL c2,show k-(b+n)=k-(b+(n+1))+1 by lia,List.getElem?_cons_succ]
   ·rw[aJ (),aJ c2]
    skip
    rw[Array.getElem?_setIfInBounds_ne ()]
end
section
variable {prog:aj}{w:ah}{A:az}{E:af->aA->Prop}{s:aA}{o:Ord}{N:Nat}{f:Nat->Keyed}{kd:SortKind}{g:Nat->Nat}{st:SortSt}
def SM{Q:PUnit->SortSt->Prop}(h:Q ⟨⟩ st'):wpS (model prog w) A E s (set st':StateT SortSt Sem PUnit) Q st:=by
 unfold wpS;rw[StateT.run_set];exact aR ⟨rfl,h⟩
def aaO(C:CT prog w A s o N f kd){l1:List<|Nat×Nat×Nat}{sa na nb pw pv:Nat}(h:Sg N f kd g (l1++(sa,na,pw)::(sa+na,nb,pv)::l2).toArray st)(ha:1<=na)(hb:1<=nb)(hN:sa+na+nb<=N)
  (c1:Cl g sa<|sa+na) (s1:So o g sa<|sa+na) (c2:Cl g (sa+na)<|sa+na+nb) (s2:So o g (sa+na)<|sa+na+nb)
  {Q:Bool->SortSt->Prop} (q:∀g' st',Sg N f kd g' (l1++(sa,na+nb,pw)::l2).toArray st'->Rn o g g' sa (sa+na+nb)->Q true st'):wpS (model prog w) A E s (mergeAt' l1.length) Q st:=by
 rw[Il];refine aZ<|gY ?_;have e1:(pendingOf st)[l1.length]?=some (sa,na,pw):=by rw[h.pend];simp
 have e2:(pendingOf st)[l1.length+1]?=some (sa+na,nb,pv):=by rw[h.pend];simp
 have e3:((pendingOf st).setIfInBounds l1.length (sa,na+nb,pw)).eraseIdxIfInBounds (l1.length+1)=(l1++(sa,na+nb,pw)::l2).toArray:=by
  rw[h.pend,List.setIfInBounds_toArray,ir];congr 1;rw[f9 _ _<|aO _,gZ,List.eraseIdx_append_of_length_le (),show l1.length+1-l1.length=1 by lia];rfl
 rw[e1,e2];dsimp only;rw[e3];refine aZ<|SM ?_;have h':Sg N f kd g (l1++(sa,na+nb,pw)::l2).toArray (setPending st (l1++(sa,na+nb,pw)::l2).toArray):=⟨h.size,h.get,h.lt,h.kind,h.failed,rfl⟩;obtain⟨st1,hst1⟩:∃st1,st1=setPending st (l1++(sa,na+nb,pw)::l2).toArray:=⟨_,rfl⟩;rw[<- hst1]at h' ⊢;refine aZ<|kC (h.get (sa+na) ()) ?_;have b0:=c2 (sa+na) () ();refine aZ (R_ C h'.kind (h:=λi=>g<|sa+i) (λi hi=>h.get _ ()) (λi hi=>by have:=c1 (sa+i) () ();lia) () (λi j _ a b=>s1 _ _ () () ()) () λk k1 k2 k3=>?_);dsimp only;by_cases cz:na-k=0
 ·rw[aL<|by rw[cz];rfl];refine bA (q g st1 h' ⟨λ_ _=>rfl,λi a b=>?_,λi j a b c=>?_⟩)
  ·by_cases d:i<sa+na
   ·have:=c1 i a d;lia
   ·have:=c2 i () b;lia
  ·by_cases d:j<sa+na
   ·exact s1 i j a b d
   ·by_cases d2:sa+na<=i
    ·exact s2 i j d2 b c
    ·have r:=k2 (i-sa) ();rw[show sa+(i-sa)=i by lia]at r;by_cases d3:j=sa+na
     ·subst d3;exact r
     ·exact r.trans<|s2 _ _ () () c
 ·rw[aJ<|by simpa using cz];have hlast:sa+k+(na-k)-1=sa+na-1:=()
  rw[hlast];refine aZ<|kC (h.get (sa+na-1) ()) ?_;have a0:=c1 (sa+na-1) () ();refine aZ (Qf C h'.kind (h:=λi=>g<|sa+na+i) (λi hi=>h.get _ ()) (λi hi=>by have:=c2 (sa+na+i) () ();lia) (λi j _ a b=>s2 _ _ () () ()) () λt t1 t2 t3=>?_);dsimp only;by_cases cy:t=0
  ·rw[aL<|by rw[cy];rfl];subst cy;refine bA (q g st1 h' ⟨λ_ _=>rfl,λi a b=>?_,λi j a b c=>?_⟩)
   ·by_cases d:i<sa+na
    ·have:=c1 i a d;lia
    ·have:=c2 i () b;lia
   ·by_cases d:j<sa+na
    ·exact s1 i j a b d
    ·by_cases d2:sa+na<=i
     ·exact s2 i j d2 b c
     ·have r:=t3 (j-(sa+na)) () ();rw[show sa+na+(j-(sa+na))=j by lia]at r;by_cases d3:i=sa+na-1
      ·subst d3;exact r
      ·exact(s1 i (sa+na-1) a () ()).trans r
  ·rw[aJ<|by simpa using cy];have x1:(arrOf st).extract (sa+k) (sa+na)=fa f (seg g (sa+k)<|na-k):=by
    have:=LV (f:=f) (g:=g) h.size h.get (a:=sa+k) (n:=na-k) ()
    rwa [show sa+k+(na-k)=sa+na by lia]at this
   have x2:(arrOf st).extract (sa+na) (sa+na+t)=fa f (seg g (sa+na) t):=LV h.size h.get ();rw[x1,x2];have sx:So o g (sa+k) (sa+k+(na-k)):=λi j a b c=>s1 i j () b ();have sy:So o g (sa+na) (sa+na+t):=λi j a b c=>s2 i j a b ();have ab:Ab o N (seg g (sa+k)<|na-k) (seg g (sa+na) t):={
    sa:=O7 sx
    sb:=O7 sy
    lt:=λx hx y hy=>by
     obtain⟨i,hi,rfl⟩:=sA hx;obtain⟨j,hj,rfl⟩:=sA hy;have:=c1 (sa+k+i) () ();have:=c2 (sa+na+j) () ()
     lia
    nb:=λy hy=>by
     obtain⟨j,hj,rfl⟩:=sA hy;exact h.lt _ ()
    na:=λy hy=>by
     obtain⟨j,hj,rfl⟩:=sA hy;exact h.lt _ ()}
   have tp:Top o (seg g (sa+k)<|na-k) (seg g (sa+na) t):=λi x hx hi y hy=>by
    rw[pT]at hi;rw[uq ()]at hx
    cases hx
    obtain⟨j,hj,rfl⟩:=sA hy;rw[show sa+k+i=sa+na-1 by lia];exact t2 j hj
   have bt:Zs o (seg g (sa+k)<|na-k) (seg g (sa+na) t):=λy hy x hx=>by
    rw[uq ()]at hy
    cases hy
    obtain⟨i,hi,rfl⟩:=sA hx;have:=k3 (k+i) () ()
    rwa [<- iF]at this
   have fin:∀out st2,Sm st1 st2->Res o f (seg g (sa+k)<|na-k) (seg g (sa+na) t) out->wpS (model prog w) A E s (do
     modify λs=>setArr s (out.toList.zipIdx.foldl (λa (p,j)=>a.setIfInBounds (sa+k+j) p)<|arrOf s)
     let s <- get
     pure (failedOf s).isNone) Q st2:=by
    rintro out st2 hm ⟨hs,rfl,hlen,hso,hmem⟩;rw[pT,pT]at hlen;refine aZ<|fW<|aZ<|gY ?_;have hf:(failedOf st2)=none:=by rw[hm.f];exact h'.failed
    have hmx:∀j x,hs[j]?=some x->(∃i,i<na-k/\x=g (sa+k+i))\/∃i,i<t/\x=g (sa+na+i):=λj x e=>by
     rcases hmem x (aW e)with z|z
     ·exact .inl (sA z)
     ·exact .inr<|sA z
    have ez:(fa f hs).toList=hs.map f:=by unfold fa;rfl
    have hsz:sa+k+0+(hs.map f).length<=(arrOf st2).size:=by rw[aG,hlen,hm.a,h'.size];lia
    refine bA ?_
    skip
    rw[hf];refine q (λi=>if sa+k<=i/\i<sa+k+(na-k+t)then hs.getD (i-(sa+k)) 0 else g i) _ ⟨?_,λi hi=>?_,λi hi=>?_,by rw[show kindOf (setArr st2 _)=kindOf st2 from rfl,hm.k];exact h'.kind,hf,by rw[show pendingOf (setArr st2 _)=pendingOf st2 from rfl,hm.p];exact h'.pend⟩ ?_
    ·have:=Dj (sa+k) (fa f hs).toList 0<|arrOf st2;rw[hm.a,h'.size]at this;rw[<- this,<- hm.a]
    ·skip
     rw[ez,FU _ _ _ _ _ hsz,aG,hlen,hm.a];by_cases d:sa+k<=i/\i<sa+k+(na-k+t)
     ·rw[aL (),aL d,aV,add_zero,getD_at (l:=hs) ()];rfl
     ·rw[aJ (),aJ d];exact h'.get i hi
    ·by_cases d:sa+k<=i/\i<sa+k+(na-k+t)
     ·rw[aL d]
      rcases hmx _ _ (getD_at (l:=hs) (i:=i-(sa+k)) ())with⟨j,hj,e⟩|⟨j,hj,e⟩
      ·rw[e];exact h.lt _ ()
      ·rw[e];exact h.lt _ ()
     ·rw[aJ d];exact h.lt i hi
    ·have gin:∀i,sa+k<=i->i<sa+na+t->(if sa+k<=i/\i<sa+k+(na-k+t)then hs.getD (i-(sa+k)) 0 else g i)=hs.getD (i-(sa+k)) 0:=λi a b=>aL ();have gout:∀i,i<sa+k\/sa+na+t<=i->(if sa+k<=i/\i<sa+k+(na-k+t)then hs.getD (i-(sa+k)) 0 else g i)=g i:=λi a=>aJ ();refine⟨λi hi=>gout i (),λi a b=>?_,λi j a b c=>?_⟩
     ·by_cases d:sa+k<=i/\i<sa+na+t
      ·skip
       rw[gin i d.1 d.2]
       rcases hmx _ _ (getD_at (l:=hs) (i:=i-(sa+k)) ())with⟨j,hj,e⟩|⟨j,hj,e⟩
       ·rw[e];have:=c1 (sa+k+j) () ();lia
       ·rw[e];have:=c2 (sa+na+j) () ();lia
      ·skip
       rw[gout i ()];by_cases d2:i<sa+na
       ·have:=c1 i a d2;lia
       ·have:=c2 i () b;lia
     ·skip
      by_cases d1:i<sa+k
      ·rw[gout i<|.inl d1];have r:=k2 (i-sa) ();rw[show sa+(i-sa)=i by lia]at r;by_cases d2:j<sa+k
       ·rw[gout j<|.inl d2];exact s1 i j a b ()
       ·by_cases d3:j<sa+na+t
        ·rw[gin j () d3]
         rcases hmx _ _ (getD_at (l:=hs) (i:=j-(sa+k)) ())with⟨v,hv,e⟩|⟨v,hv,e⟩
         ·rw[e];exact s1 _ _ a () ()
         ·rw[e];by_cases d4:v=0
          ·subst d4;exact r
          ·exact r.trans<|s2 _ _ () () ()
        ·rw[gout j ()];exact r.trans<|s2 _ _ () () c
      ·by_cases d2:i<sa+na+t
       ·rw[gin i () d2];by_cases d3:j<sa+na+t
        ·rw[gin j () d3];exact vD hso (getD_at ()) (getD_at ()) ()
        ·rw[gout j ()]
         rcases hmx _ _ (getD_at (l:=hs) (i:=i-(sa+k)) ())with⟨v,hv,e⟩|⟨v,hv,e⟩
         ·rw[e];have r:=t3 (j-(sa+na)) () ();rw[show sa+na+(j-(sa+na))=j by lia]at r;by_cases d4:sa+k+v=sa+na-1
          ·rw[d4];exact r
          ·exact(s1 _ (sa+na-1) () () ()).trans r
         ·rw[e];exact s2 _ _ () () c
       ·rw[gout i (),gout j ()];exact s2 i j () b c
   by_cases cl:na-k<=t
   ·rw[aL cl];exact aZ (ZJ C h'.kind ab tp (by rw[pT];lia) (uq ()) (bt _<|uq ()) fin)
   ·rw[aJ cl];exact aZ<|ZS C h'.kind ab tp bt (by rw[pT];lia) (by rw[pT];lia) fin
end
meta abbrev pr (x:Nat×Nat×Nat):Nat×Nat:=(x.1,x.2.1)
abbrev uM (o:Ord)(g:Nat->Nat):List (Nat×Nat)->Nat->Nat->Prop
 | [],a,b=>a=b
 | x::l,a,b=>x.1=a/\1<=x.2/\Cl g a (a+x.2)/\So o g a (a+x.2)/\uM o g l (a+x.2) b
abbrev PA (o:Ord)(g:Nat->Nat)(p:Array<|Nat×Nat×Nat)(b:Nat):Prop:=uM o g (p.toList.map pr) 0 b
section
variable {o:Ord}{g:Nat->Nat}
def uM.le:∀{l:List<|Nat×Nat}{a b:Nat},uM o g l a b->a+l.length<=b
 | [],a,b,h=>by have h:a=b:=h;rw[cg];lia
 | x::l,a,b,h=>by
  have:=h.2.2.2.2.le;have:=h.2.1;rw[bz];lia
def uM.congr{g':Nat->Nat}:∀{l:List<|Nat×Nat}{a b:Nat},uM o g l a b->(∀i,a<=i->i<b->g' i=g i)->uM o g' l a b
 | [],a,b,h,_=>h
 | x::l,a,b,h,e=>by
  have hb:=h.2.2.2.2.le;refine⟨h.1,h.2.1,λi h1 h2=>?_,λi j h1 h2 h3=>?_,h.2.2.2.2.congr λi h1 h2=>e i () h2⟩
  ·rw[e i h1 ()];exact h.2.2.1 i h1 h2
  ·rw[e i h1 (),e j () ()];exact h.2.2.2.1 i j h1 h2 h3
theorem uM.app:∀{l m:List<|Nat×Nat}{a b:Nat},uM o g (l++m) a b ↔ ∃c,uM o g l a c/\uM o g m c b
 | [],m,a,b=>⟨λh=>⟨a,rfl,h⟩,λ⟨c,h1,h2⟩=>by have h1:a=c:=h1;subst h1;exact h2⟩
 | x::l,m,a,b=>by
  constructor
  ·rintro⟨h1,h2,h3,h4,h5⟩;obtain⟨c,h6,h7⟩:=uM.app.mp h5;exact⟨c,⟨h1,h2,h3,h4,h6⟩,h7⟩
  ·rintro⟨c,⟨h1,h2,h3,h4,h5⟩,h6⟩;exact⟨h1,h2,h3,h4,uM.app.mpr ⟨c,h5,h6⟩⟩
def Za{p:Array<|Nat×Nat×Nat}(h:i+1<p.size):∃l1 x y l2,p=(l1++x::y::l2).toArray/\l1.length=i:=by
 have h':i+1<p.toList.length:=h;refine⟨p.toList.take i,p.toList[i],p.toList[i+1],p.toList.drop<|i+2,?_,by rw[bI];lia⟩;apply Array.toList_inj.mp
 skip
 conv=>lhs;rw[<- eX i p.toList,di<|show i<p.toList.length by lia,di h']
end
section
variable {prog:aj}{w:ah}{A:az}{E:af->aA->Prop}{s:aA}{o:Ord}{N:Nat}{f:Nat->Keyed}{kd:SortKind}{g:Nat->Nat}{p:Array (Nat×Nat×Nat)}{st:SortSt}
def HJ(C:CT prog w A s o N f kd)(h:Sg N f kd g p st){lo:Nat}(hp:PA o g p lo)(hlo:lo<=N)(hi:i+1<p.size)
  {Q:Bool->SortSt->Prop} (q:∀g' p' st',Sg N f kd g' p' st'->PA o g' p' lo->p'.size+1=p.size->(∀k,lo<=k->g' k=g k)->Q true st'):wpS (model prog w) A E s (mergeAt' i) Q st:=by
 obtain⟨l1,⟨sa,na,pw⟩,⟨sb,nb,pv⟩,l2,rfl,rfl⟩:=Za hi;unfold PA at hp;rw[show(l1++(sa,na,pw)::(sb,nb,pv)::l2).toArray.toList=l1++(sa,na,pw)::(sb,nb,pv)::l2 from rfl,bN]at hp;obtain⟨c,h1,h2⟩:=uM.app.mp hp;obtain⟨e1,n1,cl1,so1,e2,n2,cl2,so2,rest⟩:=h2;have e1:sa=c:=e1;subst e1;have e2:sb=sa+na:=e2;subst e2;have l2b:=rest.le;have n1:1<=na:=n1;have n2:1<=nb:=n2;have l2b:sa+na+nb<=lo:=by
  have:sa+na+nb+(List.map pr l2).length<=lo:=l2b
  lia
 refine aaO C h n1 n2 () cl1 so1 cl2 so2 λg' st' h' R=>q g' _ st' h' ?_ (by simp;lia) λk hk=>R.out k ();unfold PA;rw[show(l1++(sa,na+nb,pw)::l2).toArray.toList=l1++(sa,na+nb,pw)::l2 from rfl,bN];refine uM.app.mpr ⟨sa,h1.congr λi a b=>R.out i (),rfl,by show 1<=na+nb;lia,?_,?_,?_⟩
 ·show Cl g' sa (sa+(na+nb));rw[<- iF];exact R.cl
 ·show So o g' sa (sa+(na+nb));rw[<- iF];exact R.so
 ·skip
  rw[<- iF];exact rest.congr λi a b=>R.out i<|.inr a
def CQ{p:Array<|Nat×Nat×Nat}{lo:Nat}{u:Nat×Nat×Nat->Nat×Nat×Nat}(hu:∀x,pr (u x)=pr x)(h:PA o g p lo):PA o g (p.modify i u) lo:=by
 unfold PA at h ⊢;have:(p.modify i u).toList.map pr=p.toList.map pr:=by
  rw[Array.toList_modify];apply cW;intro k;rw[aV,aV,List.getElem?_modify]
  cases p.toList[k]? with
  | none=>rfl
  | some x=>
   show some (pr<|if i=k then u x else x)=some (pr x);by_cases c:i=k
   ·rw[aL c,hu x]
   ·rw[aJ c]
 rw[this];exact h
def A1{p:Array<|Nat×Nat×Nat}{lo n v:Nat}(h:PA o g p lo)(hn:1<=n)(c:Cl g lo<|lo+n)(d:So o g lo<|lo+n):PA o g (p.push (lo,n,v)) (lo+n):=by
 unfold PA at h ⊢;rw[Array.toList_push,bN];exact uM.app.mpr ⟨lo,h,rfl,hn,c,d,rfl⟩
def Sg.Zi(h:Sg N f kd g p st)(p':Array<|Nat×Nat×Nat):Sg N f kd g p' (setPending st p'):=⟨h.size,h.get,h.lt,h.kind,h.failed,rfl⟩
def Td(C:CT prog w A s o N f kd)(h:Sg N f kd (λi=>i) #[] st)(hN:1<=N)
  {Q:Unit->SortSt->Prop} (q:∀g' p' st',Sg N f kd g' p' st'->Cl g' 0 N->So o g' 0 N->Q Unit.unit st'):wpS (model prog w) A E s sortRuns' Q st:=by
 rw[sortRuns'_eq];refine aZ<|gY ?_;dsimp only;rw[h.size];refine aZ (eK (cP
  (I:=λx c st'=>∃lo g p,c=(none,lo)/\lo<=N/\(x<=lo\/lo=N)/\Sg N f kd g p st'/\PA o g p lo/\(∀i,lo<=i->g i=i))
  (Q:=λc st'=>∃g p,c=(none,N)/\Sg N f kd g p st'/\PA o g p N) ?step ?fin ⟨0,_,_,rfl,bP _,.inl<|aO _,h,rfl,λ_ _=>rfl⟩) ?post)
 case fin=>
  rintro c st' ⟨lo,g,p,rfl,h1,h2,h3,h4,h5⟩;have:lo=N:=()
  subst this;exact⟨g,p,rfl,h3,h4⟩
 case step=>
  intro x c st' _ hx hh;revert hh;revert c;refine un3 λlo g p hh=>?_;have h1:=hh.1;have h2:=hh.2.1;have h3:=hh.2.2.1;have h4:=hh.2.2.2.1;have h5:=hh.2.2.2.2;clear hh;dsimp only;by_cases hge:lo>=N
  ·rw[aL hge];have:lo=N:=()
   subst this;exact bA ⟨g,p,rfl,h3,h4⟩
  ·rw[aJ hge];refine aZ<|Qz C h3 () () (λi a b=>h5 i a) λm g1 st1 s1 m1 m2 R1=>?_;dsimp only;by_cases c2:m<minRun' N N 0
   ·rw[aL c2];ksr_p;refine aZ<|Xs C s1 () m1 () R1 (λi a b=>h5 i ()) λg2 st2 s2 R2=>?_;rw[aJ ⋯];have n2:1<=min (N-lo) (minRun' N N 0):=()
    have n3:lo+min (N-lo) (minRun' N N 0)<=N:=()
    refine aZ<|gY ?_;rw[s2.pend];have hp2:=uM.congr h4 λi a b=>R2.out i (.inl b)
    cases e:p.back? with
    | none=>
     dsimp only;refine aZ (fW<|bA ⟨_,_,_,rfl,n3,(),s2.Zi _,?_,λi hi=>by rw[R2.out i<|.inr hi,h5 i ()]⟩);rw[s2.pend];exact A1 hp2 n2 R2.cl R2.so
    | some y=>
     obtain⟨y1,y2,y3⟩:=y;dsimp only;refine aZ (eK (cP (I:=λ_ c st'=>c=(none,Unit.unit)/\∃g' p',Sg N f kd g' p' st'/\PA o g' p' lo/\(∀k,lo<=k->g' k=g2 k)) (Q:=λc st'=>c=(none,Unit.unit)/\∃g' p',Sg N f kd g' p' st'/\PA o g' p' lo/\(∀k,lo<=k->g' k=g2 k)) ?vstep (λ_ _ h=>h) ⟨rfl,_,_,s2,hp2,λ_ _=>rfl⟩) ?vpost)
     case vstep=>
      rintro x c st' _ hx ⟨rfl,g',p',h1,h2,h3⟩;refine aZ<|gY ?_;rw[h1.pend];by_cases c:p'.size>1
      ·rw[aL c]
       cases e:p'[p'.size-2]? with
       | none=>exact bA ⟨rfl,g',p',h1,h2,h3⟩
       | some y=>
        obtain⟨y1,y2,y3⟩:=y;dsimp only;split
        ·exact bA ⟨rfl,g',p',h1,h2,h3⟩
        ·refine aZ<|HJ C h1 h2 () () λg3 p3 st3 s3 q3 _ z3=>?_;exact bA ⟨rfl,g3,p3,s3,q3,λk hk=>by rw[z3 k hk,h3 k hk]⟩
      ·rw[aJ c];exact bA ⟨rfl,g',p',h1,h2,h3⟩
     case vpost=>
      rintro c st' ⟨rfl,g',p',h1,h2,h3⟩;dsimp only;refine aZ (fW<|aZ<|fW<|bA ⟨_,_,_,rfl,n3,(),(h1.Zi _).Zi _,?_,λi hi=>by rw[h3 i (),R2.out i<|.inr hi,h5 i ()]⟩)
      skip
      rw[h1.pend];exact A1 (CQ (λ_=>rfl) h2) n2 (λi a b=>by rw[h3 i a];exact R2.cl i a b) λi j a b c=>by rw[h3 i a,h3 j ()];exact R2.so i j a b c
   ·rw[aJ c2];have n3:lo+m<=N:=()
    obtain⟨g2,hg2⟩:∃g2,g2=g1:=⟨_,rfl⟩;rw[<- hg2]at R1 s1;have R2:=R1;have s2:=s1;have n2:=m1;refine aZ<|gY ?_;rw[s2.pend];have hp2:=uM.congr h4 λi a b=>R2.out i (.inl b)
    cases e:p.back? with
    | none=>
     dsimp only;refine aZ (fW<|bA ⟨_,_,_,rfl,n3,(),s2.Zi _,?_,λi hi=>by rw[R2.out i<|.inr hi,h5 i ()]⟩);rw[s2.pend];exact A1 hp2 n2 R2.cl R2.so
    | some y=>
     obtain⟨y1,y2,y3⟩:=y;dsimp only;refine aZ (eK (cP (I:=λ_ c st'=>c=(none,Unit.unit)/\∃g' p',Sg N f kd g' p' st'/\PA o g' p' lo/\(∀k,lo<=k->g' k=g2 k)) (Q:=λc st'=>c=(none,Unit.unit)/\∃g' p',Sg N f kd g' p' st'/\PA o g' p' lo/\(∀k,lo<=k->g' k=g2 k)) ?vstep (λ_ _ h=>h) ⟨rfl,_,_,s2,hp2,λ_ _=>rfl⟩) ?vpost)
     case vstep=>
      rintro x c st' _ hx ⟨rfl,g',p',h1,h2,h3⟩;refine aZ<|gY ?_;rw[h1.pend];by_cases c:p'.size>1
      ·rw[aL c]
       cases e:p'[p'.size-2]? with
       | none=>exact bA ⟨rfl,g',p',h1,h2,h3⟩
       | some y=>
        obtain⟨y1,y2,y3⟩:=y;dsimp only;split
        ·exact bA ⟨rfl,g',p',h1,h2,h3⟩
        ·refine aZ<|HJ C h1 h2 () () λg3 p3 st3 s3 q3 _ z3=>?_;exact bA ⟨rfl,g3,p3,s3,q3,λk hk=>by rw[z3 k hk,h3 k hk]⟩
      ·rw[aJ c];exact bA ⟨rfl,g',p',h1,h2,h3⟩
     case vpost=>
      rintro c st' ⟨rfl,g',p',h1,h2,h3⟩;dsimp only;refine aZ (fW<|aZ<|fW<|bA ⟨_,_,_,rfl,n3,(),(h1.Zi _).Zi _,?_,λi hi=>by rw[h3 i (),R2.out i<|.inr hi,h5 i ()]⟩)
      skip
      rw[h1.pend];exact A1 (CQ (λ_=>rfl) h2) n2 (λi a b=>by rw[h3 i a];exact R2.cl i a b) λi j a b c=>by rw[h3 i a,h3 j ()];exact R2.so i j a b c
 case post=>
  rintro c st' ⟨g,p,rfl,h1,h2⟩;dsimp only;refine aZ (eK (cP
   (I:=λx c st''=>c=(none,Unit.unit)/\∃g p,Sg N f kd g p st''/\PA o g p N/\(p.size<=1\/p.size+x<=N))
   (Q:=λc st''=>c=(none,Unit.unit)/\∃g p,Sg N f kd g p st''/\PA o g p N/\p.size<=1) ?fstep ?ffin ⟨rfl,g,p,h1,h2,.inr ?finit⟩) ?fpost)
  case finit=>
   have:=uM.le h2;rw[aG]at this;show p.toList.length+0<=N
   lia
  case ffin=>
   rintro c st'' ⟨rfl,g,p,h1,h2,h3⟩;exact⟨rfl,g,p,h1,h2,()⟩
  case fstep=>
   rintro x c st'' _ hx ⟨rfl,g,p,h1,h2,h3⟩;refine aZ<|gY ?_;rw[h1.pend];by_cases c:p.size<=1
   ·rw[aL c];exact bA ⟨rfl,g,p,h1,h2,c⟩
   ·rw[aJ c];have il:∀(d:Prop) [Decidable d],(if d then p.size-2-1 else p.size-2)+1<p.size:=λd _=>by
     by_cases hd:d
     ·rw[aL hd];lia
     ·rw[aJ hd];lia
    refine aZ<|HJ C h1 h2 (aO _) (il _) λg' p' st3 s3 q3 z3 _=>?_;exact bA ⟨rfl,g',p',s3,q3,()⟩
  case fpost=>
   rintro c st'' ⟨rfl,g,p,h1,h2,h3⟩;dsimp only;refine bA ?_;unfold PA at h2;have h3:p.toList.length<=1:=h3
   match hl:p.toList,h3 with
   | [],_=>
    rw[hl]at h2;have:0=N:=h2
    lia
   | [x],_=>
    rw[hl]at h2;obtain⟨e1,e2,e3,e4,e5⟩:=h2;have e5:0+x.2.1=N:=e5;have e3:Cl g 0 (0+x.2.1):=e3;have e4:So o g 0 (0+x.2.1):=e4;rw[e5]at e3 e4;exact q g p st'' h1 e3 e4
end
meta abbrev Mm (h:aq)(a:ak)(vs:ba):aq:=((h.update a<|Obj.mapSeq λ_=>#[]).push<|seqObj "tuple" vs.toArray 0).push<|seqObj "list" #[] 0
def SN{h:aq}{a:ak}(hb:b≠a)(hlt:b<h.objs.size):(Mm h a vs).get? b=h.get? b:=by
 rw[g_ _ _ _<|by rw[size_push',iD];exact bC<|fj hlt,
  g_ _ _ _ (by rw[iD];exact bC hlt),Heap.get?_update_ne _ _ _ _ hb]
meta abbrev vv (vs:ba)(i:Nat):Keyed:=(vs.getD i .none,vs.getD i .none)
def zip_get(vs:ba){i:Nat}(h:i<vs.length):(vs.toArray.zip vs.toArray)[i]?=some (vv vs i):=by
 have e:vs[i]?=some (vs.getD i .none):=by rw[aI,aF h];rfl
 rw[Array.getElem?_zip_eq_some];exact⟨by rw[eW];exact e,by rw[eW];exact e⟩
section
variable {prog:aj}{w:ah}{A:az}{E:af->aA->Prop}{s:aA}{o:Ord}{kd:SortKind}
def C3{a:ak}{vs:ba}{n:Nat}{P:PySem.Fin->aA->Prop}(hL:s.heap.get? a=some (seqObj "list" vs.toArray n))(hsz:vs.length<=sizeLine)
  (hkk:2<=vs.length->∀Q:SortKind->aA->Prop,Q kd { s with heap:=Mm s.heap a vs }->wpAny (model prog w) A (keyKind' vs.toArray) Q E { s with heap:=Mm s.heap a vs })
  (C:2<=vs.length->CT prog w A { s with heap:=Mm s.heap a vs } o vs.length (vv vs) kd)
  (h:∀g,Cl g 0 vs.length->So o g 0 vs.length->P (.done<|.ret .none) { s with heap:=sortedHeap s.heap a vs ((List.range vs.length).map λi=>vs.getD (g i) .none).toArray }) :
  wpAny (model prog w) A (Builtin.«list.sort» ⟨[.ref a],[]⟩) P E s:=by
 rw[list_sort_plain];have lta:a<s.heap.objs.size:=a_ hL;refine aH<|listItems_at hL rfl ?_;refine aH (listUpdate_at hL rfl ?_ (by rw[aX];exact hsz)<|bP _);obtain⟨ep,hL1⟩:∃ep,(s.heap.update a<|Obj.mapSeq λ_=>#[]).get? a=some (seqObj "list" #[] ep):=⟨_,get?_update_seq hL λ_=>#[]⟩;refine aH<|seqEpoch_at hL1 rfl ?_;refine aH<|wpAny_newTuple ?_;refine aH<|jd ?_;refine dF ?_;have hL6:(Mm s.heap a vs).get? a=some (seqObj "list" #[] ep):=by
  rw[g_ _ _ _<|by rw[size_push',iD];exact bC<|fj lta,g_ _ _ _<|by rw[iD];exact bC lta];exact hL1
 skip
 dsimp only;have hz:vs.toArray.size=vs.length:=by simp
 have getE:∀i,i<vs.length->vs[i]?=some (vs.getD i .none):=λi hi=>by rw[aI,aF hi];rfl
 have uX:∀(arr:Array Keyed) (g:Nat->Nat),arr.size=vs.length->(∀i,i<vs.length->arr[i]?=some (vv vs<|g i))->arr.map (·.2)=((List.range vs.length).map λi=>vs.getD (g i) .none).toArray:=λarr g h1 two=>by
  apply Array.ext_getElem?;intro i;have e0:((List.range vs.length).map λi=>vs.getD (g i) Value.none).toArray[i]?=((List.range vs.length).map λi=>vs.getD (g i) Value.none)[i]?:=eW ..;rw[Array.getElem?_map,e0,aV];by_cases c:i<vs.length
  ·rw[two i c,dS c];rfl
  ·rw[h_ (),b8<|by rw[cF];lia];rfl
 by_cases two:vs.toArray.size<2
 ·rw[aL two,aL two];refine aH<|aR ?_;rw[StateT.run_pure];refine aH<|aR ?_;dsimp only;refine aH<|seqEpoch_at hL6 rfl ?_;have oe:=uX (vs.toArray.zip vs.toArray) (λi=>i) (by rw[jD,hz];lia) λi hi=>zip_get vs hi;refine aH (listUpdate_at hL6 rfl ?_ (by simp) (hsz2:=by rw[size_map];show(vs.toArray.zip vs.toArray).size<=_;rw[jD,hz];lia));dsimp[bne_self_eq_false,bF,cj];refine aR ?_;have:=h (λi=>i) (λi a b=>⟨a,b⟩) λi j a b c=>();rw[<- oe]at this;exact this
 ·rw[aJ two,aJ two];have h2':2<=vs.length:=()
  refine aH<|hkk h2' _ ?_;refine aH (iz (Td (f:=vv vs) (N:=vs.length) (C h2') (st:=SortSt.mk' kd (vs.toArray.zip vs.toArray) #[] 7 none)
   (Q:=λ_ st'=>∃g p,Sg vs.length (vv vs) kd g p st'/\Cl g 0 vs.length/\So o g 0 vs.length)
   ⟨by show(vs.toArray.zip vs.toArray).size=_;rw[jD,hz];lia,λi hi=>zip_get vs hi,λi hi=>hi,rfl,rfl,rfl⟩ () λg' p' st' a1 a2 a3=>⟨g',p',a1,a2,a3⟩) ?_ λ_ _ e=>e)
  rintro⟨⟨⟩,st'⟩ s' ⟨rfl,g,p,hS,hc,hso⟩;dsimp only;refine aH<|seqEpoch_at hL6 rfl ?_;have oe:=uX (arrOf st') g hS.size hS.get;refine aH (listUpdate_at hL6 rfl ?_ (by simp) (hsz2:=by have hh:(arrOf st').size=vs.length:=hS.size;show((arrOf st').map (·.2)).size<=_;rw[size_map,hh];lia));rw[hS.failed];dsimp[bne_self_eq_false,bF,cj];have:=h g hc hso;rw[<- oe]at this;exact aR this
end
section
variable {prog:aj}{w:ah}{A:az}{E:af->aA->Prop}{s:aA}
def Mw(b:Bool)(x y:af):keyLt' (tuples' b) x y=(do
  let us <- Builtin.List.listItems x
  let vs <- Builtin.List.listItems y
  for ((u,v),k)in (us.toList.zip vs.toList).zipIdx do
   if !(<- eqBool u v)then return <- oneLt' (b && k == 0) u v
  return us.size<vs.size):=rfl
def JG(b:Bool){x y:Int}{t:Tok}{Q:Bool->aA->Prop}(h:Q (decide<|x<y) s):wpAny (model prog w) A (oneLt' b (.int x t)<|.int y u) Q E s:=by
 cases b with
 | true=>exact oneLt_int h
 | false=>
  rw[oneLt'_eq];dsimp[bF,cj];exact aH<|PySem.P.lt_int<|eg h
def IY(b:Bool){l k:ak}{xs ys:ba}{ns:ag}{Q:Bool->aA->Prop}(hl:IsTup s.heap l xs.toArray)(hk:IsTup s.heap k ys.toArray)(hi:IntsAre xs ns)(hj:IntsAre ys ms)(h:Q (HT.lexLt ns ms) s) :
  wpAny (model prog w) A (keyLt' (tuples' b) (.ref l)<|.ref k) Q E s:=by
 rw[Mw];obtain⟨o1,ho1,_,n1,hd1⟩:=hl;obtain⟨o2,ho2,_,n2,hd2⟩:=hk;refine aH<|listItems_at ho1 hd1 ?_;refine aH<|listItems_at ho2 hd2 ?_;have key:∀(xs ys:ba) (ns ms:ag) (n:Nat),IntsAre xs ns->IntsAre ys ms->∀Q':bj×Unit->aA->Prop,(∀r,(r=some (HT.lexLt ns ms)\/(r=none/\HT.lexLt ns ms=decide (xs.length<ys.length)))->Q' (r,Unit.unit) s) ->
   wpAny (model prog w) A (forIn ((xs.zip ys).zipIdx n) ((none,Unit.unit):bj×Unit) λx c=>match x with
      | ((p,q),i)=>do
       let e <- eqBool p q
       if (!e)=true then do
         let r <- oneLt' (b && i == 0) p q
         pure (ForInStep.done (some r,Unit.unit))
        else pure (ForInStep.yield (none,Unit.unit))) Q' E s:=by
  intro xs
  induction xs with
  | nil=>
   intro ys ns ms n h1 h2 Q' q
   cases h1
   rw[List.zip_nil_left,List.zipIdx_nil,List.forIn_nil];refine aR (q none<|.inr ⟨rfl,?_⟩)
   cases h2 with
   | nil=>rw[HT.sH];rfl
   | cons a t h2=>rw[HT.o9,bg<|by simp]
  | cons v vs ih=>
   intro ys ns ms n h1 h2 Q' q
   cases h1 with
   | cons a t h1=>
    cases h2 with
    | nil=>
     rw[List.zip_nil_right,List.zipIdx_nil,List.forIn_nil];exact aR<|q none<|.inr ⟨rfl,by rw[HT.rK,bH<|by simp]⟩
    | cons c u h2=>
     rw[List.zip_cons_cons,jh,List.forIn_cons];rw[HT.oF]at q;dsimp only;refine aH<|aH<|wpAny_eqBool_int ?_;by_cases e:a=c
     ·rw[aL e]at q;subst e;dsimp[bV,cV,bF,cj];refine aR (ih _ _ _ _ h1 h2 _ λr hr=>q r ?_)
      rcases hr with hr|⟨hr,hz⟩
      ·exact .inl hr
      ·exact .inr ⟨hr,by rw[hz];simp⟩
     ·rw[aJ e]at q;have e':(a == c)=false:=by simpa using e
      dsimp[e',eU,c_];exact aH<|JG _<|aR<|aR<|q _<|.inl rfl
 refine aH (key xs ys ns ms 0 hi hj _ λr hr=>?_)
 rcases hr with rfl|⟨rfl,hz⟩
 ·exact aR h
 ·dsimp only;rw[aX,aX,<- hz];exact aR h
end
theorem yr:∀a:ag,HT.lexLt a a=false
 | []=>HT.sH
 | x::a=>by rw[HT.oF,aL rfl];exact yr a
theorem BU:∀{a b c:ag},HT.lexLt a b=true->HT.lexLt b c=true->HT.lexLt a c=true
 | [],[],_,h,_=>by rw[HT.sH]at h;cases h
 | x::a,[],_,h,_=>by rw[HT.rK]at h;cases h
 | _,y::b,[],_,h=>by rw[HT.rK]at h;cases h
 | [],y::b,z::c,_,_=>HT.o9 ..
 | x::a,y::b,z::c,h1,h2=>by
  rw[HT.oF]at h1 h2 ⊢;by_cases e1:x=y
  ·rw[aL e1]at h1;by_cases e2:y=z
   ·rw[aL e2]at h2;rw[aL<|e1.trans e2];exact BU h1 h2
   ·rw[aJ e2]at h2;have:=bO h2;rw[aJ<|by omega];exact bg<|by omega
  ·rw[aJ e1]at h1;have l1:=bO h1;by_cases e2:y=z
   ·rw[aJ<|by omega];exact bg (by omega)
   ·rw[aJ e2]at h2;have:=bO h2;rw[aJ<|by omega];exact bg<|by omega
theorem yy:∀{a b:ag},HT.lexLt a b=false->HT.lexLt b a=false->a=b
 | [],[],_,_=>rfl
 | [],y::b,h,_=>by rw[HT.o9]at h;cases h
 | x::a,[],_,h=>by rw[HT.o9]at h;cases h
 | x::a,y::b,h1,h2=>by
  rw[HT.oF]at h1 h2;by_cases e:x=y
  ·rw[aL e]at h1;rw[aL e.symm]at h2;rw[e,yy h1 h2]
  ·rw[aJ e]at h1;rw[aJ λz=>e z.symm]at h2;have:=dY h1;have:=dY h2
   lia
def Ls{a c:ag}(h:HT.lexLt a c=true):HT.lexLt a b=true\/HT.lexLt b c=true:=by
 cases e:HT.lexLt a b with
 | true=>exact .inl rfl
 | false=>
  right
  cases e2:HT.lexLt b a with
  | true=>exact BU e2 h
  | false=>rw[<- yy e e2];exact h
abbrev N5 (kss:List<|ag):Ord where
 lt i j:=HT.lexLt (kss.getD i []) (kss.getD j [])
 Np i:=yr _
 tr i j k:=BU
 neg i j k:=Ls
section
variable {prog:aj}{w:ah}{A:az}{E:af->aA->Prop}{s:aA}
theorem Kg{α β:Type}{f:α->Sem β}(r:α->β):∀(l:List α),(∀a∈l,∀Q:β->aA->Prop,Q (r a) s->wpAny M A (f a) Q E s)->∀Q:List β->aA->Prop,Q (l.map r) s->wpAny M A (l.mapM f) Q E s
 | [],_,Q,q=>by rw[List.mapM_nil];exact aR q
 | a::l,h,Q,q=>by
  rw[List.mapM_cons];refine aH<|h a (aM ..) _<|aH<|Kg r l (λb hb=>h b<|aN _ hb) _<|aR q
def LA{α β:Type}{f:α->Sem β}(r:α->β)(l:List α)(h:∀a∈l,∀Q:β->aA->Prop,Q (r a) s->wpAny M A (f a) Q E s)(Q:Array β->aA->Prop)(q:Q (l.map r).toArray s):wpAny M A (l.toArray.mapM f) Q E s:=by
 rw[List.mapM_toArray,map_eq_pure_bind];exact aH<|Kg r l h _<|aR q
def PL(u:af):firstOfTuple' u=(do
  if (<- typeOf u) != .type "tuple" then return none
  return (<- Builtin.List.listItems u)[0]?):=rfl
def MX{vs:ba}(h0:vs≠[])(ht:∀v∈vs,∃(l:ak) (xs:ba) (n:Int) (t:Tok),v=.ref l/\IsTup s.heap l (.int n t::xs).toArray){Q:SortKind->aA->Prop}(q:Q (tuples' true) s) :
  wpAny (model prog w) A (keyKind' vs.toArray) Q E s:=by
 have ch:∀v,∃x:Int×Tok,v∈vs->∃(l:ak) (xs:ba),v=.ref l/\IsTup s.heap l (.int x.1 x.2::xs).toArray:=λv=>by
  by_cases c:v∈vs
  ·obtain⟨l,xs,n,t,e1,e2⟩:=ht v c;exact⟨(n,t),λ_=>⟨l,xs,e1,e2⟩⟩
  ·exact⟨(0,0),λz=>absurd z c⟩
 obtain⟨F,hF⟩:=Classical.axiomOfChoice ch;rw[keyKind'_eq];refine aH (LA (λv=>some<|Value.int (F v).1 (F v).2) vs (λv hv Q' q'=>?_) _ ?_)
 ·obtain⟨l,xs,rfl,o,ho,hc,n,hd⟩:=hF v hv;rw[PL];refine aH<|fS (T := "tuple") ⟨o,ho,hc⟩ ?_;rw[aJ ⋯];exact aH (listItems_at ho hd<|aR q')
 ·rw[aL<|by simp];refine aH<|eT ?_;have e1:(vs.map λv=>some<|Value.int (F v).1 (F v).2).toArray.filterMap id=(vs.map λv=>Value.int (F v).1 (F v).2).toArray:=by
   rw[List.filterMap_toArray,List.filterMap_map];congr 1;rw[show(id ∘ λv=>some<|Value.int (F v).1 (F v).2)=λv=>some (Value.int (F v).1 (F v).2)from rfl];exact congrFun List.filterMap_eq_map' vs
  rw[e1,oneTypeOnly'_eq];refine aH (aH<|LA (λ_=>Value.type "int") _ (λv hv Q' q'=>?_) _ ?_)
  ·obtain⟨u,_,rfl⟩:=br.mp hv;exact aR q'
  ·rw[bD];obtain⟨v0,vs',rfl⟩:∃v0 vs',vs=v0::vs':=by
    cases vs with
    | nil=>exact absurd rfl h0
    | cons a b=>exact⟨a,b,rfl⟩
   have ha:((List.map ((λ_=>Value.type "int") ∘ λv=>Value.int (F v).1 (F v).2) (v0::vs')).toArray.all λx=>x == Value.type "int")=true:=by
    dsimp[List.all_toArray,all_map,ji];intro _ _;rfl
   have hz:(List.map ((λ_=>Value.type "int") ∘ λv=>Value.int (F v).1 (F v).2) (v0::vs')).toArray[0]?=some (Value.type "int"):=by simp
   rw[hz];dsimp[ha,c_];exact aR<|aR q
end
end Sx
namespace L2
open PySem PySem.Spec PyProof.Rows
section
variable {X:Cx}
theorem C4:∀{rs:bb}{its:ba},Vals (rs.map V.ref) its->its=rs.map Value.ref
 | [],_,r=>by cases r;rfl
 | a::rs,_,r=>by
  cases r with
  | cons h t=>
   have e:_=Value.ref a:=h;rw[e,C4 t];rfl
theorem C6:∀(rs:bb),Vals (rs.map V.ref) (rs.map Value.ref)
 | []=>.nil
 | a::rs=>.cons (show RelV (.ref a) (.ref a)from rfl)<|C6 rs
def MC{s:aA}{H:Hp}{Q:VK}{h':aq}{tk:Nat}{rs:bb}{kss:List<|ag}(I1:Inv X pins σ H { s with heap:=h',toks:=tk })(hlen:rs.length=kss.length)(hz:rs.length<=sizeLine)
  (hT:∀(i:Nat) (r:ak) (ks:ag),rs[i]?=some r->kss[i]?=some ks->nO X.K H r (ks.map V.int)/\ks≠[])
  (q:∀l g,H l=none->Sx.Cl g 0 kss.length->Sx.So (Sx.N5 kss) g 0 kss.length->Q (.ref l) (upd H l<|.lst<|((List.range kss.length).map λi=>rs.getD (g i) 0).map V.ref)) :
  wpAny (model X.prog X.w) X.A.in1 (do
   let l <- newList (rs.map Value.ref)
   let _ <- holding [l] (call (Value.builtin "list.sort") [l] [])
   ret l) (λfin s'=>∃v,fin=Fin.done (Flow.ret v)/\EP X pins σ Q v s') X.xe { s with heap:=h',toks:=tk }:=by
 have hN:(rs.map Value.ref).length=kss.length:=by rw[aG,hlen]
 refine aH<|jd ?_;have hoL:(h'.push<|seqObj "list" (rs.map Value.ref).toArray 0).get? h'.objs.size=some (seqObj "list" (rs.map Value.ref).toArray 0):=bq _ rfl
 skip
 have tup:∀(i:Nat) (r:ak) (ks:ag),rs[i]?=some r->kss[i]?=some ks->∃its:ba,IntsAre its ks/\IsTup (Sx.Mm (h'.push<|seqObj "list" (rs.map Value.ref).toArray 0) h'.objs.size<|rs.map Value.ref) r its.toArray:=λi r ks e1 e2=>by
  obtain⟨its,rv,⟨o,ho,hc,n,hd⟩,_⟩:=I1.tuple (hT i r ks e1 e2).1;refine⟨its,intsAre_of rv,o,?_,hc,n,hd⟩;have lt:r<h'.objs.size:=a_ ho;rw[Sx.SN (bC lt)<|by rw[fN];exact fj lt];exact aQ _ ho
 refine aH (dF<|cH slot_list_sort ⟨_,hoL,rfl⟩ entry_list_sort (Sx.C3 (o:=Sx.N5 kss) (kd:=tuples' true) hoL (by rw[hN];lia) (λh2 Q' q'=>?_) (λh2 i j hi hj E' Q' q'=>?_) λg hc hs=>⟨_,rfl,?_⟩)<|args_list_sort _)
 ·refine Sx.MX (λz=>by rw[z]at h2;simp at h2) (λv hv=>?_) q';obtain⟨i,hi⟩:=gg hv;rw[aV]at hi;obtain⟨r,hr,rfl⟩:=aY.mp hi;have lt:=(aK.mp hr).1;have e2:kss[i]?=some kss[i]:=aF ();obtain⟨its,h1,h3⟩:=tup i r _ hr e2;have hne:=(hT i r _ hr e2).2;generalize kss[i]=ks at h1 hne
  cases h1 with
  | nil=>exact absurd rfl hne
  | cons a t h1=>exact⟨r,_,a,t,rfl,h3⟩
 ·rw[hN]at hi hj;have e1:rs[i]?=some (rs[i]'()):=aF _;have e2:rs[j]?=some (rs[j]'()):=aF _;have k1:kss[i]?=some kss[i]:=aF hi;have k2:kss[j]?=some kss[j]:=aF hj;obtain⟨x1,a1,b1⟩:=tup i _ _ e1 k1;obtain⟨x2,a2,b2⟩:=tup j _ _ e2 k2;have v1:(rs.map Value.ref).getD i .none=.ref (rs[i]'()):=by rw[aI,aV,e1];rfl
  have v2:(rs.map Value.ref).getD j .none=.ref (rs[j]'()):=by rw[aI,aV,e2];rfl
  show wpAny _ _ (keyLt' (tuples' true) ((rs.map Value.ref).getD i .none)<|(rs.map Value.ref).getD j .none) Q' E' _;rw[v1,v2];refine Sx.IY true b1 b2 a1 a2 ?_;have d1:kss.getD i []=kss[i]:=by rw[aI,k1];rfl
  have d2:kss.getD j []=kss[j]:=by rw[aI,k2];rfl
  have:(Sx.N5 kss).lt i j=HT.lexLt kss[i] kss[j]:=by show HT.lexLt _ _=_;rw[d1,d2]
  rw[<- this];exact q'
 ·rw[hN]at hc hs ⊢;obtain⟨e,he⟩:=sortedHeap_at (out:=((List.range kss.length).map λi=>(rs.map Value.ref).getD (g i) .none).toArray) hoL;have old:∀b ob,h'.get? b=some ob->(sortedHeap (h'.push<|seqObj "list" (rs.map Value.ref).toArray 0) h'.objs.size (rs.map Value.ref) ((List.range kss.length).map λi=>(rs.map Value.ref).getD (g i) .none).toArray).get? b=some ob:=λb ob eb=>by
   rw[sortedHeap_old (bC<|a_ eb)<|by rw[fN];exact fj<|a_ eb];exact aQ _ eb
  refine aR ⟨_,rfl,.ref h'.objs.size,_,I1.laid (t':=tk) (o:=.lst<|((List.range kss.length).map λi=>rs.getD (g i) 0).map V.ref) old (aO _) ?_,rfl,q _ g (I1.hok.fresh<|aO _) hc hs⟩;refine⟨by rw[aG,aG,cF];lia,((List.range kss.length).map λi=>rs.getD (g i) 0).map Value.ref,e,C6 _,?_⟩;rw[he];congr 2;rw[bD];congr 1;refine cQ λi hi=>?_;have:=(hc i (bP _)<|dD.mp hi).2;have lt:g i<rs.length:=()
  show(rs.map Value.ref).getD (g i) .none=Value.ref (rs.getD (g i) 0);rw[aI,aV,aF lt,aI,aF lt];rfl
end
end L2
namespace Sx
open PySem PyProof.Rows
open PySem.AutoSeq1 (wpAny_loadPart')
open PySem.MeetsSeq PySem.MeetsSeq2 PySem.MeetsSeq3
theorem Ao:∀{xs:ba}{ns:ag}{i:Nat},IntsAre xs ns->i<ns.length->∃t,xs[i]?=some (.int (ns.getD i 0) t)
 | _,_,i,.nil,h=>absurd h (e_ _)
 | _,_,0,.cons n t h,_=>⟨t,rfl⟩
 | _,_,i+1,.cons n t h,hi=>by
  obtain⟨t',e⟩:=Ao h (i:=i) (by simpa using hi);exact⟨t',by simpa using e⟩
end Sx
namespace Am
open PySem
inductive A where
 | unb|non|bl (b:Bool)|int (i:Int)|str (x:Str)|tup (xs:List A)|frz (xs:List A)|rng (lo hi:Int)|ref (n:Nat)|exn (c:Str)|ty (n:String)|ktu (xs:List A)
@[reducible]def ae:=List A
inductive O where
 | lst (xs:ae)|dct (kvs:List<|ag×A)|pU (kvs:List<|Int×A)|dcp (kvs:List<|L2.Nk×A)|ins (c:Str) (fs:List<|Str×A)
meta abbrev jM:=List O
inductive R (α:Type) where
 | ok (a:α) (S:jM)|ex (c:Str) (S:jM)|no
abbrev R.bind {α β:Type}(r:R α)(f:α->jM->R β):R β:=match r with
 | .ok a S=>f a S
 | .ex c S=>.ex c S
 | .no=>.no
abbrev R.post {α:Type}(r:R α)(P:α->jM->Prop)(E:Str->jM->Prop):Prop:=match r with
 | .ok a S=>P a S
 | .ex c S=>E c S
 | .no=>False
def jS{α β:Type}{r:R α}{f:α->jM->R β}{P:β->jM->Prop}{E:Str->jM->Prop}(h:(r.bind f).post P E):r.post (λa S=>(f a S).post P E) E:=by
 cases r<;>exact h
def MH{α:Type}{r:R α}{P P':α->jM->Prop}{E E':Str->jM->Prop}(h:r.post P E)(hp:∀a S,P a S->P' a S)(he:∀c S,E c S->E' c S):r.post P' E':=by
 cases r with
 | ok a S=>exact hp _ _ h
 | ex c S=>exact he _ _ h
 | no=>exact h.elim
abbrev gd {α:Type}(c:Prop)[Decidable c](r:R α):R α:=if c then r else .no
abbrev opt {α β:Type}(o:Option β)(f:β->R α):R α:=match o with
 | some b=>f b
 | none=>.no
def ki{α:Type}{c:Prop}[Decidable c]{r:R α}{P:α->jM->Prop}{E:Str->jM->Prop}(h:(gd c r).post P E):c/\r.post P E:=by
 unfold gd at h;by_cases hc:c
 ·rw[aL hc]at h;exact⟨hc,h⟩
 ·rw[aJ hc]at h;exact h.elim
def jU{α β:Type}{o:Option β}{f:β->R α}{P:α->jM->Prop}{E:Str->jM->Prop}(h:(opt o f).post P E):∃b,o=some b/\(f b).post P E:=by
 cases o with
 | none=>exact h.elim
 | some b=>exact⟨b,rfl,h⟩
def XS{α:Type}{c:Prop}[Decidable c]{r:R α}(h:c):gd c r=r:=aL h
abbrev jK (S:jM)(n:Nat):Option (ae):=match S[n]? with
 | some (.lst xs)=>some xs
 | _=>none
def j0{n:Nat}(h:jK S n=some xs):S[n]?=some (.lst xs):=by
 unfold jK at h;split at h
 ·rename_i e;cases h;exact e
 ·cases h
def yj{S:jM}{n:Nat}(h:S[n]?=some (.lst xs)):jK S n=some xs:=by
 unfold jK;rw[h]
inductive RS where
 | nx (τ:ae) (S:jM)|rt (a:A) (S:jM)|bk (τ:ae) (S:jM)|ct (τ:ae) (S:jM)|ex (c:Str) (S:jM)|no
meta abbrev Ex:=ae->jM->R A
meta abbrev sW:=ae->jM->R (ae)
meta abbrev Te:=ae->jM->R Bool
meta abbrev Sm:=ae->jM->RS
meta abbrev Tg:=A->ae->jM->R (ae)
end Am
namespace Am
open PySem L2
section
variable (K:au) (ρ:bb) (H:Hp)
abbrev ClN (K:au)(c:Str)(C:ak):Prop:=PySem.W.nsIn K mainGlobals c=some (some<|.ref C)
abbrev Fz (K:au)(H:Hp)(a:ak)(vs:List V):Prop:=
 (∃o,H a=some (.frz o<|.lst vs))\/∃(o:Obj) (its:Array af) (n:Nat),K.lookup a=some o/\o.cls=.type "list" /\ o.dict=none/\o.data=.seq its n/\its.size<=sizeLine/\Vals vs its.toList
abbrev KTp (K:au)(a:ak)(vs:List V):Prop:=∃(o:Obj) (its:Array af) (n:Nat),K.lookup a=some o/\o.cls=.type "tuple" /\ o.dict=none/\o.data=.seq its n/\its.size<=sizeLine/\Vals vs its.toList
mutual
inductive AV:A->V->Prop
 | non:AV .non .non
 | bl (b:Bool):AV (.bl b) (.bl b)
 | int (i:Int):AV (.int i) (.int i)
 | str (x:Str):AV (.str x) (.str x)
 | ty (n:String):AV (.ty n) (.ty n)
 | tup {a:ak} {xs:ae} {vs:List V} (h:H a=some (.tup vs)) (r:AVs xs vs):AV (.tup xs) (.ref a)
 | frz {a:ak} {xs:ae} {vs:List V} (h:Fz K H a vs) (r:AVs xs vs):AV (.frz xs) (.ref a)
 | rng {a:ak} {lo hi:Int} (h:H a=some (.rng lo hi)):AV (.rng lo hi) (.ref a)
 | ref {a:ak} {n:Nat} (h:ρ[n]?=some a):AV (.ref n) (.ref a)
 | exn {a C:ak} {c:Str} {oe:Obj} (n:ClN K c C) (h:H a=some (.frz oe xu)) (x:XO C oe):AV (.exn c) (.ref a)
 | ktu {a:ak} {xs:ae} {vs:List V} (h:KTp K a vs) (r:AVs xs vs):AV (.ktu xs)<|.ref a
inductive AVs:ae->List V->Prop
 | nil:AVs [] []
 | cons {x:A} {v:V} {xs:ae} {vs:List V} (h:AV x v) (t:AVs xs vs):AVs (x::xs) (v::vs)
end
abbrev DV:List (ag×A)->List (List Key×V)->Prop
 | [],[]=>True
 | p::r,q::r'=>(q.1=p.1.map Sum.inl/\AV K ρ H p.2 q.2)/\DV r r'
 | _,_=>False
abbrev DI:List (Int×A)->List (Key×V)->Prop
 | [],[]=>True
 | p::r,q::r'=>(q.1=Sum.inl p.1/\AV K ρ H p.2 q.2)/\DI r r'
 | _,_=>False
abbrev DP:List (L2.Nk×A)->List (L2.Nk×ak×af)->Prop
 | [],[]=>True
 | p::r,q::r'=>(q.1=p.1/\L2.FZ H q.2.1 q.1/\∃v,RelV v q.2.2/\AV K ρ H p.2 v)/\DP r r'
 | _,_=>False
abbrev OR (a:ak):O->Prop
 | .lst xs=>∃vs,H a=some (.lst vs)/\AVs K ρ H xs vs
 | .dct kvs=>∃ks,H a=some (.dT ks)/\DV K ρ H kvs ks
 | .pU kvs=>∃ks,H a=some (.dK ks)/\DI K ρ H kvs ks
 | .dcp kvs=>∃xs,H a=some (.ext<|L2.abJ a xs)/\DP K ρ H kvs xs
 | .ins _ _=>∃o u,H a=some (.frz o u)
structure Rel (S:jM):Prop where
 len:ρ.length=S.length
 nd:ρ.Nodup
 «at»:∀(n:Nat) (a:ak) (o:O),ρ[n]?=some a->S[n]?=some o->OR K ρ H a o
end
abbrev Imm:HO->Prop
 | .tup _=>True
 | .rng _ _=>True
 | .frz _ _=>True
 | _=>False
structure Ext0 (ρ ρ':bb)(H H':Hp):Prop where
 pre:ρ <+: ρ'
 im:∀a u,Imm u->H a=some u->H' a=some u
structure Ext (ρ ρ':bb)(H H':Hp):Prop extends Ext0 ρ ρ' H H' where
 fr:∀a u,H a=some u->a∉ρ->H' a=some u
 nw:∀a,a∈ρ'->a∈ρ\/H a=none
def Ext.refl{H:Hp}:Ext ρ ρ H H:=⟨⟨fQ _,λ_ _ _ h=>h⟩,λ_ _ h _=>h,λ_ h=>.inl h⟩
def Ext.trans{H H1 H2:Hp}(a:Ext ρ ρ1 H H1)(b:Ext ρ1 ρ2 H1 H2):Ext ρ ρ2 H H2:=⟨⟨a.pre.trans b.pre,λx u i h=>b.im x u i<|a.im x u i h⟩,λx u h n=>b.fr x u (a.fr x u h n) λz=>(a.nw x z).elim n λz=>by(rw[z]at h;cases h),λx h=>by
 by_cases hx:x∈ρ
 ·exact .inl hx
 ·right
  cases q:H x with
  | none=>rfl
  | some u=>
   rcases b.nw x h with z|z
   ·exact((a.nw x z).elim hx λz=>by(rw[z]at q;cases q)).elim
   ·rw[a.fr x u q hx]at z;cases z⟩
def Ext0.get{H H':Hp}(e:Ext0 ρ ρ' H H'){n:Nat}{a:ak}(h:ρ[n]?=some a):ρ'[n]?=some a:=by
 obtain⟨t,rfl⟩:=e.pre;rw[bG (aK.mp h).1];exact h
section
variable {K:au}{ρ ρ':bb}{H H':Hp}
def Ext0.sqT(e:Ext0 ρ ρ' H H'){a:ak}(h:nO K H a vs):nO K H' a vs:=by
 rcases h with(h|⟨o,h⟩)|h
 ·exact .inl (.inl<|e.im _ _ trivial h)
 ·exact .inl (.inr ⟨o,e.im _ _ trivial h⟩)
 ·exact .inr h
def Ext0.fz(e:Ext0 ρ ρ' H H'){a:ak}(h:Fz K H a vs):Fz K H' a vs:=by
 rcases h with⟨o,h⟩|h
 ·exact .inl ⟨o,e.im _ _ trivial h⟩
 ·exact .inr h
def Fz.Sq{a:ak}(h:Fz K H a vs):nJ K H a vs:=by
 rcases h with⟨o,h⟩|h
 ·exact .inl (.inr ⟨o,h⟩)
 ·exact .inr h
mutual
theorem AV.m9(e:Ext0 ρ ρ' H H'):∀{x:A}{v:V},AV K ρ H x v->AV K ρ' H' x v
 | _,_,.non=>.non
 | _,_,.bl b=>.bl b
 | _,_,.int i=>.int i
 | _,_,.str x=>.str x
 | _,_,.ty x=>.ty x
 | _,_,.tup h r=>.tup (e.im _ _ trivial h) (AVs.m9 e r)
 | _,_,.frz h r=>.frz (e.fz h) (AVs.m9 e r)
 | _,_,.rng h=>.rng (e.im _ _ trivial h)
 | _,_,.ref h=>.ref (e.get h)
 | _,_,.exn n h x=>.exn n (e.im _ _ trivial h) x
 | _,_,.ktu h r=>.ktu h<|AVs.m9 e r
theorem AVs.m9(e:Ext0 ρ ρ' H H'):∀{xs:ae}{vs:List V},AVs K ρ H xs vs->AVs K ρ' H' xs vs
 | _,_,.nil=>.nil
 | _,_,.cons h t=>.cons (AV.m9 e h)<|AVs.m9 e t
end
theorem DV.m9(e:Ext0 ρ ρ' H H'):∀{xs:List<|ag×A}{vs:List<|List Key×V},DV K ρ H xs vs->DV K ρ' H' xs vs
 | [],[],_=>trivial
 | _::_,_::_,⟨⟨a,b⟩,r⟩=>⟨⟨a,AV.m9 e b⟩,DV.m9 e r⟩
def DV.ext{x:List<|ag×A}{v:List<|List Key×V}(h:DV K ρ H x v)(e:Ext ρ ρ' H H'):DV K ρ' H' x v:=DV.m9 e.toExt0 h
theorem DI.m9(e:Ext0 ρ ρ' H H'):∀{xs:List<|Int×A}{vs:List<|Key×V},DI K ρ H xs vs->DI K ρ' H' xs vs
 | [],[],_=>trivial
 | _::_,_::_,⟨⟨a,b⟩,r⟩=>⟨⟨a,AV.m9 e b⟩,DI.m9 e r⟩
def DI.ext{x:List<|Int×A}{v:List<|Key×V}(h:DI K ρ H x v)(e:Ext ρ ρ' H H'):DI K ρ' H' x v:=DI.m9 e.toExt0 h
def FZ.m9{k:L2.Nk}(e:Ext0 ρ ρ' H H'):L2.FZ H b k->L2.FZ H' b k:=λ⟨r1,r2,h1,h2,h3⟩=>⟨r1,r2,e.im _ _ trivial h1,e.im _ _ trivial h2,e.im _ _ trivial h3⟩
theorem DP.m9(e:Ext0 ρ ρ' H H'):∀{xs:List<|L2.Nk×A}{vs:List<|L2.Nk×ak×af},DP K ρ H xs vs->DP K ρ' H' xs vs
 | [],[],_=>trivial
 | _::_,_::_,⟨⟨a,k,v,c,b⟩,r⟩=>⟨⟨a,FZ.m9 e k,v,c,AV.m9 e b⟩,DP.m9 e r⟩
def DP.ext{x:List<|L2.Nk×A}{v:List<|L2.Nk×ak×af}(h:DP K ρ H x v)(e:Ext ρ ρ' H H'):DP K ρ' H' x v:=DP.m9 e.toExt0 h
def AV.ext{x:A}{v:V}(h:AV K ρ H x v)(e:Ext ρ ρ' H H'):AV K ρ' H' x v:=AV.m9 e.toExt0 h
def AVs.ext{x:ae}{v:List V}(h:AVs K ρ H x v)(e:Ext ρ ρ' H H'):AVs K ρ' H' x v:=AVs.m9 e.toExt0 h
theorem AVs.length:∀{xs:ae}{vs:List V},AVs K ρ H xs vs->xs.length=vs.length
 | _,_,.nil=>rfl
 | _,_,.cons _ t=>dO (·+1)<|AVs.length t
theorem AVs.append:∀{xs ys:ae}{vs ws:List V},AVs K ρ H xs vs->AVs K ρ H ys ws->AVs K ρ H (xs++ys) (vs++ws)
 | _,_,_,_,.nil,s=>s
 | _,_,_,_,.cons h t,s=>.cons h<|AVs.append t s
theorem AVs.take:∀{xs:ae}{vs:List V}(n:Nat),AVs K ρ H xs vs->AVs K ρ H (xs.take n) (vs.take n)
 | _,_,0,_=>.nil
 | _,_,_+1,.nil=>.nil
 | _,_,n+1,.cons h t=>.cons h<|AVs.take n t
theorem AVs.drop:∀{xs:ae}{vs:List V}(n:Nat),AVs K ρ H xs vs->AVs K ρ H (xs.drop n) (vs.drop n)
 | _,_,0,r=>r
 | _,_,_+1,.nil=>.nil
 | _,_,n+1,.cons _ t=>AVs.drop n t
theorem AVs.get:∀{xs:ae}{vs:List V}{i:Nat}{x:A},AVs K ρ H xs vs->xs[i]?=some x->∃v,vs[i]?=some v/\AV K ρ H x v
 | _,_,_,_,.nil,e=>by simp at e
 | _,_,0,_,.cons h _,e=>by simp at e;subst e;exact⟨_,rfl,h⟩
 | _,_,i+1,x,.cons _ t,e=>by
  obtain⟨u,h1,h2⟩:=AVs.get (i:=i) (x:=x) t (by simpa using e);exact⟨u,by simpa using h1,h2⟩
theorem AVs.set{x:A}{v:V}(h:AV K ρ H x v):∀{xs:ae}{vs:List V}(i:Nat),AVs K ρ H xs vs->AVs K ρ H (xs.set i x) (vs.set i v)
 | _,_,_,.nil=>.nil
 | _,_,0,.cons _ t=>.cons h t
 | _,_,i+1,.cons q t=>.cons q<|AVs.set h i t
def AVs.one{x:A}{v:V}(h:AV K ρ H x v):AVs K ρ H [x] [v]:=.cons h .nil
theorem AVs.eraseIdx:∀{xs:ae}{vs:List V}(i:Nat),AVs K ρ H xs vs->AVs K ρ H (xs.eraseIdx i) (vs.eraseIdx i)
 | _,_,_,.nil=>.nil
 | _,_,0,.cons _ t=>t
 | _,_,i+1,.cons q t=>.cons q<|AVs.eraseIdx i t
theorem q_:∀(ns:ag),AVs K ρ H (ns.map .int) (ns.map .int)
 | []=>.nil
 | n::ns=>.cons (.int n)<|q_ ns
def Rel.lay{S:jM}{p:ak}(R:Rel K ρ H S)(hp:H p=none)(r:AVs K ρ H xs vs):Ext ρ (ρ++[p]) H (upd H p<|.lst vs)/\Rel K (ρ++[p]) (upd H p<|.lst vs) (S++[.lst xs])/\(ρ++[p])[S.length]?=some p:=by
 have ex:Ext ρ (ρ++[p]) H (upd H p<|.lst vs):=⟨⟨fX _ _,λa u _ h=>by rw[jV<|j5 h hp];exact h⟩,λa u h _=>by rw[jV<|j5 h hp];exact h,λa h=>by
  rcases bE.mp h with z|z
  ·exact .inl z
  ·have e:a=p:=by simpa using z
   rw[e];exact .inr hp⟩
 have np:∀(n:Nat) (a:ak),ρ[n]?=some a->a≠p:=by
  intro n a e z;subst z;have hn:n<S.length:=by rw[<- R.len];exact(aK.mp e).1
  have:=R.at n a S[n] e (aF hn)
  cases ho:S[n]with
  | lst xs=>rw[ho]at this;obtain⟨vs,h,_⟩:=this;rw[hp]at h;cases h
  | dct _|pU _|dcp _=>rw[ho]at this;obtain⟨vs,h,_⟩:=this;rw[hp]at h;cases h
  | ins _ _=>rw[ho]at this;obtain⟨_,_,h⟩:=this;rw[hp]at h;cases h
 have last:(ρ++[p])[S.length]?=some p:=by rw[<- R.len];simp
 refine⟨ex,⟨by simp[R.len],?_,?_⟩,last⟩
 ·rw[dz];refine⟨R.nd,by simp,λa ha b hb e=>?_⟩;have:b=p:=by simpa using hb
  obtain⟨n,hn,e'⟩:=gp.mp ha;exact np n a (by rw[aF hn,e'])<|e.trans this
 ·intro n a o h1 h2;by_cases hn:n<S.length
  ·rw[bG<|by rw[R.len];exact hn]at h1;rw[bG hn]at h2;have:=R.at n a o h1 h2
   cases o with
   | lst ys=>obtain⟨ws,e,q⟩:=this;exact⟨ws,by rw[jV<|np n a h1];exact e,q.ext ex⟩
   | dct _|pU _|dcp _=>obtain⟨ws,e,q⟩:=this;exact⟨ws,by rw[jV<|np n a h1];exact e,q.ext ex⟩
   | ins _ _=>obtain⟨oo,uu,e⟩:=this;exact⟨oo,uu,by rw[jV<|np n a h1];exact e⟩
  ·have e:n=S.length:=by
    have:=(aK.mp h2).1;simp at this
    lia
   subst e;rw[last]at h1
   cases h1
   simp at h2;subst h2;exact⟨vs,kZ,r.ext ex⟩
def Rel.im{p:ak}(R:Rel K ρ H S)(hp:H p=none):Ext ρ ρ H (upd H p u)/\Rel K ρ (upd H p u) S:=by
 have ex:Ext ρ ρ H (upd H p u):=⟨⟨fQ _,λa u _ h=>by rw[jV<|j5 h hp];exact h⟩,λa u h _=>by rw[jV<|j5 h hp];exact h,λ_ h=>.inl h⟩;refine⟨ex,R.len,R.nd,λn a o h1 h2=>?_⟩;have:=R.at n a o h1 h2
 cases o with
 | lst ys=>obtain⟨ws,e,q⟩:=this;exact⟨ws,by rw[jV<|j5 e hp];exact e,q.ext ex⟩
 | dct _|pU _|dcp _=>obtain⟨ws,e,q⟩:=this;exact⟨ws,by rw[jV<|j5 e hp];exact e,q.ext ex⟩
 | ins _ _=>obtain⟨oo,uu,e⟩:=this;exact⟨oo,uu,by rw[jV<|j5 e hp];exact e⟩
def Rel.put{S:jM}{n:Nat}{a:ak}(R:Rel K ρ H S)(ha:ρ[n]?=some a)(hS:S[n]?=some (.lst xs))(r:AVs K ρ H ys ws):Ext ρ ρ H (upd H a<|.lst ws)/\Rel K ρ (upd H a<|.lst ws) (S.set n<|.lst ys):=by
 obtain⟨vs,e,_⟩:=R.at n a _ ha hS;have ex:Ext ρ ρ H (upd H a<|.lst ws):=⟨⟨fQ _,λb u i h=>by
  have:b≠a:=by
   intro z;subst z;rw[e]at h;cases h;exact i
  rw[jV this];exact h⟩,λb u h n=>by
  rw[jV λz=>n<|by rw[z];exact aW ha];exact h,λ_ h=>.inl h⟩
 refine⟨ex,by rw[bZ];exact R.len,R.nd,λm b o h1 h2=>?_⟩;by_cases hm:m=n
 ·subst hm;rw[ha]at h1;cases h1;rw[bW (aK.mp hS).1]at h2
  cases h2
  exact⟨ws,kZ,r.ext ex⟩
 ·rw[cB<|cO hm]at h2;have nb:b≠a:=λz=>by
   subst z;obtain⟨l1,e1⟩:=aK.mp ha;obtain⟨l2,e2⟩:=aK.mp h1;exact hm<|(dJ R.nd).mp<|e2.trans e1.symm
  have:=R.at m b o h1 h2
  cases o with
  | lst ys=>obtain⟨ws',e',q⟩:=this;exact⟨ws',by rw[jV nb];exact e',q.ext ex⟩
  | dct _|pU _|dcp _=>obtain⟨ws',e',q⟩:=this;exact⟨ws',by rw[jV nb];exact e',q.ext ex⟩
  | ins _ _=>obtain⟨oo,uu,e'⟩:=this;exact⟨oo,uu,by rw[jV nb];exact e'⟩
def Rel.lst{n:Nat}{a:ak}(R:Rel K ρ H S)(ha:ρ[n]?=some a)(hS:S[n]?=some (.lst xs)):∃vs,H a=some (.lst vs)/\AVs K ρ H xs vs:=R.at n a _ ha hS
structure SR (K:au)(ρ:bb)(H:Hp)(τ:ae)(σ:St):Prop where
 len:τ.length=σ.length
 «at»:∀(i:Nat) (a:A),τ[i]?=some a->a=.unb\/∃v,σ[i]?=some (some v)/\AV K ρ H a v
def SR.m9(s:SR K ρ H τ σ)(e:Ext0 ρ ρ' H H'):SR K ρ' H' τ σ:=⟨s.len,λi a h=>by
 rcases s.at i a h with z|⟨v,h1,h2⟩
 ·exact .inl z
 ·exact .inr ⟨v,h1,AV.m9 e h2⟩⟩
def SR.ext(s:SR K ρ H τ σ)(e:Ext ρ ρ' H H'):SR K ρ' H' τ σ:=s.m9 e.toExt0
def Rel.out{D:ak}(R:Rel K ρ H S)(hD:H D=some (.lst vs))(hn:D∉ρ):Ext0 ρ ρ H (upd H D<|.lst ws)/\Rel K ρ (upd H D<|.lst ws) S:=by
 have ex:Ext0 ρ ρ H (upd H D<|.lst ws):=⟨fQ _,λb u i h=>by
  have:b≠D:=by
   intro z;subst z;rw[hD]at h;cases h;exact i
  rw[jV this];exact h⟩
 refine⟨ex,R.len,R.nd,λn a o h1 h2=>?_⟩;have na:a≠D:=λz=>hn (by rw[<- z];exact aW h1);have:=R.at n a o h1 h2
 cases o with
 | lst ys=>obtain⟨ws',e,q⟩:=this;exact⟨ws',by rw[jV na];exact e,AVs.m9 ex q⟩
 | dct _|pU _|dcp _=>obtain⟨ws',e,q⟩:=this;exact⟨ws',by rw[jV na];exact e,q.m9 ex⟩
 | ins _ _=>obtain⟨oo,uu,e⟩:=this;exact⟨oo,uu,by rw[jV na];exact e⟩
def Rel.take{S:jM}{D:ak}(R:Rel K ρ H S)(hD:H D=some (.lst vs))(hn:D∉ρ)(r:AVs K ρ H xs vs):Rel K (ρ++[D]) H (S++[.lst xs])/\(ρ++[D])[S.length]?=some D:=by
 have ex:Ext0 ρ (ρ++[D]) H H:=⟨fX _ _,λ_ _ _ h=>h⟩;have last:(ρ++[D])[S.length]?=some D:=by rw[<- R.len];simp
 refine⟨⟨by simp[R.len],?_,λn a o h1 h2=>?_⟩,last⟩
 ·rw[dz];refine⟨R.nd,by simp,λa ha b hb e=>?_⟩;have:b=D:=by simpa using hb
  exact hn<|by rw[<- this,<- e];exact ha
 ·by_cases hs:n<S.length
  ·rw[bG<|by rw[R.len];exact hs]at h1;rw[bG hs]at h2;have:=R.at n a o h1 h2
   cases o with
   | lst ys=>obtain⟨ws,e,q⟩:=this;exact⟨ws,e,AVs.m9 ex q⟩
   | dct _|pU _|dcp _=>obtain⟨ws,e,q⟩:=this;exact⟨ws,e,q.m9 ex⟩
   | ins _ _=>obtain⟨oo,uu,e⟩:=this;exact⟨oo,uu,e⟩
  ·have e:n=S.length:=by
    have:=(aK.mp h2).1;simp at this
    lia
   subst e;rw[last]at h1
   cases h1
   simp at h2;subst h2;exact⟨vs,hD,AVs.m9 ex r⟩
def SR.set{τ:ae}{σ:St}{a:A}{v:V}(s:SR K ρ H τ σ)(h:AV K ρ H a v):SR K ρ H (τ.set i a) (σ.set i<|some v):=by
 refine⟨by simp[s.len],λj b e=>?_⟩;by_cases hj:j=i
 ·subst hj;have hl:j<τ.length:=by
   have:=(aK.mp e).1;simpa using this
  rw[bW hl]at e
  cases e
  exact .inr ⟨v,bW<|by rw[<- s.len];exact hl,h⟩
 ·rw[cB<|cO hj]at e;rw[cB<|cO hj];exact s.at j b e
end
end Am
namespace Am
open PySem PySem.Spec PyProof.Rows L2
abbrev XE (X:Cx)(ρ:bb)(H:Hp):Str->jM->Prop:=λc S'=>∀(C:ak) (ρ':bb) (H':Hp),ClN X.K c C->Ext ρ ρ' H H'->Rel X.K ρ' H' S'->EX X (.ref C) none H'
def XE.ext{X:Cx}{H H':Hp}{c:Str}(h:XE X ρ H c S)(e:Ext ρ ρ' H H'):XE X ρ' H' c S:=λC ρ2 H2 n e2=>h C ρ2 H2 n<|e.trans e2
abbrev CA (X:Cx)(ρ:bb)(H:Hp)(Q:VK):A->jM->Prop:=λa S'=>∀ρ' H' v,Ext ρ ρ' H H'->Rel X.K ρ' H' S'->AV X.K ρ' H' a v->Q v H'
abbrev okB (X:Cx)(ρ:bb)(H:Hp)(Q:Bool->Hp->Prop):Bool->jM->Prop:=λb S'=>∀ρ' H',Ext ρ ρ' H H'->Rel X.K ρ' H' S'->Q b H'
abbrev okL (X:Cx)(ρ:bb)(H:Hp)(Q:List V->Hp->Prop):ae->jM->Prop:=λas S'=>∀ρ' H' vs,Ext ρ ρ' H H'->Rel X.K ρ' H' S'->AVs X.K ρ' H' as vs->Q vs H'
def CA.ext{X:Cx}{H H':Hp}{Q:VK}{a:A}(h:CA X ρ H Q a S)(e:Ext ρ ρ' H H'):CA X ρ' H' Q a S:=λρ2 H2 v e2=>h ρ2 H2 v<|e.trans e2
def okB.ext{X:Cx}{H H':Hp}{Q:Bool->Hp->Prop}{a:Bool}(h:okB X ρ H Q a S)(e:Ext ρ ρ' H H'):okB X ρ' H' Q a S:=λρ2 H2 e2=>h ρ2 H2<|e.trans e2
def jO{α:Type}{X:Cx}{H H':Hp}{r:R α}{P P':α->jM->Prop}(h:r.post P<|XE X ρ H)(e:Ext ρ ρ' H H')(hp:∀a S,P a S->P' a S):r.post P' (XE X ρ' H'):=MH h hp λ_ _ z=>z.ext e
abbrev tE (X:Cx)(c:Ex):TE:=λσ H Q=>∃ρ S τ,Rel X.K ρ H S/\SR X.K ρ H τ σ/\(c τ S).post (CA X ρ H Q) (XE X ρ H)
abbrev tT (X:Cx)(c:Te):TT:=λσ H Q=>∃ρ S τ,Rel X.K ρ H S/\SR X.K ρ H τ σ/\(c τ S).post (okB X ρ H Q) (XE X ρ H)
abbrev tL (X:Cx)(c:sW):TA:=λσ H Q=>∃ρ S τ,Rel X.K ρ H S/\SR X.K ρ H τ σ/\(c τ S).post (okL X ρ H Q) (XE X ρ H)
abbrev AE (X:Cx)(e:aC)(c:Ex):Prop:=PE X e<|tE X c
abbrev AT (X:Cx)(e:aC)(c:Te):Prop:=PT X e<|tT X c
abbrev AW (X:Cx)(e:aC)(c:Te):Prop:=PW X e<|tT X c
abbrev AL (X:Cx)(es:List aC)(c:sW):Prop:=PA X es<|tL X c
def PE.imp{X:Cx}{e:aC}{t t':TE}(h:PE X e t)(i:∀σ H Q,t' σ H Q->t σ H Q):PE X e t':=λpins s σ H Q I q=>h pins s σ H Q I<|i σ H Q q
def PT.imp{X:Cx}{e:aC}{t t':TT}(h:PT X e t)(i:∀σ H Q,t' σ H Q->t σ H Q):PT X e t':=λpins s σ H Q I q=>h pins s σ H Q I<|i σ H Q q
def PW.imp{X:Cx}{e:aC}{t t':TT}(h:PW X e t)(i:∀σ H Q,t' σ H Q->t σ H Q):PW X e t':=λw pins s σ H Q I q=>h w pins s σ H Q I<|i σ H Q q
def PA.imp{X:Cx}{e:List aC}{t t':TA}(h:PA X e t)(i:∀σ H Q,t' σ H Q->t σ H Q):PA X e t':=λp pins s σ H Q I q=>h p pins s σ H Q I<|i σ H Q q
def AW.at{X:Cx}{e:aC}{c:Te}(h:AW X e c):AT X e c:=h _
abbrev A.qX:A->Bool
 | .unb=>true
 | _=>false
abbrev jI (i:Nat):Ex:=λτ S=>if (τ.getD i .unb).qX then .no else .ok (τ.getD i .unb) S
abbrev eC (a:A):Ex:=λ_ S=>.ok a S
section
variable {X:Cx}{pos:Pos}{a b:aC}
def jG(i:Nat){x:Str}(hN:X.N[i]?=some x:=by rfl)(hv:ZT X.env.scope x:=by first|exact Or.inl rfl|exact Or.inr (Or.inl rfl)|exact Or.inr<|Or.inr rfl)(hd:(x == ("__debug__" : Str))=false:=by decide)
  (hcd:(x == ("__classdict__" : Str))=false:=by decide):AE X (.Name x pos) (jI i):=PE.imp (Ph hN hv hd hcd) λσ H Q h9=>by
 room;unfold jI at h
 cases hi:τ[i]? with
 | none=>
  rw[aI,hi]at h;exact h.elim
 | some x=>
  rw[aI,hi]at h
  rcases r.at i x hi with z|⟨v,e,q⟩
  ·subst z;exact h.elim
  ·refine⟨v,e,?_⟩
   cases x<;>first|(exact h ρ H v .refl R q)|exact h.elim
def jP{i:Int}{j pos}:AE X (.Constant (.int i) j pos) (eC<|.int i):=PE.imp Yc λσ H Q ⟨ρ,S,τ,R,r,h⟩=>h ρ H _ .refl R<|.int i
def t_{j pos}:AE X (.Constant (.bool i) j pos) (eC<|.bl i):=PE.imp aaP λσ H Q ⟨ρ,S,τ,R,r,h⟩=>h ρ H _ .refl R<|.bl i
abbrev jT (f:A->A->jM->R A)(ca cb:Ex):Ex:=λτ S=>(ca τ S).bind λa S1=>(cb τ S1).bind λb S2=>f a b S2
abbrev r2 (X:Cx)(f:A->A->jM->R A):R2:=λx y H Q=>∃ρ S a b,Rel X.K ρ H S/\AV X.K ρ H a x/\AV X.K ρ H b y/\(f a b S).post (CA X ρ H Q) (XE X ρ H)
abbrev r1 (X:Cx)(f:A->jM->R A):V->Hp->VK->Prop:=λx H Q=>∃ρ S a,Rel X.K ρ H S/\AV X.K ρ H a x/\(f a S).post (CA X ρ H Q) (XE X ρ H)
abbrev rN (X:Cx)(f:ae->jM->R A):List V->Hp->VK->Prop:=λxs H Q=>∃ρ S as,Rel X.K ρ H S/\AVs X.K ρ H as xs/\(f as S).post (CA X ρ H Q) (XE X ρ H)
def pV.imp{f:af->af->Sem af}{r r':R2}(h:pV X f r)(i:∀x y H Q,r' x y H Q->r x y H Q):pV X f r':=λpins s σ H x y v u Q I rx ry q=>h pins s σ H x y v u Q I rx ry<|i _ _ _ _ q
def kF.imp{f:af}{r r':List V->Hp->VK->Prop}(h:kF X f r)(i:∀x H Q,r' x H Q->r x H Q):kF X f r':=λpins s σ H x v Q I rx q=>h pins s σ H x v Q I rx<|i _ _ _ q
def wg{f:A->A->jM->R A}{ca cb:Ex}{H:Hp}{Q:VK}(h:tE X (jT f ca cb) σ H Q):tOp (r2 X f) (tE X ca) (tE X cb) σ H Q:=by
 kpc_g;refine⟨ρ,S,τ,R,r,jO (jS h) .refl λa S1 h1 ρ1 H1 x e1 R1 v1=>⟨ρ1,S1,τ,R1,r.ext e1,jO (jS h1) e1 λb S2 h2 ρ2 H2 y e2 R2 v2=>?_⟩⟩;exact⟨ρ2,S2,a,b,R2,v1.ext e2,v2,jO h2 (e1.trans e2) λc S3 h3=>h3.ext<|e1.trans e2⟩
def j3{f:A->A->jM->R A}{ca cb:Ex}(ho:pV X (binaryOp op)<|r2 X f)(ha:AE X a ca)(hb:AE X b cb):AE X (.BinOp a op b pos) (jT f ca cb):=
 PE.imp (Zt ho ha hb) λσ H Q h=>wg h
def NU{op:CmpOp}{f:A->A->jM->R A}{ca cb:Ex}(ho:pV X (compareOp op)<|r2 X f)(ha:AE X a ca)(hb:AE X b cb)(hm:behindInMarks op b=false:=by first|exact PV _|with_unfolding_all rfl):AE X (.Compare a [op] [b] pos) (jT f ca cb):=
 PE.imp (US ho ha hb hm) λσ H Q h=>wg h
abbrev A.VY:A->jM->bj
 | .non,_=>some false
 | .bl b,_=>some b
 | .int i,_=>some (i != 0)
 | .str x,_=>if x.length<=sizeLine then some ((x.length:Int) != 0)else none
 | .tup xs,_=>some (!xs.isEmpty)
 | .frz xs,_=>some (!xs.isEmpty)
 | .ref n,S=>(jK S n).map λxs=>!xs.isEmpty
 | _,_=>none
abbrev tX (c:Ex):Te:=λτ S=>(c τ S).bind λa S1=>opt (a.VY S1) λb=>.ok b S1
abbrev uW (c:Ex):Te:=λτ S=>(c τ S).bind λa S1=>match a with
 | .bl b=>.ok b S1
 | _=>.no
def FG{K:au}{H:Hp}{b:Bool}{v:V}(h:AV K ρ H (.bl b) v):v=.bl b:=by cases h;rfl
def lB{op:CmpOp}{f:A->A->jM->R A}{ca cb:Ex}(ho:pV X (compareOp op)<|r2 X f)(ha:AE X a ca)(hb:AE X b cb)(hm:behindInMarks op b=false:=by first|exact PV _|with_unfolding_all rfl):AT X (.Compare a [op] [b] pos) (uW<|jT f ca cb):=
 PT.imp (Tp ho ha hb hm) λσ H Q h9=>by
  room;refine wg ⟨ρ,S,τ,R,r,jO (jS h) .refl λc S1 h1 ρ1 H1 x e1 R1 v1=>?_⟩
  cases c with
  | bl k=>cases FG v1;exact⟨k,rfl,h1 ρ1 H1 e1 R1⟩
  | _=>exact h1.elim
def Yh{K:au}{H:Hp}{x:A}{v:V}{b:Bool}(R:Rel K ρ H S)(h:AV K ρ H x v)(e:x.VY S=some b):WQ K v H b:=by
 have emp:∀{xs:ae} {vs:List V},AVs K ρ H xs vs->(!xs.isEmpty)=!vs.isEmpty:=λr=>by cases r<;>rfl
 cases h with
 | non=>exact(bh e).symm
 | bl b=>exact(bh e).symm
 | int i=>exact(bh e).symm
 | str x=>
  by_cases hx:x.length<=sizeLine
  ·exact⟨hx,by have:=(aL hx).symm.trans e;exact(bh this).symm⟩
  ·have:=(aJ hx).symm.trans e;cases this
 | tup h r=>exact .inr (.inl ⟨_,nO.of h,by rw[<- emp r];exact(bh e).symm⟩)
 | frz h r=>exact .inl ⟨_,h.Sq,by rw[<- emp r];exact(bh e).symm⟩
 | rng h=>cases e
 | ty n=>cases e
 | exn n h x=>cases e
 | ktu h r=>cases e
 | @ref a n h=>
  have e:(jK S n).map (λxs=>!xs.isEmpty)=some b:=e;obtain⟨xs,hn,e⟩:=aY.mp e;obtain⟨vs,h1,h2⟩:=R.lst h<|j0 hn;exact .inl ⟨vs,nJ.of h1,by rw[<- emp h2];exact e.symm⟩
def nM{ca:Ex}(ha:AE X a ca)(he:∀whole,isTrue a X.env whole=(do let v <- whole;standAt a.pos;holding [v] (truthy v)):=by intro _;rfl):AT X a (tX ca):=
 PT.imp (OY ha he) λσ H Q ⟨ρ,S,τ,R,r,h⟩=>⟨ρ,S,τ,R,r,jO (jS h) .refl λc S1 h1 ρ1 H1 x e1 R1 v1=>by
  obtain⟨b,hb,h1⟩:=jU h1;exact⟨b,Yh R1 v1 hb,h1 ρ1 H1 e1 R1⟩⟩
abbrev Br (c:Te):Te:=λτ S=>(c τ S).bind λb S1=>.ok (!b) S1
abbrev Vj (c d:Te):Te:=λτ S=>(c τ S).bind λb S1=>match b with|true=>d τ S1|false=>.ok false S1
abbrev OQ (c d:Te):Te:=λτ S=>(c τ S).bind λb S1=>match b with|true=>.ok true S1|false=>d τ S1
def uv{c:Te}(h:AT X a c):AT X (.UnaryOp .Not a pos) (Br c):=PT.imp (Ym h) λσ H Q ⟨ρ,S,τ,R,r,h⟩=>⟨ρ,S,τ,R,r,jO (jS h) .refl λb S1 h1=>h1⟩
def and_imp{c d:Te}{H:Hp}{Q:Bool->Hp->Prop}(h:tT X (Vj c d) σ H Q):aat (tT X c) (tT X d) σ H Q:=by
 kpc_g;refine⟨ρ,S,τ,R,r,jO (jS h) .refl λb S1 h1 ρ1 H1 e1 R1=>?_⟩
 cases b with
 | true=>
  rw[aL rfl];exact⟨ρ1,S1,τ,R1,r.ext e1,jO h1 e1 λ_ _ z=>z.ext e1⟩
 | false=>
  rw[aJ bM];exact h1 ρ1 H1 e1 R1
def or_imp{c d:Te}{H:Hp}{Q:Bool->Hp->Prop}(h:tT X (OQ c d) σ H Q):tOr (tT X c) (tT X d) σ H Q:=by
 kpc_g;refine⟨ρ,S,τ,R,r,jO (jS h) .refl λb S1 h1 ρ1 H1 e1 R1=>?_⟩
 cases b with
 | false=>
  rw[aJ bM];exact⟨ρ1,S1,τ,R1,r.ext e1,jO h1 e1 λ_ _ z=>z.ext e1⟩
 | true=>
  rw[aL rfl];exact h1 ρ1 H1 e1 R1
variable {rest:List aC}
def Uh{c:Te}(h:AT X a c):AW X (.BoolOp .And [a] pos) c:=Uj h
def BO{c:Te}(h:AT X a c):AW X (.BoolOp .Or [a] pos) c:=WY h
def Xy{c d:Te}(h:AT X a c)(h2:AW X (.BoolOp .And (b::rest) pos) d):AW X (.BoolOp .And (a::b::rest) pos) (Vj c d):=PW.imp (Xv h h2) λ_ _ _ q=>and_imp q
def zQ{c d:Te}(h:AT X a c)(h2:AW X (.BoolOp .Or (b::rest) pos) d):AW X (.BoolOp .Or (a::b::rest) pos) (OQ c d):=PW.imp (aaJ h h2) λ_ _ _ q=>or_imp q
abbrev Rv (c d:Ex):Ex:=λτ S=>(c τ S).bind λa S1=>match a with | .bl true=>d τ S1 | .bl false=>.ok (.bl false) S1|_=>.no
abbrev eOr (c d:Ex):Ex:=λτ S=>(c τ S).bind λa S1=>match a with | .bl true=>.ok (.bl true) S1 | .bl false=>d τ S1|_=>.no
abbrev Zc (c:Ex):Ex:=λτ S=>(c τ S).bind λa S1=>match a with | .bl b=>.ok (.bl !b) S1|_=>.no
def PF{op}{c:Ex}(h:AE X a c):AE X (.BoolOp op [a] pos) c:=Yt h
def Ql{c d:Ex}(h:AE X a c)(h2:AE X (.BoolOp .And (b::rest) pos) d):AE X (.BoolOp .And (a::b::rest) pos) (Rv c d):=PE.imp (WJ h h2) λσ H Q h9=>by
 room;refine⟨ρ,S,τ,R,r,jO (jS h) .refl λb S1 h1 ρ1 H1 x e1 R1 v1=>?_⟩
 cases b with
 | bl k=>
  cases FG v1
  refine⟨k,rfl,?_⟩
  cases k with
  | true=>
   rw[aL rfl];exact⟨ρ1,S1,τ,R1,r.ext e1,jO h1 e1 λ_ _ z=>z.ext e1⟩
  | false=>
   rw[aJ bM];exact h1 ρ1 H1 _ e1 R1<|.bl false
 | _=>exact h1.elim
def Yb{c:Ex}(h:AE X a c):AE X (.UnaryOp .Not a pos) (Zc c):=PE.imp (Y7 h) λσ H Q h9=>by
 room;refine⟨ρ,S,τ,R,r,jO (jS h) .refl λb S1 h1 ρ1 H1 x e1 R1 v1=>?_⟩
 cases b with
 | bl k=>
  cases FG v1
  exact⟨k,rfl,h1 ρ1 H1 _ e1 R1<|.bl _⟩
 | _=>exact h1.elim
abbrev eIf (t:Te)(c d:Ex):Ex:=λτ S=>(t τ S).bind λb S1=>match b with|true=>c τ S1|false=>d τ S1
abbrev jR:sW:=λ_ S=>.ok [] S
abbrev jH (c:Ex)(d:sW):sW:=λτ S=>(c τ S).bind λa S1=>(d τ S1).bind λas S2=>.ok (a::as) S2
def jN:AL X [] jR:=PA.imp vc λσ H Q ⟨ρ,S,τ,R,r,h⟩=>h ρ H _ .refl R .nil
def jJ{e:aC}{c:Ex}{d:sW}(ha:AE X e c)(hr:AL X es d)(hs:starEach (e::es) X.env=(false,eval e X.env)::starEach es X.env:=by rfl):AL X (e::es) (jH c d):=
 PA.imp (n6 ha hr hs) λσ H Q h9=>by
  room;refine⟨ρ,S,τ,R,r,jO (jS h) .refl λa S1 h1 ρ1 H1 x e1 R1 v1=>⟨ρ1,S1,τ,R1,r.ext e1,jO (jS h1) e1 λas S2 h2 ρ2 H2 xs e2 R2 v2=>?_⟩⟩;exact h2 ρ2 H2 _ (e1.trans e2) R2<|.cons (v1.ext e2) v2
abbrev mW (d:sW):Ex:=λτ S=>(d τ S).bind λas S1=>gd (as.length<=sizeLine)<|.ok (.tup as) S1
abbrev newL (as:ae)(S:jM):R A:=gd (as.length<=sizeLine)<|.ok (.ref S.length)<|S++[.lst as]
abbrev pC (d:sW):Ex:=λτ S=>(d τ S).bind λas S1=>newL as S1
def rY{H H0:Hp}{Q:VK}(R:Rel X.K ρ H S)(r:AVs X.K ρ H as vs)(e:Ext ρ0 ρ H0 H)(h:CA X ρ0 H0 Q (.tup as) S):∀p,H p=none->Q (.ref p) (upd H p<|.tup vs):=λp hp=>by
 obtain⟨ex,R'⟩:=R.im (u:=.tup vs) hp;exact h ρ _ _ (e.trans ex) R'<|.tup kZ<|r.ext ex
def nY{H H0:Hp}{S:jM}{Q:VK}(R:Rel X.K ρ H S)(r:AVs X.K ρ H as vs)(e:Ext ρ0 ρ H0 H)(h:CA X ρ0 H0 Q (.ref S.length)<|S++[.lst as]):∀p,H p=none->Q (.ref p) (upd H p<|.lst vs):=λp hp=>by
 obtain⟨ex,R',g⟩:=R.lay hp r;exact h _ _ _ (e.trans ex) R'<|.ref g
def Sw{H H0:Hp}{vs:List V}{Q:VK}(R:Rel X.K ρ H S)(r:AVs X.K ρ H as vs)(e:Ext ρ0 ρ H0 H)(h:(newL as S).post (CA X ρ0 H0 Q)<|XE X ρ0 H0):vs.length<=sizeLine/\∀p,H p=none->Q (.ref p) (upd H p<|.lst vs):=by
 obtain⟨hl,h⟩:=ki h;exact⟨by rw[<- r.length];exact hl,nY R r e h⟩
def kR{d:sW}{x1}(h:AL X es d):AE X (.Tuple es x1 pos) (mW d):=PE.imp (YY h) λσ H Q h9=>by
 room;refine⟨ρ,S,τ,R,r,jO (jS h) .refl λas S1 h1 ρ1 H1 xs e1 R1 v1=>?_⟩;obtain⟨hl,h1⟩:=ki h1;exact⟨by rw[<- v1.length];exact hl,rY R1 v1 e1 h1⟩
def lJ{d:sW}(h:AL X es d):AE X (.List es pos) (pC d):=PE.imp (Yn h) λσ H Q ⟨ρ,S,τ,R,r,h⟩=>
 ⟨ρ,S,τ,R,r,jO (jS h) .refl λas S1 h1 ρ1 H1 xs e1 R1 v1=>Sw R1 v1 e1 h1⟩
end
section
variable {X:Cx}{pos:Pos}{a b:aC}
abbrev aSub (a b:A)(S:jM):R A:=match a,b with
 | .int i,.int j=>.ok (.int<|i-j) S
 | _,_=>.no
def qe:pV X (binaryOp .Sub) (r2 X aSub):=pV.imp YR λx y H Q h9=>by
 x_go
 cases va<;>first|exact h.elim|(cases vb<;>first|exact h.elim|exact⟨_,_,rfl,rfl,h _ _ _ .refl R<|.int _⟩)
abbrev JW (i j:Int):Bool:=(decide (-(2 ^ 64)<i) && decide (i<2 ^ 64)) || (decide (-(2 ^ 64)<j) && decide (j<2 ^ 64))
def mulOk_of{i j:Int}(h:JW i j=true):Uu i j:=by
 unfold JW at h;dsimp[iN,fM,eF]at h;exact h
abbrev ET (a b:A)(S:jM):R A:=match a,b with
 | .int i,.int j=>gd (JW i j) (.ok (.int<|i * j) S)
 | .ref n,.int k=>opt (jK S n) λxs=>gd (-(2 ^ 63)<=k/\k<2 ^ 63/\xs.length * k.toNat<=sizeLine) (.ok (.ref S.length)<|S++[.lst (List.replicate k.toNat xs).flatten])
 | _,_=>.no
theorem AVs.rep{K:au}{H:Hp}(r:AVs K ρ H xs vs):∀k:Nat,AVs K ρ H (List.replicate k xs).flatten (List.replicate k vs).flatten
 | 0=>.nil
 | k+1=>by rw[dm,dm,eB,eB];exact r.append<|AVs.rep r k
def Jr:pV X (binaryOp .Mult) (r2 X ET):=λpins s σ H x y v u Q I rx ry h9=>by
 x_go
 cases va with
 | int i=>
  cases vb with
  | int j=>
   obtain⟨hm,h⟩:=ki h;exact W4 pins s σ H _ _ v u Q I rx ry ⟨i,j,rfl,rfl,mulOk_of hm,h _ _ _ .refl R<|.int _⟩
  | _=>exact h.elim
 | @ref p n hp=>
  cases vb with
  | int k=>
   gp_on;obtain⟨hc,h⟩:=ki h;obtain⟨vs,h1,h2⟩:=R.lst hp<|j0 hn;exact W8 pins s σ H _ _ v u Q I rx ry ⟨p,k,vs,rfl,rfl,h1,hc.1,hc.2.1,by rw[<- h2.length];exact hc.2.2,nY R (h2.rep _) .refl h⟩
  | _=>exact h.elim
 | _=>exact h.elim
abbrev Lp (a b:A)(S:jM):R A:=match a,b with
 | .int i,.int j=>gd (0<j/\j<18446744073709551616) (.ok (.int<|i / j) S)
 | _,_=>.no
def Nm:pV X (binaryOp .FloorDiv) (r2 X Lp):=pV.imp Nr λx y H Q h9=>by
 x_go
 cases va<;>first|exact h.elim|(cases vb<;>first|exact h.elim|exact⟨_,_,rfl,rfl,(ki h).1,(ki h).2 _ _ _ .refl R<|.int _⟩)
abbrev ER (a b:A)(S:jM):R A:=match a,b with
 | .int i,.int j=>gd (0<j) (.ok (.int<|i % j) S)
 | _,_=>.no
def GO:pV X (binaryOp .Mod) (r2 X ER):=pV.imp Xx λx y H Q h9=>by
 x_go
 cases va<;>first|exact h.elim|(cases vb<;>first|exact h.elim|exact⟨_,_,rfl,rfl,(ki h).1,(ki h).2 _ _ _ .refl R<|.int _⟩)
abbrev TY (a b:A)(S:jM):R A:=match a,b with
 | .int i,.int j=>gd (0<=j/\j<=1000000/\i.natAbs<2 ^ 64) (.ok (.int<|i ^ j.toNat) S)
 | _,_=>.no
def aaM:pV X (binaryOp .Pow) (r2 X TY):=pV.imp W6 λx y H Q h9=>by
 x_go
 cases va<;>first|exact h.elim|(cases vb<;>first|exact h.elim|exact⟨_,_,rfl,rfl,(ki h).1,(ki h).2 _ _ _ .refl R<|.int _⟩)
abbrev lK (a b:A)(S:jM):R A:=match a,b with
 | .int i,.int j=>.ok (.int<|i+j) S
 | .tup xs,.tup ys=>gd (xs.length+ys.length<=sizeLine) (.ok (.tup<|xs++ys) S)
 | .str x,.str y=>gd (x.length+y.length<=sizeLine) (.ok (.str<|x++y) S)
 | .ref n,.ref m=>opt (jK S n) λxs=>opt (jK S m) λys=>gd (xs.length+ys.length<=sizeLine) (.ok (.ref S.length)<|S++[.lst<|xs++ys])
 | _,_=>.no
def AVs.nil_inv{K:au}{H:Hp}(r:AVs K ρ H xs vs):xs=[] ↔ vs=[]:=by cases r<;>simp
def lU:pV X (binaryOp .Add) (r2 X lK):=λpins s σ H x y v u Q I rx ry h9=>by
 x_go
 cases va with
 | int i=>
  cases vb with
  | int j=>exact XM pins s σ H _ _ v u Q I rx ry ⟨i,j,rfl,rfl,h _ _ _ .refl R<|.int _⟩
  | _=>exact h.elim
 | str x=>
  cases vb with
  | str y=>
   obtain⟨hc,h⟩:=ki h;exact Jh pins s σ H _ _ v u Q I rx ry ⟨x,y,rfl,rfl,hc,h _ _ _ .refl R<|.str _⟩
  | _=>exact h.elim
 | @tup p xs vs h1 r1=>
  cases vb with
  | @tup q ys ws h2 r2=>
   obtain⟨hc,h⟩:=ki h;by_cases hv:vs=[]
   ·have hx:=r1.nil_inv.mpr hv;subst hv hx;exact Qp pins s σ H _ _ v u Q I rx ry ⟨p,q,ws,rfl,rfl,nO.of h1,nO.of h2,h _ _ _ .refl R<|.tup h2 r2⟩
   ·refine UH pins s σ H _ _ v u Q I rx ry ⟨p,q,vs,ws,rfl,rfl,nO.of h1,nO.of h2,hv,by rw[<- r1.length,<- r2.length];exact hc,λe=>?_,λ_=>rY R (r1.append r2) .refl h⟩;have hy:=r2.nil_inv.mpr e;subst hy;rw[cG]at h;exact h _ _ _ .refl R<|.tup h1 r1
  | _=>exact h.elim
 | @ref p n hp=>
  cases vb with
  | @ref q m hq=>
   gp_on;obtain⟨ys,hm,h⟩:=jU h;obtain⟨hc,h⟩:=ki h;obtain⟨vs,h1,h2⟩:=R.lst hp<|j0 hn;obtain⟨ws,h3,h4⟩:=R.lst hq<|j0 hm;exact W9 pins s σ H _ _ v u Q I rx ry ⟨p,q,vs,ws,rfl,rfl,h1,h3,by rw[<- h2.length,<- h4.length];exact hc,nY R (h2.append h4) .refl h⟩
  | _=>exact h.elim
 | _=>exact h.elim
abbrev A.ints:ae->Option (ag)
 | []=>some []
 | .int i::xs=>(A.ints xs).map (i::·)
 | _=>none
theorem Ay{K:au}{H:Hp}:∀{xs:ae}{vs:List V}{bs:ag},AVs K ρ H xs vs->A.ints xs=some bs->vs=bs.map V.int
 | _,_,_,.nil,e=>by cases e;rfl
 | _,_,_,.cons (x:=.int b) h t,e=>by
  obtain⟨cs,e1,rfl⟩:=aY.mp e
  cases h
  rw[Ay t e1];rfl
 | _,_,_,.cons (x:=.unb) h t,e=>nomatch e
 | _,_,_,.cons (x:=.non) h t,e=>nomatch e
 | _,_,_,.cons (x:=.bl _) h t,e=>nomatch e
 | _,_,_,.cons (x:=.str _) h t,e=>nomatch e
 | _,_,_,.cons (x:=.tup _) h t,e=>nomatch e
 | _,_,_,.cons (x:=.frz _) h t,e=>nomatch e
 | _,_,_,.cons (x:=.rng _ _) h t,e=>nomatch e
 | _,_,_,.cons (x:=.ref _) h t,e=>nomatch e
 | _,_,_,.cons (x:=.exn _) h t,e=>nomatch e
 | _,_,_,.cons (x:=.ty _) h t,e=>nomatch e
abbrev X5 (a b:A)(S:jM):R A:=match a,b with
 | .int i,.int j=>.ok (.bl<|decide<|i<j) S
 | _,_=>.no
def Yx(hu:X.A.units+64<cLine):pV X (compareOp .Lt) (r2 X X5):=λpins s σ H x y v u Q I rx ry h9=>by
 x_go
 cases va with
 | int i=>
  cases vb with
  | int j=>exact Z7 pins s σ H _ _ v u Q I rx ry ⟨i,j,rfl,rfl,h _ _ _ .refl R<|.bl _⟩
  | _=>exact h.elim
 | _=>exact h.elim
abbrev aLe (a b:A)(S:jM):R A:=match a,b with
 | .int i,.int j=>.ok (.bl<|decide<|i<=j) S
 | _,_=>.no
def ab9:pV X (compareOp .LtE) (r2 X aLe):=pV.imp Z4 λx y H Q h9=>by
 x_go
 cases va<;>first|exact h.elim|(cases vb<;>first|exact h.elim|exact⟨_,_,rfl,rfl,h _ _ _ .refl R<|.bl _⟩)
abbrev Mu (a b:A)(S:jM):R A:=match a,b with
 | .int i,.int j=>.ok (.bl<|decide<|j<i) S
 | _,_=>.no
def G0(hu:X.A.units+64<cLine):pV X (compareOp .Gt) (r2 X Mu):=λpins s σ H x y v u Q I rx ry h9=>by
 x_go
 cases va with
 | int i=>
  cases vb with
  | int j=>exact ZV pins s σ H _ _ v u Q I rx ry ⟨i,j,rfl,rfl,h _ _ _ .refl R<|.bl _⟩
  | _=>exact h.elim
 | _=>exact h.elim
abbrev aGe (a b:A)(S:jM):R A:=match a,b with
 | .int i,.int j=>.ok (.bl<|decide<|j<=i) S
 | _,_=>.no
def abI:pV X (compareOp .GtE) (r2 X aGe):=pV.imp ZH λx y H Q h9=>by
 x_go
 cases va<;>first|exact h.elim|(cases vb<;>first|exact h.elim|exact⟨_,_,rfl,rfl,h _ _ _ .refl R<|.bl _⟩)
abbrev VJ (neg:Bool)(a b:A)(S:jM):R A:=match a,b with
 | .bl i,.bl j=>.ok (.bl<|if neg then i != j else i == j) S
 | .non,.non=>.ok (.bl<|!neg) S
 | .unb,.non=>.no
 | .exn _,.non=>.no
 | _,.non=>.ok (.bl neg) S
 | _,_=>.no
abbrev Hz (f:A->jM->R A)(c:Ex):Ex:=λτ S=>(c τ S).bind λa S1=>f a S1
abbrev xm (a:A)(S:jM):R A:=match a with
 | .int i=>.ok (.int<|-i) S
 | _=>.no
def aas:UnR X (unaryOp .USub) (r1 X xm):=λpins s σ H x v Q I rx h9=>by
 obtain⟨ρ,S,a,R,va,h⟩:=h9
 cases va with
 | int i=>exact XX pins s σ H _ v Q I rx ⟨i,rfl,h _ _ _ .refl R<|.int _⟩
 | _=>exact h.elim
def XI{f:A->jM->R A}{c:Ex}{H:Hp}{Q:VK}(h:tE X (Hz f c) σ H Q):tUn (r1 X f) (tE X c) σ H Q:=by
 kpc_g;exact⟨ρ,S,τ,R,r,jO (jS h) .refl λa S1 h1 ρ1 H1 x e1 R1 v1=>⟨ρ1,S1,a,R1,v1,jO h1 e1 λc S3 h3=>h3.ext e1⟩⟩
def uC{c:Ex}(h:AE X a c):AE X (.UnaryOp .USub a pos) (Hz xm c):=PE.imp (aaQ aas h) λ_ _ _ q=>XI q
abbrev p_ (a b:A)(S:jM):R A:=match a,b with
 | .tup xs,.int i=>opt (rW xs i) λx=>.ok x S
 | .frz xs,.int i=>opt (rW xs i) λx=>.ok x S
 | .ref n,.int i=>opt (jK S n) λxs=>opt (rW xs i) λx=>.ok x S
 | .str z,.int i=>gd (z.length<=sizeLine) (opt (rW z.cps.toList i) λc=>.ok (.str ⟨#[c]⟩) S)
 | _,_=>.no
def AVs.rW{K:au}{H:Hp}{i:Int}{x:A}(r:AVs K ρ H xs vs)(h:L2.rW xs i=some x):∃v,L2.rW vs i=some v/\AV K ρ H x v:=by
 unfold L2.rW at h ⊢;rw[<- r.length]
 cases hj:DJ xs.length i with
 | none=>rw[hj]at h;cases h
 | some j=>
  rw[hj]at h;exact r.get h
def ZE:Wk X (r2 X p_):=λvalue slice pins s σ H x y v u Q I rx ry ⟨ρ,S,a,b,R,va,vb,h⟩ hs=>by
 cases va with
 | @tup p xs vs h1 r1=>
  cases vb with
  | int i=>
   obtain⟨x,hx,h⟩:=jU h;obtain⟨z,e,q⟩:=r1.rW hx;exact Yq value slice pins s σ H _ _ v u Q I rx ry ⟨p,vs,i,z,rfl,rfl,nO.of h1,e,h _ _ _ .refl R q⟩ hs
  | _=>exact h.elim
 | @frz p xs vs h1 r1=>
  cases vb with
  | int i=>
   obtain⟨x,hx,h⟩:=jU h;obtain⟨z,e,q⟩:=r1.rW hx;exact LI value slice pins s σ H _ _ v u Q I rx ry ⟨p,vs,i,z,rfl,rfl,h1.Sq,e,h _ _ _ .refl R q⟩ hs
  | _=>exact h.elim
 | @ref p n hp=>
  cases vb with
  | int i=>
   gp_on;obtain⟨x,hx,h⟩:=jU h;obtain⟨vs,h1,r1⟩:=R.lst hp<|j0 hn;obtain⟨z,e,q⟩:=r1.rW hx;exact LI value slice pins s σ H _ _ v u Q I rx ry ⟨p,vs,i,z,rfl,rfl,nJ.of h1,e,h _ _ _ .refl R q⟩ hs
  | _=>exact h.elim
 | str z=>
  cases vb with
  | int i=>
   obtain⟨hz,h⟩:=ki h;obtain⟨c,hc,h⟩:=jU h;exact YK value slice pins s σ H _ _ v u Q I rx ry ⟨z,i,c,rfl,rfl,hz,hc,h _ _ _ .refl R<|.str _⟩ hs
  | _=>exact h.elim
 | _=>exact h.elim
def kO{ca cb:Ex}(ha:AE X a ca)(hb:AE X b cb)(hs:Ak b:=by exact λ_ _=>rfl):AE X (.Subscript a b pos) (jT p_ ca cb):=PE.imp (Pn ZE ha hb hs) λσ H Q h=>wg h
end
abbrev oX (f:A->A->bj):ae->ae->bj
 | [],[]=>some true
 | x::xs,y::ys=>(f x y).bind λp=>(oX f xs ys).map λq=>p && q
 | _,_=>some false
inductive Sh
 | non
 | bl (b:Bool)
 | int (i:Int)
 | str (x:Str)
 | tup (xs:ae)
 | lst
abbrev Yr (S:jM):A->Option Sh
 | .non=>some .non
 | .bl b=>some (.bl b)
 | .int i=>some (.int i)
 | .str x=>some (.str x)
 | .tup xs=>some (.tup xs)
 | .ref i=>(jK S i).map λ_=>.lst
 | _=>none
abbrev UC (f:A->A->bj):Sh->Sh->bj
 | .non,.non=>some true
 | .bl x,.bl y=>some (x == y)
 | .bl x,.int y=>some ((if x then 1 else 0) == y)
 | .int x,.bl y=>some (x == (if y then 1 else 0))
 | .int x,.int y=>some (x == y)
 | .str x,.str y=>some (x == y)
 | .tup xs,.tup ys=>oX f xs ys
 | .lst,.lst=>none
 | _,_=>some false
abbrev qK (S:jM):Nat->A->A->bj
 | 0,_,_=>none
 | n+1,a,b=>match a,b with
  | .ref i,.ref j=>(jK S i).bind λxs=>(jK S j).bind λys=>oX (qK S n) xs ys
  | _,_=>(Yr S a).bind λx=>(Yr S b).bind λy=>UC (qK S n) x y
section
variable {X:Cx}{pins:bo}{σ:L2.St}{H:Hp}{s:aA}{ρ:bb}{S:jM}
inductive KdV (s:aA):Sh->af->Prop
 | non:KdV s .non .none
 | bl (b:Bool):KdV s (.bl b) (.bool b)
 | int (i:Int) (t:Tok):KdV s (.int i) (.int i t)
 | str (x:Str) (t:Tok):KdV s (.str x) (.str x t)
 | tup {p:ak} {us:ba} (xs:ae) (h:s.heap.IsTuple p us.toArray):KdV s (.tup xs) (.ref p)
 | lst {p:ak} {us:ba} (h:s.heap.IsList p us.toArray):KdV s .lst<|.ref p
def L8{p:ak}(h:s.heap.IsTuple p us)(h':s.heap.IsList p ws):False:=by
 obtain⟨o,e,c,_⟩:=h;obtain⟨o',e',c',_⟩:=h';rw[e]at e'
 cases e'
 exact absurd (c.symm.trans c') ⋯
def Ky(I:Inv X pins σ H s)(R:Rel X.K ρ H S){a:A}{x:V}(ha:AV X.K ρ H a x)(r:RelV x u)(e:Yr S a=some h):KdV s h u:=by
 cases ha with
 | non=>cases e;cases(show u=Value.none from r);exact .non
 | bl b=>cases e;cases(show u=Value.bool b from r);exact .bl b
 | int i=>cases e;obtain⟨t,rfl⟩:∃t,u=Value.int i t:=r;exact .int i t
 | str i=>cases e;obtain⟨t,rfl⟩:∃t,u=Value.str i t:=r;exact .str i t
 | tup h1 r1=>cases e;cases(show u=Value.ref _ from r);obtain⟨us,_,p,_⟩:=I.tuple<|nO.of h1;exact .tup _ p
 | ref h1=>
  obtain⟨xs,e1,rfl⟩:=aY.mp e
  cases(show u=Value.ref _ from r)
  obtain⟨vs,h3,r1⟩:=R.lst h1<|j0 e1;obtain⟨us,_,p,_⟩:=I.list<|nJ.of h3;exact .lst p.isList
 | _=>cases e
abbrev Al (B:az)(s:aA)(u v:af)(k:Bool):Prop:=SeqAt.RcAt B s u v k/\SeqAt.EqAt B s u v k/\SeqAt.RcNeAt B s u v (!k)
def aam{B:az}(hu:B.units<cLine){f:A->A->bj}{v:af}{k:Bool}(d:KdV s h u)(d':KdV s h' v)(nt:∀xs ys,h=.tup xs->h'≠.tup ys)(e:UC f h h'=some k):Al B s u v k:=by
 cases d with
 | non=>cases d' with
  | non=>cases e;exact⟨.none_none,.same _,.none_none⟩
  | bl b=>cases e;exact⟨.none_bool _,.none_bool _,.none_bool _⟩
  | int i t=>cases e;exact⟨.none_int _ _,.none_int _ _,.none_int _ _⟩
  | str x t=>cases e;exact⟨.none_str _ _,.none_str _ _,.none_str _ _⟩
  | tup xs p=>cases e;exact⟨.none_tuple p hu,.none_tuple p hu,.none_tuple p hu⟩
  | lst p=>cases e;exact⟨.none_list p hu,.none_list p hu,.none_list p hu⟩
 | bl c=>cases d' with
  | non=>cases e;exact⟨.bool_none _,.bool_none _,.bool_none _⟩
  | bl b=>cases e;exact⟨.bool_bool _ _,.bool_bool _ _,.bool_bool _ _⟩
  | int i t=>cases e;exact⟨.bool_int _ _ _,.bool_int _ _ _,.bool_int _ _ _⟩
  | str x t=>cases e;exact⟨.bool_str _ _ _,.bool_str _ _ _,.bool_str _ _ _⟩
  | tup xs p=>cases e;exact⟨.bool_tuple _ p hu,.bool_tuple _ p hu,.bool_tuple _ p hu⟩
  | lst p=>cases e;exact⟨.bool_list _ p hu,.bool_list _ p hu,.bool_list _ p hu⟩
 | int c t'=>cases d' with
  | non=>cases e;exact⟨.int_none _ _,.int_none _ _,.int_none _ _⟩
  | bl b=>cases e;exact⟨.int_bool _ _ _,.int_bool _ _ _,.int_bool _ _ _⟩
  | int i t=>cases e;exact⟨.int_int _ _ _ _,.int_int _ _ _ _,.int_int _ _ _ _⟩
  | str x t=>cases e;exact⟨.int_str _ _ _ _,.int_str _ _ _ _,.int_str _ _ _ _⟩
  | tup xs p=>cases e;exact⟨.int_tuple _ _ p hu,.int_tuple _ _ p hu,.int_tuple _ _ p hu⟩
  | lst p=>cases e;exact⟨.int_list _ _ p hu,.int_list _ _ p hu,.int_list _ _ p hu⟩
 | str c t'=>cases d' with
  | non=>cases e;exact⟨.str_none _ _,.str_none _ _,.str_none _ _⟩
  | bl b=>cases e;exact⟨.str_bool _ _ _,.str_bool _ _ _,.str_bool _ _ _⟩
  | int i t=>cases e;exact⟨.str_int _ _ _ _,.str_int _ _ _ _,.str_int _ _ _ _⟩
  | str x t=>cases e;exact⟨.str_str _ _ _ _,.str_str _ _ _ _,.str_str _ _ _ _⟩
  | tup xs p=>cases e;exact⟨.str_tuple _ _ p hu,.str_tuple _ _ p hu,.str_tuple _ _ p hu⟩
  | lst p=>cases e;exact⟨.str_list _ _ p hu,.str_list _ _ p hu,.str_list _ _ p hu⟩
 | tup zs p'=>cases d' with
  | non=>cases e;exact⟨.tuple_none p' hu,.tuple_none p' hu,.tuple_none p' hu⟩
  | bl b=>cases e;exact⟨.tuple_bool _ p' hu,.tuple_bool _ p' hu,.tuple_bool _ p' hu⟩
  | int i t=>cases e;exact⟨.tuple_int _ _ p' hu,.tuple_int _ _ p' hu,.tuple_int _ _ p' hu⟩
  | str x t=>cases e;exact⟨.tuple_str _ _ p' hu,.tuple_str _ _ p' hu,.tuple_str _ _ p' hu⟩
  | tup xs p=>exact absurd rfl (nt _ _ rfl)
  | lst p=>cases e;exact⟨.tuple_list p' p hu,.of_refs (λz=>by subst z;exact L8 p' p)<|.tuple_list p' p hu,.tuple_list p' p hu⟩
 | lst p'=>cases d' with
  | non=>cases e;exact⟨.list_none p' hu,.list_none p' hu,.list_none p' hu⟩
  | bl b=>cases e;exact⟨.list_bool _ p' hu,.list_bool _ p' hu,.list_bool _ p' hu⟩
  | int i t=>cases e;exact⟨.list_int _ _ p' hu,.list_int _ _ p' hu,.list_int _ _ p' hu⟩
  | str x t=>cases e;exact⟨.list_str _ _ p' hu,.list_str _ _ p' hu,.list_str _ _ p' hu⟩
  | tup xs p=>cases e;exact⟨.list_tuple p' p hu,.of_refs (λz=>by subst z;exact L8 p p')<|.list_tuple p' p hu,.list_tuple p' p hu⟩
  | lst p=>cases e
def EW{a:A}{x:V}(h:AV X.K ρ H a x)(e:Yr S a=some (.tup xs)):a=.tup xs/\∃p vs,x=.ref p/\H p=some (.tup vs)/\AVs X.K ρ H xs vs:=by
 cases h with
 | tup h r=>cases e;exact⟨rfl,_,_,rfl,h,r⟩
 | ref h=>obtain⟨_,_,z⟩:=aY.mp e;cases z
 | _=>cases e
def EF{i:Nat}{x:V}(h:AV X.K ρ H (.ref i) x):∃p,x=.ref p/\ρ[i]?=some p:=by
 cases h with
 | ref h=>exact⟨_,rfl,h⟩
def O8{a:A}(e:Yr S a=some .lst):∃i,a=.ref i:=by
 cases a with
 | ref i=>exact⟨i,rfl⟩
 | _=>cases e
def Oo{n:Nat}{a:A}{k:Bool}(e:qK S (n+1) a b=some k):(∃i j xs ys,a=.ref i/\b=.ref j/\jK S i=some xs/\jK S j=some ys/\oX (qK S n) xs ys=some k)\/(∃h h',Yr S a=some h/\Yr S b=some h'/\UC (qK S n) h h'=some k/\(h=.lst->h'≠.lst)):=by
 unfold qK at e;split at e
 ·obtain⟨xs,e1,e⟩:=bX.mp e;obtain⟨ys,e2,e⟩:=bX.mp e;exact .inl ⟨_,_,xs,ys,rfl,rfl,e1,e2,e⟩
 ·rename_i nr;obtain⟨h,e1,e⟩:=bX.mp e;obtain⟨h',e2,e⟩:=bX.mp e;refine .inr ⟨h,h',e1,e2,e,λz1 z2=>?_⟩;subst z1 z2;obtain⟨i,rfl⟩:=O8 e1;obtain⟨j,rfl⟩:=O8 e2;exact nr i j rfl rfl
def Ui{f:A->A->bj}{k:Bool}(d:KdV s h u)(d':KdV s h' u)(nt:∀xs ys,h=.tup xs->h'≠.tup ys)(e:UC f h h'=some k):k=true:=by
 cases d with
 | non=>cases d';exact(bh e).symm
 | bl b=>cases d';exact(bh e).symm.trans (bV b)
 | int b=>cases d';exact(bh e).symm.trans (bV b)
 | str b=>cases d';exact(bh e).symm.trans (bV b)
 | tup xs p=>cases d' with
  | tup=>exact absurd rfl (nt _ _ rfl)
  | lst q=>exact(L8 p q).elim
 | lst p=>cases d' with
  | tup _ q=>exact(L8 q p).elim
  | lst q=>cases e
def G3{f:A->A->bj}(hf:∀a b x u k,AV X.K ρ H a x->AV X.K ρ H b x->RelV x u->f a b=some k->k=true):∀{xs ys:ae}{vs:List V}{us:ba}{k:Bool},AVs X.K ρ H xs vs->AVs X.K ρ H ys vs->Vals vs us->oX f xs ys=some k->k=true:=by
 intro xs ys vs us k h1 h2 q e
 induction q generalizing xs ys k with
 | nil=>cases h1;cases h2;exact(bh e).symm
 | cons rv _ ih=>
  cases h1 with
  | cons h t=>cases h2 with
   | cons h' t'=>
    obtain⟨p,e1,e⟩:=bX.mp e;obtain⟨q,e2,e3⟩:=aY.mp e;rw[<- e3,hf _ _ _ _ p h h' rv e1,ih t t' e2];rfl
def Kc(h h':Sh):(∃xs ys,h=.tup xs/\h'=.tup ys)\/(∀xs ys,h=.tup xs->h'≠.tup ys):=by
 cases h with
 | tup xs=>cases h' with
  | tup ys=>exact .inl ⟨xs,ys,rfl,rfl⟩
  | _=>exact .inr λ_ _ _ z=>nomatch z
 | _=>exact .inr λ_ _ z=>nomatch z
theorem Fb(I:Inv X pins σ H s)(R:Rel X.K ρ H S):∀(n:Nat) (a b:A) (x:V) (u:af) (k:Bool),AV X.K ρ H a x->AV X.K ρ H b x->RelV x u->qK S n a b=some k->k=true
 | 0,_,_,_,_,_,_,_,_,e=>nomatch e
 | n+1,a,b,x,u,k,ha,hb,ru,e=>by
  rcases Oo e with⟨i,j,xs,ys,rfl,rfl,e1,e2,e⟩|⟨h,h',e1,e2,e,_⟩
  ·obtain⟨p,rfl,h1⟩:=EF ha;obtain⟨q,z,h2⟩:=EF hb
   cases z
   obtain⟨vs,h3,r1⟩:=R.lst h1<|j0 e1;obtain⟨ws,h4,r2⟩:=R.lst h2<|j0 e2;rw[h3]at h4
   cases h4
   obtain⟨us,q,_⟩:=I.list<|nJ.of h3;exact G3 (λa b x u k=>Fb I R n a b x u k) r1 r2 q e
  ·rcases Kc h h' with⟨xs,ys,rfl,rfl⟩|nt
   ·obtain⟨rfl,p,vs,rfl,h3,r1⟩:=EW ha e1;obtain⟨rfl,q,ws,z,h4,r2⟩:=EW hb e2
    cases z
    have:=I.za (nO.of h3)<|nO.of h4;subst this;obtain⟨us,q,_⟩:=I.tuple<|nO.of h3;exact G3 (λa b x u k=>Fb I R n a b x u k) r1 r2 q e
   ·exact Ui (Ky I R ha ru e1) (Ky I R hb ru e2) nt e
abbrev CI (f:A->A->bj)(xs ys:ae)(j:Nat):Bool:=match xs[j]?,ys[j]? with
 | some x,some y=>(f x y).getD true
 | _,_=>true
theorem AQ{f:A->A->bj}:∀{xs ys:ae}{k:Bool},oX f xs ys=some k->k=((List.range<|min xs.length ys.length).all (CI f xs ys) && xs.length == ys.length)/\∀j x y,xs[j]?=some x->ys[j]?=some y->f x y=some (CI f xs ys j)
 | [],[],k,e=>⟨(bh e).symm,λj x y h=>by simp at h⟩
 | [],_::_,k,e=>⟨(bh e).symm,λj x y h=>by simp at h⟩
 | _::_,[],k,e=>⟨(bh e).symm,λj x y _ h=>by simp at h⟩
 | x::xs,y::ys,k,e=>by
  unfold oX at e
  cases e1:f x y with
  | none=>rw[e1]at e;cases e
  | some p=>
   rw[e1]at e;obtain⟨q,e2,e3⟩:=aY.mp e;obtain⟨h1,h2⟩:=AQ e2;have p0:CI f (x::xs) (y::ys) 0=p:=by simp[CI,e1]
   have ps:∀j,CI f (x::xs) (y::ys) (j+1)=CI f xs ys j:=λj=>by simp[CI]
   refine⟨?_,λj a b ha hb=>?_⟩
   ·rw[<- e3,h1,bz,bz,Nat.succ_min_succ,List.range_succ_eq_map,List.all_cons,all_map,p0];have:(CI f (x::xs) (y::ys) ∘ Nat.succ)=CI f xs ys:=funext ps;rw[this,Bool.and_assoc];simp
   ·cases j with
    | zero=>
     simp at ha hb;subst ha hb;rw[p0];exact e1
    | succ j=>rw[ps];exact h2 j a b (by simpa using ha)<|by simpa using hb
def A0{f:A->A->bj}{B:az}(hf:∀a b x y u v k,AV X.K ρ H a x->AV X.K ρ H b y->RelV x u->RelV y v->f a b=some k->SeqAt.EqAt B s u v k){us ts:ba}{k:Bool}
  (r1:AVs X.K ρ H xs vs) (r2:AVs X.K ρ H ys ws) (q1:Vals vs us) (q2:Vals ws ts) (e:oX f xs ys=some k):∀j (h1:j<us.toArray.size) (h2:j<ts.toArray.size),SeqAt.EqAt B s us.toArray[j] ts.toArray[j] (CI f xs ys j):=by
 intro j h1 h2;have l1:=r1.length;have l2:=r2.length;have l3:=q1.length;have l4:=q2.length;have hx:j<xs.length:=by simp at h1;lia
 have hy:j<ys.length:=by simp at h2;lia
 have e1:xs[j]?=some xs[j]:=aF hx;have e2:ys[j]?=some ys[j]:=aF hy;obtain⟨x,ex,ax⟩:=r1.get e1;obtain⟨y,ey,ay⟩:=r2.get e2;obtain⟨u,eu,ru⟩:=q1.get ex;obtain⟨t,et,rt⟩:=q2.get ey;have a1:us.toArray[j]=u:=by
  have:us[j]?=some us.toArray[j]:=by simp at h1;simp[h1]
  rw[eu]at this;exact(bh this).symm
 have a2:ts.toArray[j]=t:=by
  have:ts[j]?=some ts.toArray[j]:=by simp at h2;simp[h2]
  rw[et]at this;exact(bh this).symm
 rw[a1,a2];exact hf _ _ x y u t _ ax ay ru rt<|(AQ e).2 j _ _ e1 e2
def in1_units(B:az):B.in1.units=B.units+1:=rfl
theorem Lj(I:Inv X pins σ H s)(R:Rel X.K ρ H S):∀(n:Nat) (B:az) (a b:A) (x y:V) (u v:af) (k:Bool),B.units+n<cLine->AV X.K ρ H a x->AV X.K ρ H b y->RelV x u->RelV y v->qK S n a b=some k->Al B s u v k
 | 0,_,_,_,_,_,_,_,_,_,_,_,_,_,e=>nomatch e
 | n+1,B,a,b,x,y,u,v,k,hu,ha,hb,rx,ry,e=>by
  have hu0:B.units<cLine:=()
  have items:∀a b x y u v k,AV X.K ρ H a x->AV X.K ρ H b y->RelV x u->RelV y v->qK S n a b=some k->SeqAt.EqAt B.in1 s u v k:=λa b x y u v k h1 h2 h3 h4 h5=>(Lj I R n B.in1 a b x y u v k (by rw[in1_units];lia) h1 h2 h3 h4 h5).2.1;have same:=λ(z:y=x)=>Fb I R (n+1) a b x u k ha (z ▸ hb) rx e;have refs:∀{p q:ak},x=.ref p->y=.ref q->u=.ref p->v=.ref q->SeqAt.RcAt B s u v k->SeqAt.EqAt B s u v k:=λ{p q} z1 z2 z3 z4 h=>by
   subst z3 z4;by_cases hp:p=q
   ·subst hp;rw[same<|z2.trans z1.symm];exact .same _
   ·exact .of_refs hp h
  rcases Oo e with⟨i,j,xs,ys,rfl,rfl,e1,e2,e⟩|⟨h,h',e1,e2,e,_⟩
  ·obtain⟨p,rfl,h1⟩:=EF ha;obtain⟨q,rfl,h2⟩:=EF hb;obtain⟨vs,h3,r1⟩:=R.lst h1<|j0 e1;obtain⟨ws,h4,r2⟩:=R.lst h2<|j0 e2;obtain⟨us,q1,p1,_⟩:=I.list<|nJ.of h3;obtain⟨ts,q2,p2,_⟩:=I.list<|nJ.of h4;have ru:=refs rfl rfl rx ry
   cases(show u=Value.ref p from rx)
   cases(show v=Value.ref q from ry)
   have l1:=r1.length;have l2:=r2.length;have l3:=q1.length;have l4:=q2.length;have ek:=(AQ e).1;by_cases hl:xs.length=ys.length
   ·rw[<- hl,Nat.min_self,bV,Bool.and_true]at ek;have eh:us.toArray.size=ts.toArray.size:=by simp;lia
    have z1:=SeqAt.RcAt.lists p1.isList p2.isList eh hu0<|A0 items r1 r2 q1 q2 e;have z2:=SeqAt.RcNeAt.lists p1.isList p2.isList eh hu0<|A0 items r1 r2 q1 q2 e;rw[aX,<- l3,<- l1,<- ek]at z1 z2;exact⟨z1,ru z1,z2⟩
   ·have:(xs.length == ys.length)=false:=by simpa using hl
    rw[this,Bool.and_false]at ek;subst ek;have eh:(us.toArray.size != ts.toArray.size)=true:=by simp;lia
    have z1:=SeqAt.RcAt.lists_lengths p1.isList p2.isList eh hu0;exact⟨z1,ru z1,SeqAt.RcNeAt.lists_lengths p1.isList p2.isList eh hu0⟩
  ·rcases Kc h h' with⟨xs,ys,rfl,rfl⟩|nt
   ·obtain⟨rfl,p,vs,rfl,h3,r1⟩:=EW ha e1;obtain⟨rfl,q,ws,rfl,h4,r2⟩:=EW hb e2;have ru:=refs rfl rfl rx ry
    cases(show u=Value.ref p from rx)
    cases(show v=Value.ref q from ry)
    obtain⟨us,q1,p1,_⟩:=I.tuple<|nO.of h3;obtain⟨ts,q2,p2,_⟩:=I.tuple<|nO.of h4;have ek:=(AQ e).1;have z1:=SeqAt.RcAt.tuples p1 p2 hu0<|A0 items r1 r2 q1 q2 e;have z2:=SeqAt.RcNeAt.tuples p1 p2 hu0<|A0 items r1 r2 q1 q2 e;rw[aX,aX,<- q1.length,<- q2.length,<- r1.length,<- r2.length,<- ek]at z1 z2;exact⟨z1,ru z1,z2⟩
   ·exact aam hu0 (Ky I R ha rx e1) (Ky I R hb ry e2) nt e
end
section
variable {X:Cx}
abbrev wM (neg:Bool)(a b:A)(S:jM):R A:=opt (qK S 12 a b) λk=>.ok (.bl<|if neg then !k else k) S
def Yp(hu:X.A.units+64<cLine):pV X (compareOp .Eq) (r2 X<|wM false):=λpins s σ H x y v u Q I rx ry h9=>by
 x_go;obtain⟨k,e,h⟩:=jU h;exact(Lj I R 12 X.A a b x y v u k (by omega) va vb rx ry e).1 _ _ _ _ ⟨.bl _,H,I,rfl,h _ _ _ .refl R<|.bl _⟩
def CG(hu:X.A.units+64<cLine):pV X (compareOp .NotEq) (r2 X<|wM true):=λpins s σ H x y v u Q I rx ry h9=>by
 x_go;obtain⟨k,e,h⟩:=jU h;exact(Lj I R 12 X.A a b x y v u k () va vb rx ry e).2.2 _ _ _ _ ⟨.bl _,H,I,rfl,h _ _ _ .refl R<|.bl _⟩
end
section
variable {X:Cx}{pos:Pos}{a b:aC}
meta abbrev Pt:=ae->jM->R (bi)
abbrev wY:Pt:=λ_ S=>.ok none S
abbrev wQ (c:Ex):Pt:=λτ S=>(c τ S).bind λa S1=>match a with
 | .int i=>.ok (some i) S1
 | _=>.no
abbrev tO (X:Cx)(c:Pt):TO:=λσ H Q=>∃ρ S τ,Rel X.K ρ H S/\SR X.K ρ H τ σ/\(c τ S).post (λo S'=>∀ρ' H',Ext ρ ρ' H H'->Rel X.K ρ' H' S'->Q o H') (XE X ρ H)
abbrev AO (X:Cx)(e:Option aC)(c:Pt):Prop:=PO X e<|tO X c
def wz:AO X none wY:=λpins s σ H Q I ⟨ρ,S,τ,R,r,h⟩=>UL pins s σ H Q I<|h ρ H .refl R
def v8{c:Ex}(ha:AE X a c):AO X (some a) (wQ c):=λpins s σ H Q I ⟨ρ,S,τ,R,r,h⟩=>TQ ha pins s σ H Q I ⟨ρ,S,τ,R,r,jO (jS h) .refl λx S1 h1 ρ1 H1 v e1 R1 v1=>by
 cases v1<;>first|exact h1.elim|exact⟨_,rfl,h1 ρ1 H1 e1 R1⟩⟩
abbrev wJ (xs:ae)(lo hi:bi):ae:=(xs.drop<|HT.mY xs.length 0 lo).take<|HT.mY xs.length xs.length hi-HT.mY xs.length 0 lo
def AVs.cut{K:au}{H:Hp}(r:AVs K ρ H xs vs)(lo hi:bi):AVs K ρ H (wJ xs lo hi) (Gw vs lo hi):=by
 unfold wJ Gw;rw[r.length];exact(r.drop _).take _
abbrev Ni (a:A)(lo hi:bi)(S:jM):R A:=match a with
 | .ref n=>opt (jK S n) λxs=>.ok (.ref S.length) (S++[.lst<|wJ xs lo hi])
 | .frz xs=>.ok (.ref S.length) (S++[.lst<|wJ xs lo hi])
 | .tup xs=>gd (¬(HT.mY xs.length 0 lo=0/\HT.mY xs.length xs.length hi=xs.length)) (.ok (.tup<|wJ xs lo hi) S)
 | _=>.no
abbrev Zh (c:Ex)(lo hi:Pt):Ex:=λτ S=>(c τ S).bind λa S1=>(lo τ S1).bind λl S2=>(hi τ S2).bind λu S3=>Ni a l u S3
abbrev rS (X:Cx):V->bi->bi->Hp->VK->Prop:=λx lo hi H Q=>∃ρ S a,Rel X.K ρ H S/\AV X.K ρ H a x/\(Ni a lo hi S).post (CA X ρ H Q) (XE X ρ H)
def Wt:Zj X (rS X):=λpins s σ H x v vl vu lo hi sl Q I rx hs pl pu h9=>by
 obtain⟨ρ,S,a,R,va,h⟩:=h9
 cases va with
 | @tup p xs vs h1 r1=>
  obtain⟨hc,h⟩:=ki h;exact Nv pins s σ H _ v vl vu lo hi sl Q I rx hs pl pu ⟨p,vs,rfl,(nO.of h1),by rw[<- r1.length];exact hc,rY R (r1.cut lo hi) .refl h⟩
 | @frz p xs vs h1 r1=>exact Lu pins s σ H _ v vl vu lo hi sl Q I rx hs pl pu ⟨p,vs,rfl,h1.Sq,nY R (r1.cut lo hi) .refl h⟩
 | @ref p n hp=>
  gp_on;obtain⟨vs,h1,r1⟩:=R.lst hp<|j0 hn;exact Lu pins s σ H _ v vl vu lo hi sl Q I rx hs pl pu ⟨p,vs,rfl,nJ.of h1,nY R (r1.cut lo hi) .refl h⟩
 | _=>exact h.elim
def JU{e:aC}{lo:Option aC}{c:Ex}{cl ch:Pt}(he:AE X e c)(hl:AO X lo cl)(hh:AO X hi ch):AE X (.Subscript e (.Slice lo hi none p2) pos) (Zh c cl ch):=PE.imp (G9 Wt he hl hh) λσ H Q h9=>by
 room;refine⟨ρ,S,τ,R,r,jO (jS h) .refl λa S1 h1 ρ1 H1 x e1 R1 v1=>⟨ρ1,S1,τ,R1,r.ext e1,jO (jS h1) e1 λl S2 h2 ρ2 H2 e2 R2=>⟨ρ2,S2,τ,R2,r.ext<|e1.trans e2,jO (jS h2) (e1.trans e2) λu S3 h3 ρ3 H3 e3 R3=>?_⟩⟩⟩;exact⟨ρ3,S3,a,R3,v1.ext<|e2.trans e3,jO h3 (e1.trans<|e2.trans e3) λ_ _ z=>z.ext<|e1.trans<|e2.trans e3⟩
abbrev ZU (a:A)(S:jM):R A:=match a with
 | .ref n=>opt (jK S n) λxs=>.ok (.ref S.length) (S++[.lst xs.reverse])
 | .tup xs=>.ok (.tup xs.reverse) S
 | _=>.no
abbrev j9 (f:ae->jM->R A)(d:sW):Ex:=λτ S=>(d τ S).bind λas S1=>f as S1
def GJ{f:ae->jM->R A}{d:sW}{H:Hp}{Q:VK}(h:tE X (j9 f d) σ H Q):tCB (rN X f) (tL X d) σ H Q:=by
 kpc_g;exact⟨ρ,S,τ,R,r,jO (jS h) .refl λas S1 h1 ρ1 H1 vs e1 R1 v1=>⟨ρ1,S1,as,R1,v1,jO h1 e1 λ_ _ z=>z.ext e1⟩⟩
variable {x:Str}{p:Pos}{e:aC}{es:List aC}{id T:String}{f:ae->jM->R A}{d:sW}
def j7(hc:kF X (.builtin id)<|rN X f)(hm:X.mg x=none)(hv:bootBuiltins x=some (.builtin id))(ha:AL X (e::es) d)(hg:Gl X x:=by rfl)(hn:x ≠ "__name__" := by decide)(hdb:(x == ("__debug__" : Str))=false:=by decide)
  (he:starEach (e::es) X.env=(false,eval e X.env)::starEach es X.env:=by rfl) (hpl:(backTo pos<|starEach es X.env).any (·.1)=false:=by rfl):AE X (.Call (.Name x p) (e::es) [] pos) (j9 f d):=
 PE.imp (Ob hc hg hm hv ha hn hdb he hpl) λ_ _ _ h=>GJ h
def mT(hc:kF X (.type T)<|rN X f)(hm:X.mg x=none)(hv:bootBuiltins x=some (.type T))(ha:AL X (e::es) d)(hg:Gl X x:=by rfl)(hn:x ≠ "__name__" := by decide)(hdb:(x == ("__debug__" : Str))=false:=by decide)
  (he:starEach (e::es) X.env=(false,eval e X.env)::starEach es X.env:=by rfl) (hpl:(backTo pos<|starEach es X.env).any (·.1)=false:=by rfl):AE X (.Call (.Name x p) (e::es) [] pos) (j9 f d):=
 PE.imp (zw hc hg hm hv ha hn hdb he hpl) λ_ _ _ h=>GJ h
def x_(hm:X.mg x=none)(hv:bootBuiltins x=some (.type T))(hg:Gl X x:=by rfl)(hn:x ≠ "__name__" := by decide)(hdb:(x == ("__debug__" : Str))=false:=by decide):AE X (.Name x pos) (eC<|.ty T):=
 PE.imp (U6 (v:=.ty T) hg hm hv rfl hn hdb) λσ H Q ⟨ρ,S,τ,R,r,h⟩=>h ρ H _ .refl R<|.ty T
abbrev A.seq (S:jM):A->Option (ae)
 | .tup xs=>some xs
 | .frz xs=>some xs
 | .ref n=>jK S n
 | _=>none
def Hx{K:au}{H:Hp}{x:A}{v:V}(R:Rel K ρ H S)(h:AV K ρ H x v)(e:x.seq S=some xs):∃p vs,v=.ref p/\(nJ K H p vs\/nO K H p vs)/\AVs K ρ H xs vs:=by
 cases h with
 | tup h r=>cases bh e;exact⟨_,_,rfl,.inr<|nO.of h,r⟩
 | frz h r=>cases bh e;exact⟨_,_,rfl,.inl h.Sq,r⟩
 | ref h=>
  obtain⟨vs,h1,r1⟩:=R.lst h<|j0 e;exact⟨_,vs,rfl,.inl<|nJ.of h1,r1⟩
 | _=>cases e
def Oe{K:au}{H:Hp}{x:A}(h:AVs K ρ H [x] vs):∃v,vs=[v]/\AV K ρ H x v:=by
 cases h with
 | cons h t=>cases t;exact⟨_,rfl,h⟩
def Y4{K:au}{H:Hp}{x:A}(h:AVs K ρ H [x,y] vs):∃v w,vs=[v,w]/\AV K ρ H x v/\AV K ρ H y w:=by
 cases h with
 | cons h t=>obtain⟨w,rfl,h'⟩:=Oe t;exact⟨_,_,rfl,h,h'⟩
abbrev f1 (g:A->jM->R A):ae->jM->R A:=λas S=>match as with
 | [x]=>g x S
 | _=>.no
abbrev f2 (g:A->A->jM->R A):ae->jM->R A:=λas S=>match as with
 | [x,y]=>g x y S
 | _=>.no
def Ur{g:A->jM->R A}{P:A->jM->Prop}{E:Str->jM->Prop}(h:(f1 g as S).post P E):∃x,as=[x]/\(g x S).post P E:=by
 match as,h with
 | [],h=>exact h.elim
 | [x],h=>exact⟨x,rfl,h⟩
 | _::_::_,h=>exact h.elim
def TJ{g:A->A->jM->R A}{P:A->jM->Prop}{E:Str->jM->Prop}(h:(f2 g as S).post P E):∃x y,as=[x,y]/\(g x y S).post P E:=by
 match as,h with
 | [],h=>exact h.elim
 | [_],h=>exact h.elim
 | [x,y],h=>exact⟨x,y,rfl,h⟩
 | _::_::_::_,h=>exact h.elim
def Us{g:A->jM->R A}{H:Hp}{Q:VK}(h:rN X (f1 g) vs H Q):∃v,vs=[v]/\∃ρ S x,Rel X.K ρ H S/\AV X.K ρ H x v/\(g x S).post (CA X ρ H Q) (XE X ρ H):=by
 obtain⟨ρ,S,as,R,v,h⟩:=h;obtain⟨x,rfl,h⟩:=Ur h;obtain⟨w,rfl,hv⟩:=Oe v;exact⟨w,rfl,ρ,S,x,R,hv,h⟩
def rn2{g:A->A->jM->R A}{H:Hp}{Q:VK}(h:rN X (f2 g) vs H Q):∃v w,vs=[v,w]/\∃ρ S x y,Rel X.K ρ H S/\AV X.K ρ H x v/\AV X.K ρ H y w/\(g x y S).post (CA X ρ H Q) (XE X ρ H):=by
 obtain⟨ρ,S,as,R,v,h⟩:=h;obtain⟨x,y,rfl,h⟩:=TJ h;obtain⟨w,w',rfl,hv,hv'⟩:=Y4 v;exact⟨w,w',rfl,ρ,S,x,y,R,hv,hv',h⟩
abbrev qP (x:A)(S:jM):R A:=match x with
 | .str x=>gd (x.length<=sizeLine) (.ok (.int x.length) S)
 | .tup xs=>.ok (.int xs.length) S
 | .frz xs=>.ok (.int xs.length) S
 | .ref n=>opt (jK S n) λxs=>.ok (.int xs.length) S
 | _=>.no
def qF:kF X (.builtin "len") (rN X<|f1 qP):=kF.imp RP λvs H Q h0=>by
 gn_on;clear h0
 cases hv with
 | str z=>
  obtain⟨hz,h⟩:=ki h;exact⟨_,_,rfl,⟨hz,rfl⟩,h _ _ _ .refl R<|.int _⟩
 | @tup p xs us h1 r=>exact⟨_,us.length,rfl,.inr ⟨us,(nO.of h1),rfl⟩,by rw[<- r.length];exact h _ _ _ .refl R<|.int _⟩
 | @frz p xs us h1 r=>exact⟨_,us.length,rfl,.inl ⟨us,h1.Sq,rfl⟩,by rw[<- r.length];exact h _ _ _ .refl R<|.int _⟩
 | ref hp=>
  gp_on;obtain⟨us,h1,r⟩:=R.lst hp<|j0 hn;exact⟨_,us.length,rfl,.inl ⟨us,nJ.of h1,rfl⟩,by rw[<- r.length];exact h _ _ _ .refl R<|.int _⟩
 | _=>exact h.elim
abbrev abq (x:A)(S:jM):R A:=match x with
 | .int i=>.ok (.int<|if i<0 then -i else i) S
 | _=>.no
abbrev Sf (x y:A)(S:jM):R A:=match x,y with
 | .int i,.int j=>.ok (.int<|if j>i then j else i) S
 | _,_=>.no
def Xm(hc:X.calm=true):kF X (.builtin "max") (rN X<|f2 Sf):=kF.imp (MI hc) λvs H Q h0=>by
 obtain⟨w,w',rfl,ρ,S,x,y,R,hv,hv',h⟩:=rn2 h0;clear h0
 cases hv<;>first|exact h.elim|(cases hv'<;>first|exact h.elim|exact⟨_,_,rfl,h _ _ _ .refl R<|.int _⟩)
abbrev N4 (x y:A)(S:jM):R A:=match x,y with
 | .int i,.int j=>.ok (.int<|if j<i then j else i) S
 | _,_=>.no
def W2(hc:X.calm=true):kF X (.builtin "min") (rN X<|f2 N4):=kF.imp (M0 hc) λvs H Q h0=>by
 obtain⟨w,w',rfl,ρ,S,x,y,R,hv,hv',h⟩:=rn2 h0;clear h0
 cases hv<;>first|exact h.elim|(cases hv'<;>first|exact h.elim|exact⟨_,_,rfl,h _ _ _ .refl R<|.int _⟩)
abbrev J_ (x:A)(S:jM):R A:=match x with
 | .int i=>.ok (.int i) S
 | .bl k=>.ok (.int<|if k then 1 else 0) S
 | .str y=>opt (PySem.intText? y) λn=>gd (y.length<=640) (.ok (.int n) S)
 | _=>.no
def WI:kF X (.type "int") (rN X<|f1 J_):=λpins s σ H xs us Q I rv h0=>by
 gn_on;clear h0
 cases hv with
 | int i=>exact C7 pins s σ H _ us Q I rv (.inl ⟨i,rfl,h _ _ _ .refl R<|.int _⟩)
 | bl k=>exact C7 pins s σ H _ us Q I rv (.inr ⟨k,rfl,h _ _ _ .refl R<|.int _⟩)
 | str y=>
  obtain⟨n,hn,h⟩:=jU h;obtain⟨hl,h⟩:=ki h;exact MN pins s σ H _ us Q I rv ⟨y,n,rfl,hl,hn,h _ _ _ .refl R<|.int _⟩
 | _=>exact h.elim
abbrev AY (x y:A)(S:jM):R A:=match x,y with
 | .int i,.int j=>.ok (.rng i j) S
 | _,_=>.no
def Fy:kF X (.type "range") (rN X<|f2 AY):=kF.imp Ei λvs H Q h0=>by
 obtain⟨w,w',rfl,ρ,S,x,y,R,hv,hv',h⟩:=rn2 h0;clear h0
 cases hv with
 | int i=>
  cases hv' with
  | int j=>
   refine⟨i,j,rfl,λp hp=>?_⟩;obtain⟨ex,R'⟩:=R.im (u:=.rng i j) hp;exact h ρ _ _ ex R'<|.rng kZ
  | _=>exact h.elim
 | _=>exact h.elim
abbrev BW (i j:Int):Prop:=(-(2 ^ 62)<=i/\i<2 ^ 62/\-(2 ^ 62)<=j/\j<2 ^ 62)/\(j-i).toNat<=1000
instance (i j:Int):Decidable (BW i j):=by unfold BW;infer_instance
abbrev yv (x:A)(S:jM):R A:=match x with
 | .rng i j=>gd (BW i j) (.ok (.ref S.length)<|S++[.lst<|(kK i j).map .int])
 | .tup xs=>.ok (.ref S.length) (S++[.lst xs])
 | .frz xs=>.ok (.ref S.length) (S++[.lst xs])
 | .ref n=>opt (jK S n) λxs=>.ok (.ref S.length) (S++[.lst xs])
 | _=>.no
def Fg(hc:X.calm=true):kF X (.type "list") (rN X<|f1 yv):=λpins s σ H vs us Q I rx h0=>by
 gn_on;clear h0
 cases hv with
 | @rng p i j hp=>
  obtain⟨hc',h⟩:=ki h;exact CL hc pins s σ H _ us Q I rx ⟨p,i,j,rfl,hp,hc'.1,hc'.2,nY R (q_ _) .refl h⟩
 | @tup p xs vs h1 r=>exact uD pins s σ H _ us Q I rx ⟨p,vs,rfl,.inr<|nO.of h1,nY R r .refl h⟩
 | @frz p xs vs h1 r=>exact uD pins s σ H _ us Q I rx ⟨p,vs,rfl,.inl h1.Sq,nY R r .refl h⟩
 | @ref p n hp=>
  gp_on;obtain⟨vs,h1,r⟩:=R.lst hp<|j0 hn;exact uD pins s σ H _ us Q I rx ⟨p,vs,rfl,.inl<|nJ.of h1,nY R r .refl h⟩
 | _=>exact h.elim
abbrev ux (x:A)(S:jM):R A:=match x with
 | .rng i j=>gd (BW i j) (.ok (.tup<|(kK i j).map .int) S)
 | .tup xs=>.ok (.tup xs) S
 | .frz xs=>.ok (.tup xs) S
 | .ref n=>opt (jK S n) λxs=>.ok (.tup xs) S
 | _=>.no
def AJ(hc:X.calm=true):kF X (.type "tuple") (rN X<|f1 ux):=λpins s σ H vs us Q I rx h0=>by
 gn_on;clear h0
 cases hv with
 | @rng p i j hp=>
  obtain⟨hc',h⟩:=ki h;exact Cy hc pins s σ H _ us Q I rx ⟨p,i,j,rfl,hp,hc'.1,hc'.2,rY R (q_ _) .refl h⟩
 | @tup p xs vs h1 r=>exact sY pins s σ H _ us Q I rx ⟨p,vs,rfl,.inr ⟨(nO.of h1),h _ _ _ .refl R<|.tup h1 r⟩⟩
 | @frz p xs vs h1 r=>exact sY pins s σ H _ us Q I rx ⟨p,vs,rfl,.inl ⟨h1.Sq,rY R r .refl h⟩⟩
 | @ref p n hp=>
  gp_on;obtain⟨vs,h1,r⟩:=R.lst hp<|j0 hn;exact sY pins s σ H _ us Q I rx ⟨p,vs,rfl,.inl ⟨nJ.of h1,rY R r .refl h⟩⟩
 | _=>exact h.elim
abbrev A.Vd:ae->Option (List Bool)
 | []=>some []
 | .bl b::xs=>(A.Vd xs).map (b::·)
 | _=>none
theorem OE{K:au}{H:Hp}:∀{xs:ae}{vs:List V}{bs:List Bool},AVs K ρ H xs vs->A.Vd xs=some bs->vs=bs.map V.bl
 | _,_,_,.nil,e=>by cases e;rfl
 | x::xs,_,bs,.cons h t,e=>by
  cases x with
  | bl b=>
   obtain⟨cs,e1,rfl⟩:=aY.mp (show(A.Vd xs).map (b::·)=some bs from e)
   cases h
   rw[OE t e1];rfl
  | _=>cases e
abbrev YM (x:A)(S:jM):R A:=match x with
 | .ref n=>opt (jK S n) λxs=>opt (A.Vd xs) λbs=>.ok (.bl<|bs.all λb=>b) S
 | _=>.no
def aaW(hc:X.calm=true):kF X (.builtin "all") (rN X<|f1 YM):=kF.imp (ML hc) λvs H Q h0=>by
 gn_on;clear h0
 cases hv with
 | @ref p n hp=>
  gp_on;obtain⟨bs,hb,h⟩:=jU h;obtain⟨vs,h1,r⟩:=R.lst hp<|j0 hn;rw[OE r hb]at h1;exact⟨p,bs,rfl,nJ.of h1,h _ _ _ .refl R<|.bl _⟩
 | _=>exact h.elim
abbrev insI (x:Int):ag->ag
 | []=>[x]
 | y::ys=>if x<=y then x::y::ys else y::insI x ys
abbrev sortI:ag->ag
 | []=>[]
 | x::xs=>insI x<|sortI xs
theorem insI_perm(x:Int):∀ys:ag,(insI x ys).Perm (x::ys)
 | []=>eV _
 | y::ys=>by
  unfold insI;by_cases h:x<=y
  ·rw[aL h]
  ·rw[aJ h];exact((insI_perm x ys).cons y).trans (List.Perm.swap x y ys)
theorem sortI_perm:∀xs:ag,(sortI xs).Perm xs
 | []=>eV _
 | x::xs=>(insI_perm x<|sortI xs).trans<|(sortI_perm xs).cons x
theorem KW(x:Int):∀ys:ag,ys.Pairwise (·<=·)->(insI x ys).Pairwise (·<=·)
 | [],_=>cu _ _
 | y::ys,h=>by
  unfold insI;obtain⟨h1,h2⟩:=bQ.mp h;by_cases hx:x<=y
  ·rw[aL hx];exact bQ.mpr ⟨λz hz=>(bu.mp hz).elim (λe=>e ▸ hx) λhz=>Int.le_trans hx<|h1 z hz,h⟩
  ·rw[aJ hx];refine bQ.mpr ⟨λz hz=>?_,KW x ys h2⟩
   rcases bu.mp ((insI_perm x ys).mem_iff.mp hz)with e|hz
   ·subst e;lia
   ·exact h1 z hz
theorem tU:∀xs:ag,(sortI xs).Pairwise (·<=·)
 | []=>List.Pairwise.nil
 | x::xs=>KW x _<|tU xs
abbrev zl (x:A)(S:jM):R A:=opt (x.seq S) λxs=>opt (A.ints xs) λns=>gd (ns.length<64)<|.ok (.ref S.length)<|S++[.lst<|(sortI ns).map .int]
def Kz:kF X (.builtin "sorted") (rN X<|f1 zl):=kF.imp EY λvs H Q h0=>by
 gn_on;clear h0;gp_on;obtain⟨ns,hb,h⟩:=jU h;obtain⟨hl,h⟩:=ki h;obtain⟨p,us,rfl,hs,r⟩:=Hx R hv hn;rw[Ay r hb]at hs;refine⟨p,ns,rfl,hs,hl,λl ns' hl' hp hw=>?_⟩;have:ns'=sortI ns:=Kq (hp.trans (sortI_perm ns).symm) hw<|tU ns;rw[this];exact nY R (q_ _) .refl h l hl'
abbrev A.kd:A->jM->Option Kd
 | .non,_=>some .non
 | .bl _,_=>some .bl
 | .int _,_=>some .int
 | .str _,_=>some .str
 | .tup _,_=>some .tup
 | .ref n,S=>(jK S n).map λ_=>.lst
 | _,_=>none
def SQ{K:au}(k:Kd):PySem.W.kitOne K k.ty (.type "str")=some (decide<|k=.str):=by cases k<;>rfl
abbrev z_ (k:Kd)(c:String):bj:=if c = "int" then some (decide<|k=.int\/k=.bl)else if c = "bool" then some (decide<|k=.bl)else if c = "tuple" then some (decide<|k=.tup)else if c = "list" then some (decide<|k=.lst)else if c = "str" then some (decide<|k=.str)else none
def Lg{K:au}{k:Kd}{c:String}{b:Bool}(h:z_ k c=some b):PySem.W.kitOne K k.ty (.type c)=some b:=by
 unfold z_ at h;split at h
 ·rename_i e;subst e;rw[<- h];exact Vi k
 ·split at h
  ·rename_i e;subst e;rw[<- h];exact N2 k
  ·split at h
   ·rename_i e;subst e;rw[<- h];exact kit_tuple k
   ·split at h
    ·rename_i e;subst e;rw[<- h];exact RV k
    ·split at h
     ·rename_i e;subst e;rw[<- h];exact SQ k
     ·cases h
abbrev Bb (x y:A)(S:jM):R A:=match y with
 | .ty c=>opt (x.kd S) λk=>opt (z_ k c) λb=>.ok (.bl b) S
 | _=>.no
def aaB{K:au}{H:Hp}{x:A}{v:V}{k:Kd}(R:Rel K ρ H S)(h:AV K ρ H x v)(e:x.kd S=some k):(∃p vs,v=.ref p/\nO K H p vs/\k=.tup)\/W0 H v k:=by
 cases h with
 | non=>cases e;exact .inr rfl
 | bl b=>cases e;exact .inr ⟨b,rfl⟩
 | int i=>cases e;exact .inr ⟨i,rfl⟩
 | str i=>cases e;exact .inr ⟨i,rfl⟩
 | tup h r=>cases e;exact .inl ⟨_,_,rfl,(nO.of h),rfl⟩
 | ref h=>
  obtain⟨xs,e1,e2⟩:=aY.mp e;obtain⟨vs,h1,_⟩:=R.lst h (j0 e1)
  cases e2
  exact .inr ⟨_,vs,rfl,h1⟩
 | _=>cases e
def xN:kF X (.builtin "isinstance") (rN X<|f2 Bb):=λpins s σ H vs us Q I rx h0=>by
 obtain⟨w,w',rfl,ρ,S,x,y,R,hv,hv',h⟩:=rn2 h0;clear h0
 cases hv' with
 | ty c=>
  obtain⟨k,hk,h⟩:=jU h;obtain⟨b,hb,hq⟩:=jU h;have hq:CA X ρ H Q (.bl b) S:=hq;clear h
  rcases aaB R hv hk with⟨p,vs,rfl,ht,rfl⟩|hd
  ·obtain⟨u1,u2,rfl,r1,r2⟩:=vals2 rx;obtain⟨its,q,⟨o,h1,h2,_⟩,_⟩:=I.tuple ht
   cases(show _=Value.ref p from r1)
   cases(show _=Value.type c from r2)
   exact cY PySem.W.kitx_tuple I.Fj ⟨o,h1,h2⟩ (Lg hb) (λz=>nomatch z) λtk=>⟨.bl b,H,I.tok _,rfl,hq _ _ _ .refl R<|.bl _⟩
  ·exact Ge (c:=c) pins s σ H _ us Q I rx ⟨w,_,b,rfl,hd.abv,Lg hb,hq _ _ _ .refl R<|.bl _⟩
 | _=>exact h.elim
end
abbrev Eg (x:ag):List (ag)->List (ag)
 | []=>[x]
 | y::ys=>if HT.lexLt y x=true then y::Eg x ys else x::y::ys
abbrev mF:List (ag)->List (ag)
 | []=>[]
 | x::xs=>Eg x<|mF xs
abbrev Dr (a b:ag):Prop:=HT.lexLt b a=false
def Dr.trans{a c:ag}(h1:Dr a b)(h2:Dr b c):Dr a c:=by
 unfold Dr at *
 cases e:HT.lexLt c a with
 | false=>rfl
 | true=>
  rcases Sx.Ls (b:=b) e with z|z
  ·rw[h2]at z;cases z
  ·rw[h1]at z;cases z
theorem yQ(x:ag):∀ys:List<|ag,(Eg x ys).Perm (x::ys)
 | []=>eV _
 | y::ys=>by
  unfold Eg;by_cases h:HT.lexLt y x=true
  ·rw[aL h];exact((yQ x ys).cons y).trans (List.Perm.swap x y ys)
  ·rw[aJ h]
theorem kB:∀xs:List<|ag,(mF xs).Perm xs
 | []=>eV _
 | x::xs=>(yQ x<|mF xs).trans<|(kB xs).cons x
theorem LC(x:ag):∀ys:List<|ag,ys.Pairwise Dr->(Eg x ys).Pairwise Dr
 | [],_=>cu _ _
 | y::ys,h=>by
  unfold Eg;obtain⟨h1,h2⟩:=bQ.mp h;by_cases hx:HT.lexLt y x=true
  ·rw[aL hx];refine bQ.mpr ⟨λz hz=>?_,LC x ys h2⟩
   rcases bu.mp ((yQ x ys).mem_iff.mp hz)with e|hz
   ·subst e;unfold Dr
    cases e:HT.lexLt z y with
    | false=>rfl
    | true=>have:=Sx.BU hx e;rw[Sx.yr]at this;cases this
   ·exact h1 z hz
  ·rw[aJ hx];have hx':Dr x y:=by unfold Dr;simpa using hx
   exact bQ.mpr ⟨λz hz=>(bu.mp hz).elim (λe=>e ▸ hx') λhz=>hx'.trans<|h1 z hz,h⟩
theorem t8:∀xs:List<|ag,(mF xs).Pairwise Dr
 | []=>List.Pairwise.nil
 | x::xs=>LC x _<|t8 xs
def xy{xs:List<|ag}(p:xs.Perm ys)(h:xs.Pairwise Dr):xs=mF ys:=
 d8 (λa b _ _ h1 h2=>(Sx.yy h1 h2).symm) h (t8 ys) (p.trans (kB ys).symm)
theorem pig:∀(N:Nat) (l:am),l.Nodup->(∀x∈l,x<N)->l.length<=N
 | 0,l,_,h=>by
  cases l with
  | nil=>exact aO _
  | cons a l=>exact absurd (h a<|aM ..)<|e_ _
 | N+1,l,nd,h=>by
  have h1:=pig N (l.erase N) (nd.erase N) λx hx=>by
   have:=h x<|List.mem_of_mem_erase hx;have:x≠N:=λz=>by
    subst z;exact(List.Nodup.not_mem_erase nd) hx
   lia
  have:=List.le_length_erase (l:=l) (a:=N)
  lia
def xj{N:Nat}{g:Nat->Nat}(h:∀i,i<N->g i<N)(inj:∀i j,i<j->j<N->g i≠g j):((List.range N).map g).Perm (List.range N):=by
 have nd:((List.range N).map g).Nodup:=by
  unfold List.Nodup;rw[cA];intro i j hi hj hij;rw[aG,cF]at hi hj;rw[cZ,cZ,dZ,dZ];exact inj i j hij hj
 have lt:∀x∈(List.range N).map g,x<N:=λx hx=>by
  obtain⟨i,hi,rfl⟩:=br.mp hx;exact h i<|dD.mp hi
 refine(gq nd List.nodup_range).mpr λa=>⟨λha=>dD.mpr<|lt a ha,λha=>?_⟩;refine dj λhn=>?_;have:=pig N (a::(List.range N).map g) (dg.mpr ⟨hn,nd⟩) λx hx=>by
  rcases bu.mp hx with rfl|hx
  ·exact dD.mp ha
  ·exact lt x hx
 rw[bz,aG,cF]at this
 lia
def range_getD{α:Type}(l:List α)(d:α):(List.range l.length).map (λi=>l.getD i d)=l:=by
 apply cW;intro i;rw[aV];by_cases c:i<l.length
 ·rw[dS c];show some (l.getD i d)=_;rw[aI,aF c];rfl
 ·rw[b8<|by rw[cF];lia,b8 ()];rfl
def YW{kss:List<|ag}{g:Nat->Nat}(c:Sx.Cl g 0 kss.length)(so:Sx.So (Sx.N5 kss) g 0 kss.length):(List.range kss.length).map (λi=>kss.getD (g i) [])=mF kss:=by
 refine xy ?_ ?_
 ·have p:=xj (N:=kss.length) (g:=g) (λi hi=>(c i (bP _) hi).2) λi j hij hj z=>by
   have:=so i j (bP _) hij hj;rw[z]at this;exact this.Np
  have:=p.map λi=>kss.getD i [];rw[bD,range_getD]at this;exact this
 ·rw[cA];intro i j hi hj hij;rw[aG,cF]at hi hj;rw[cZ,cZ,dZ,dZ];exact(so i j (bP _) hij hj).ge
theorem Je{K:au}{H:Hp}{α:Type}{f:α->A}{h:α->V}:∀{l:List α},(∀a∈l,AV K ρ H (f a)<|h a)->AVs K ρ H (l.map f) (l.map h)
 | [],_=>.nil
 | a::l,e=>.cons (e a<|aM ..)<|Je λb hb=>e b<|aN _ hb
abbrev RS.post (r:RS)(N:ae->jM->Prop)(T:A->jM->Prop)(B C:ae->jM->Prop)(E:Str->jM->Prop):Prop:=match r with
 | .nx τ S=>N τ S
 | .rt a S=>T a S
 | .bk τ S=>B τ S
 | .ct τ S=>C τ S
 | .ex c S=>E c S
 | .no=>False
abbrev RS.of {α:Type}(r:R α)(f:α->jM->RS):RS:=match r with
 | .ok a S=>f a S
 | .ex c S=>.ex c S
 | .no=>.no
def of_post{α:Type}{r:R α}{f:α->jM->RS}{N B C:ae->jM->Prop}{T:A->jM->Prop}{E:Str->jM->Prop}(h:(RS.of r f).post N T B C E):r.post (λa S=>(f a S).post N T B C E) E:=by
 cases r<;>exact h
def RS.mono{r:RS}{N B C N' B' C':ae->jM->Prop}{T T':A->jM->Prop}{E E':Str->jM->Prop}(h:r.post N T B C E)(hn:∀τ S,N τ S->N' τ S)(ht:∀a S,T a S->T' a S)(hb:∀τ S,B τ S->B' τ S)(hc:∀τ S,C τ S->C' τ S)(he:∀c S,E c S->E' c S):r.post N' T' B' C' E':=by
 cases r with
 | nx τ S=>exact hn _ _ h
 | rt a S=>exact ht _ _ h
 | bk τ S=>exact hb _ _ h
 | ct τ S=>exact hc _ _ h
 | ex c S=>exact he _ _ h
 | no=>exact h.elim
abbrev Qx (X:Cx)(ρ:bb)(H:Hp)(N:L2.St->Hp->Prop):ae->jM->Prop:=λτ' S'=>∀ρ' H' σ',Ext ρ ρ' H H'->Rel X.K ρ' H' S'->SR X.K ρ' H' τ' σ'->N σ' H'
def Qx.ext{X:Cx}{H H':Hp}{N:L2.St->Hp->Prop}(h:Qx X ρ H N τ S)(e:Ext ρ ρ' H H'):Qx X ρ' H' N τ S:=λρ2 H2 σ2 e2=>h ρ2 H2 σ2<|e.trans e2
abbrev Ep (X:Cx)(ρ:bb)(H:Hp)(D:Ends)(r:RS):Prop:=r.post (Qx X ρ H D.nx) (CA X ρ H D.rt) (Qx X ρ H D.bk) (Qx X ρ H D.ct)<|XE X ρ H
def Ep.ext{X:Cx}{H H':Hp}{D:Ends}{r:RS}(h:Ep X ρ H D r)(e:Ext ρ ρ' H H'):Ep X ρ' H' D r:=RS.mono h (λ_ _ z=>z.ext e) (λ_ _ z=>z.ext e) (λ_ _ z=>z.ext e) (λ_ _ z=>z.ext e) λ_ _ z=>z.ext e
abbrev tS (X:Cx)(c:Sm):TS:=λD σ H=>∃ρ S τ,Rel X.K ρ H S/\SR X.K ρ H τ σ/\Ep X ρ H D (c τ S)
abbrev AS (X:Cx)(st:aE)(c:Sm):Prop:=PS X st<|tS X c
abbrev SE (X:Cx)(sts:List aE)(c:Sm):Prop:=EG X sts<|tS X c
abbrev tG (X:Cx)(g:Tg):TG:=λv σ H Q=>∃ρ S τ a,Rel X.K ρ H S/\SR X.K ρ H τ σ/\AV X.K ρ H a v/\(g a τ S).post (Qx X ρ H Q) (XE X ρ H)
abbrev AG (X:Cx)(e:aC)(g:Tg):Prop:=PG X e<|tG X g
meta abbrev Sl:=ae->ae->jM->R (ae)
abbrev tGs (X:Cx)(g:Sl):VA:=λvs σ H Q=>∃ρ S τ as,Rel X.K ρ H S/\SR X.K ρ H τ σ/\AVs X.K ρ H as vs/\(g as τ S).post (Qx X ρ H Q) (XE X ρ H)
abbrev AGs (X:Cx)(es:List aC)(g:Sl):Prop:=ZI X es<|tGs X g
section
variable {X:Cx}{pos:Pos}{a b e:aC}{st:aE}{rest:List aE}{c d:Sm}
def PS.imp{t t':TS}(h:PS X st t)(i:∀D σ H,t' D σ H->t D σ H):PS X st t':=λpins s σ H D I q=>h pins s σ H D I<|i D σ H q
def EG.imp{t t':TS}(h:EG X rest t)(i:∀D σ H,t' D σ H->t D σ H):EG X rest t':=λpins s σ H D I q=>h pins s σ H D I<|i D σ H q
def PG.imp{t t':TG}(h:PG X e t)(i:∀v σ H Q,t' v σ H Q->t v σ H Q):PG X e t':=λpins s σ H v u Q I r q=>h pins s σ H v u Q I r<|i _ _ _ _ q
abbrev kD (i:Nat):Tg:=λa τ S=>.ok (τ.set i a) S
def jY{i:Nat}{x:Str}(hN:X.N.Nodup)(hi:X.N[i]?=some x:=by rfl)(hx:Loc X.env.scope x:=by first|exact Or.inl rfl|exact Or.inr rfl)(hf:X.fn x=true\/X.env.scope.names.lookup x=some .local:=by first|exact .inl rfl|exact .inr rfl|assumption):AG X (.Name x pos) (kD i):=
 PG.imp (JQ hN hi hx hf) λv σ H Q ⟨ρ,S,τ,a,R,r,va,h⟩=>h ρ H _ .refl R<|r.set va
abbrev xB:Sl:=λas τ S=>match as with
 | []=>.ok τ S
 | _=>.no
abbrev oR (g:Tg)(gs:Sl):Sl:=λas τ S=>match as with
 | a::as=>(g a τ S).bind λτ1 S1=>gs as τ1 S1
 | []=>.no
def lE:AGs X [] xB:=λpins s σ H vs us Q I r ⟨ρ,S,τ,as,R,sr,va,h⟩=>U7 pins s σ H vs us Q I r (by
 cases va with
 | nil=>exact⟨rfl,h ρ H σ .refl R sr⟩
 | cons _ _=>exact h.elim)
def j4{g:Tg}{gs:Sl}(h1:AG X e g)(h2:AGs X es gs)(hs:(assignEach (e::es) X.env).map (·.2)=assign e X.env::(assignEach es X.env).map (·.2):=by rfl):AGs X (e::es) (oR g gs):=
 λpins s σ H vs us Q I r ⟨ρ,S,τ,as,R,sr,va,h⟩=>Q8 h1 h2 hs pins s σ H vs us Q I r (by
  cases va with
  | nil=>exact h.elim
  | cons ha hr=>exact⟨_,_,rfl,ρ,S,τ,_,R,sr,ha,jO (jS h) .refl λτ1 S1 h1 ρ1 H1 σ1 e1 R1 sr1=>⟨ρ1,S1,τ1,_,R1,sr1,hr.ext e1,jO h1 e1 λ_ _ z=>z.ext e1⟩⟩)
abbrev xD (n:Nat)(gs:Sl):Tg:=λa τ S=>match a with
 | .tup xs | .ktu xs=>gd (xs.length=n) (gs xs τ S)
 | _=>.no
def mK{k n:Nat}{gs:Sl}(hc:X.calm=true)(h:AGs X es gs)(hn:(assignEach es X.env).length=n:=by rfl)(hst:(assignEach es X.env).findIdx? (·.1)=none:=by rfl):AG X (.Tuple es k pos) (xD n gs):=
 PG.imp (WH hc h hn hst) λv σ H Q h9=>by
  obtain⟨ρ,S,τ,a,R,r,va,h⟩:=h9
  cases va with
  | tup h1 r1=>
   obtain⟨hl,h⟩:=ki h;exact⟨_,_,rfl,nO.of h1,by rw[<- r1.length];exact hl,ρ,S,τ,_,R,r,r1,h⟩
  | ktu h1 r1=>
   obtain⟨hl,h⟩:=ki h;exact⟨_,_,rfl,.inr h1,by rw[<- r1.length];exact hl,ρ,S,τ,_,R,r,r1,h⟩
  | _=>exact h.elim
abbrev G_ (o i v:A)(S:jM):R Unit:=match o,i with
 | .ref n,.int k=>opt (jK S n) λxs=>opt (DJ xs.length k) λj=>.ok Unit.unit (S.set n<|.lst<|xs.set j v)
 | _,_=>.no
abbrev rSt (X:Cx):Mp:=λo i v H Q=>∃ρ S ao ai av,Rel X.K ρ H S/\AV X.K ρ H ao o/\AV X.K ρ H ai i/\AV X.K ρ H av v/\(G_ ao ai av S).post (λ_ S'=>∀ρ' H',Ext ρ ρ' H H'->Rel X.K ρ' H' S'->Q H') (XE X ρ H)
def Sv:MS X (rSt X):=λpins s σ H o i v ov iv u Q I ro ri rv h9=>by
 obtain⟨ρ,S,ao,ai,av,R,h1,h2,h3,h⟩:=h9
 cases h1 with
 | @ref p n hp=>
  cases h2 with
  | int k=>
   gp_on;obtain⟨j,hj,h⟩:=jU h;obtain⟨vs,e,r⟩:=R.lst hp<|j0 hn;obtain⟨ex,R'⟩:=R.put hp (j0 hn)<|r.set h3 j;exact set_list pins s σ H _ _ v ov iv u Q I ro ri rv ⟨p,vs,k,j,rfl,rfl,e,by rw[<- r.length];exact hj,h _ _ ex R'⟩
  | _=>exact h.elim
 | _=>exact h.elim
abbrev YV (co ci:Ex):Tg:=λa τ S=>(co τ S).bind λo S1=>(ci τ S1).bind λi S2=>(G_ o i a S2).bind λ_ S3=>.ok τ S3
def A4{co ci:Ex}(ho:AE X o co)(hi:AE X i ci)
  (ha:∀v,assign (.Subscript o i pos) X.env v=(do
   let ov <- holding [v] (eval o X.env)
   let iv <- holding [v,ov] (eval i X.env)
   standAt pos
   holding [v,ov,iv] (setItem ov iv v)
   release [v,ov,iv] []):=by intro _;rfl):AG X (.Subscript o i pos) (YV co ci):=PG.imp (Ii ho hi Sv ha) λv σ H Q h9=>by
 obtain⟨ρ,S,τ,a,R,r,va,h⟩:=h9;kd_p;kcj_m;cb_eq
abbrev qM:Sm:=λτ S=>.nx τ S
abbrev kg (c d:Sm):Sm:=λτ S=>match c τ S with
 | .nx τ' S'=>d τ' S'
 | r=>r
def lC:SE X [] qM:=EG.imp Uo λD σ H ⟨ρ,S,τ,R,r,h⟩=>h ρ H σ .refl R r
def Vk{D:Ends}{H:Hp}(h:tS X (kg c d) D σ H):ZO (tS X c) (tS X d) D σ H:=by
 kpc_g;refine⟨ρ,S,τ,R,r,?_⟩;unfold kg at h
 cases hc:c τ S with
 | nx τ1 S1=>
  rw[hc]at h;exact λρ1 H1 σ1 e1 R1 r1=>⟨ρ1,S1,τ1,R1,r1,Ep.ext h e1⟩
 | rt a S1=>rw[hc]at h;exact h
 | bk τ1 S1=>rw[hc]at h;exact h
 | ct τ1 S1=>rw[hc]at h;exact h
 | ex x S1=>rw[hc]at h;exact h
 | no=>rw[hc]at h;exact h
def jL(h1:AS X st c)(h2:SE X rest d):SE X (st::rest) (kg c d):=EG.imp (Rj h1 h2) λD σ H h=>Vk h
def jQ(h1:AS X st c):SE X [st] c:=TR h1
abbrev Xp:Sm:=λτ S=>.bk τ S
abbrev ZD:Sm:=λτ S=>.ct τ S
abbrev p8 (e:Ex):Sm:=λτ S=>.of (e τ S) λ_ S1=>.nx τ S1
def ny{f:Ex}(he:AE X e f)(hs:swapsWith e none pos.line X.env=pure false:=by rfl):AS X (.Expr e pos) (p8 f):=PS.imp (Vc he hs) λD σ H ⟨ρ,S,τ,R,r,h⟩=>
 ⟨ρ,S,τ,R,r,jO (of_post h) .refl λa S1 h1 ρ1 H1 x e1 R1 v1=>h1 ρ1 H1 σ e1 R1<|r.ext e1⟩
abbrev lN (e:Ex):Sm:=λτ S=>.of (e τ S) λa S1=>.rt a S1
def j_{f:Ex}(he:AE X e f):AS X (.Return (some e) pos) (lN f):=PS.imp (YX he) λD σ H ⟨ρ,S,τ,R,r,h⟩=>⟨ρ,S,τ,R,r,jO (of_post h) .refl λa S1 h1=>h1⟩
abbrev aaL:Sm:=λτ S=>.rt .non S
abbrev Aj (t:Te)(c d:Sm):Sm:=λτ S=>.of (t τ S) λb S1=>match b with|true=>c τ S1|false=>d τ S1
def nX{t:Te}(ht:AT X e t)(ha:SE X ca c)(hb:SE X cb d):AS X (.If e ca cb pos) (Aj t c d):=PS.imp (aaH ht ha hb) λD σ H h9=>by
 room;refine⟨ρ,S,τ,R,r,jO (of_post h) .refl λb S1 h1 ρ1 H1 e1 R1=>?_⟩
 cases b with
 | true=>rw[aL rfl];exact⟨ρ1,S1,τ,R1,r.ext e1,Ep.ext h1 e1⟩
 | false=>rw[aJ bM];exact⟨ρ1,S1,τ,R1,r.ext e1,Ep.ext h1 e1⟩
abbrev kG (e:Ex)(g:Tg):Sm:=λτ S=>.of (e τ S) λa S1=>.of (g a τ S1) λτ' S2=>.nx τ' S2
def Ss{f:Ex}{g:Tg}{D:Ends}{H:Hp}(h:tS X (kG f g) D σ H):UR (tE X f) (tG X g) D σ H:=by
 kpc_g;exact⟨ρ,S,τ,R,r,jO (of_post h) .refl λa S1 h1 ρ1 H1 x e1 R1 v1=>⟨ρ1,S1,τ,a,R1,r.ext e1,v1,jO (of_post h1) e1 λτ2 S2 h2=>Qx.ext h2 e1⟩⟩
def qy{tg:aC}{f:Ex}{g:Tg}(he:AE X e f)(hg:AG X tg g)(hs:swapsWithSole [tg] e pos.line X.env=pure false:=by rfl)(hw:swappedStores [tg] e X.env=pure none:=by rfl)
  (h1:(assignEach [tg] X.env).map (·.2)=[assign tg X.env]:=by rfl):AS X (.Assign [tg] e pos) (kG f g):=PS.imp (XA he hg hs hw h1) λD σ H h=>Ss h
def kc{i:Nat}{x:Str}{f:Ex}(hN:X.N.Nodup)(he:AE X e f)(hi:X.N[i]?=some x:=by rfl)(hx:Loc X.env.scope x:=by first|exact Or.inl rfl|exact Or.inr rfl)(hs:swapsWith e (some<|.Name x pos') pos.line X.env=pure false:=by rfl)(hf:X.fn x=true\/X.env.scope.names.lookup x=some .local:=by first|exact .inl rfl|exact .inr rfl|assumption) :
  AS X (.Assign [.Name x pos'] e pos) (kG f<|kD i):=PS.imp (Xb hN hi hx he hs hf) λD σ H ⟨ρ,S,τ,R,r,h⟩=>
 ⟨ρ,S,τ,R,r,jO (of_post h) .refl λa S1 h1 ρ1 H1 x e1 R1 v1=>h1 ρ1 H1 _ e1 R1<|(r.ext e1).set v1⟩
abbrev abO (i j:Nat)(c:sW):Sm:=λτ S=>.of (c τ S) λas S1=>match as with
 | [a,b]=>.nx ((τ.set i a).set j b) S1
 | _=>.no
abbrev abB (a b:A)(S:jM):R A:=match a,b with
 | .int i,.int j=>.ok (.int<|i+j) S
 | _,_=>.no
abbrev aaA (i:Nat)(f:A->A->jM->R A)(e:Ex):Sm:=λτ S=>if (τ.getD i .unb).qX then .no else .of (e τ S) λb S1=>.of (f (τ.getD i .unb) b S1) λc S2=>.nx (τ.set i c) S2
abbrev Ud (a b:A)(S:jM):R A:=match a,b with
 | .ref n,.int i=>opt (jK S n) λxs=>gd (0<=i) (opt (xs[i.toNat]?) λx=>.ok x S)
 | _,_=>.no
abbrev aaN (co ci ce:Ex)(f:A->A->jM->R A):Sm:=λτ S=>.of (co τ S) λo S1=>.of (ci τ S1) λi S2=>.of (Ud o i S2) λx S3=>.of (ce τ S3) λy S4=>.of (f x y S4) λz S5=>.of (G_ o i z S5) λ_ S6=>.nx τ S6
abbrev nL (t:Te)(c:Sm):Nat->Sm
 | 0=>λ_ _=>.no
 | n+1=>λτ S=>.of (t τ S) λb S1=>match b with
  | false=>.nx τ S1
  | true=>match c τ S1 with
   | .nx τ' S'=>nL t c n τ' S'
   | .ct τ' S'=>nL t c n τ' S'
   | .bk τ' S'=>.nx τ' S'
   | r=>r
def Be(n:Nat){t:Te}(hp:PassesOwn (model X.prog X.w) X.A X.env X.xe)(ht:AT X e t)(hb:SE X body c):AS X (.While e body [] pos) (nL t c n):=PS.imp (NO hp ht hb) λD σ H h9=>by
 room;refine⟨λm σ' H'=>∃ρ' S' τ',Ext ρ ρ' H H'/\Rel X.K ρ' H' S'/\SR X.K ρ' H' τ' σ'/\Ep X ρ' H' D (nL t c m τ' S'),⟨n,ρ,S,τ,.refl,R,r,h⟩,?_⟩;rintro m σ1 H1 ⟨ρ1,S1,τ1,e1,R1,r1,h1⟩
 cases m with
 | zero=>exact h1.elim
 | succ m=>
  refine⟨ρ1,S1,τ1,R1,r1,jO (of_post h1) .refl λb S2 h2 ρ2 H2 e2 R2=>?_⟩
  cases b with
  | false=>rw[aJ bM];exact h2 ρ2 H2 σ1 e2 R2 (r1.ext e2)
  | true=>
   rw[aL rfl];refine⟨λσ' H'=>∃ρ' S' τ',Ext ρ ρ' H H'/\Rel X.K ρ' H' S'/\SR X.K ρ' H' τ' σ'/\Ep X ρ' H' D (nL t c m τ' S'),λσ' H' z=>⟨m,fO _,z⟩,ρ2,S2,τ1,R2,r1.ext e2,?_⟩;have h2:Ep X ρ1 H1 D (match c τ1 S2 with
    | .nx τ' S'=>nL t c m τ' S'
    | .ct τ' S'=>nL t c m τ' S'
    | .bk τ' S'=>.nx τ' S'
    | r=>r):=h2
   cases hc:c τ1 S2 with
   | nx τ3 S3=>rw[hc]at h2;exact λρ3 H3 σ3 e3 R3 r3=>⟨ρ3,S3,τ3,(e1.trans e2).trans e3,R3,r3,Ep.ext h2<|e2.trans e3⟩
   | ct τ3 S3=>rw[hc]at h2;exact λρ3 H3 σ3 e3 R3 r3=>⟨ρ3,S3,τ3,(e1.trans e2).trans e3,R3,r3,Ep.ext h2<|e2.trans e3⟩
   | bk τ3 S3=>rw[hc]at h2;exact Qx.ext h2 e2
   | rt a S3=>rw[hc]at h2;exact CA.ext h2 e2
   | ex x S3=>rw[hc]at h2;exact XE.ext h2 e2
   | no=>rw[hc]at h2;exact h2
end
structure Src where
 k:Nat
 get:Nat->jM->Option A
 fin:jM->Bool
structure JR (K:au)(s:Src)(J:It)(ρ0:bb)(H0:Hp):Prop where
 go:∀(i:Nat) (S:jM) (H:Hp) (ρ:bb) (x:A),Ext0 ρ0 ρ H0 H->Rel K ρ H S->s.get i S=some x->J.go i H/\∀v H',J.yld i H v H'->Ext ρ ρ H H'/\Rel K ρ H' S/\AV K ρ H' x v
 stop:∀(S:jM) (H:Hp) (ρ:bb),Ext0 ρ0 ρ H0 H->Rel K ρ H S->s.fin S=true->J.stop s.k H
meta abbrev Ic:=ae->jM->R Src
abbrev tI (X:Cx)(c:Ic):TI:=λσ H Q=>∃ρ S τ,Rel X.K ρ H S/\SR X.K ρ H τ σ/\(c τ S).post (λs S'=>∀ρ' H' J,Ext ρ ρ' H H'->Rel X.K ρ' H' S'->JR X.K s J ρ' H'->Q J H') (XE X ρ H)
abbrev AI (X:Cx)(tg iter:aC)(c:Ic):Prop:=PI X tg iter<|tI X c
abbrev uA (xs:ae):Src:=⟨xs.length,λi _=>xs[i]?,λ_=>true⟩
abbrev kY (n k:Nat):Src:=⟨k,λi S=>(jK S n).bind (·[i]?),λS=>match jK S n with
 | some ys=>decide (ys.length<=k)
 | none=>false⟩
abbrev vh (lo hi:Int):Src:=⟨(hi-lo).toNat,λi _=>if i<(hi-lo).toNat then some (.int<|lo+i)else none,λ_=>true⟩
abbrev mH (c:Ex):Ic:=λτ S=>(c τ S).bind λa S1=>match a with
 | .tup xs=>.ok (uA xs) S1
 | .frz xs=>.ok (uA xs) S1
 | .ref n=>opt (jK S1 n) λxs=>.ok (kY n xs.length) S1
 | .str x=>gd (x.cps.all (· < 128)=true) (.ok (uA<|x.cps.toList.map λc=>.str ⟨#[c]⟩) S1)
 | _=>.no
section
variable {X:Cx}{pos:Pos}{tg e a b:aC}
def WN{K:au}{H0:Hp}{p:ak}(h:nO K H0 p vs)(r:AVs K ρ0 H0 xs vs):JR K (uA xs) (Zg K p) ρ0 H0 where
 go:=λi S H ρ x e R g=>by
  obtain⟨v,ev,av⟩:=(AVs.m9 e r).get g;have hs:=e.sqT h;refine⟨⟨vs,v,hs,ev⟩,λw H' ⟨e1,y⟩=>?_⟩;subst e1;have:=y vs hs;rw[ev]at this
  cases this
  exact⟨.refl,R,av⟩
 stop:=λS H ρ e R _=>⟨vs,e.sqT h,by rw[<- r.length];exact aO _⟩
def WT{K:au}{H0:Hp}{p:ak}(h:Fz K H0 p vs)(r:AVs K ρ0 H0 xs vs):JR K (uA xs) (Itl K p) ρ0 H0 where
 go:=λi S H ρ x e R g=>by
  obtain⟨v,ev,av⟩:=(AVs.m9 e r).get g;have hs:=(e.fz h).Sq;refine⟨⟨vs,v,hs,ev⟩,λw H' ⟨e1,y⟩=>?_⟩;subst e1;have:=y vs hs;rw[ev]at this
  cases this
  exact⟨.refl,R,av⟩
 stop:=λS H ρ e R _=>⟨vs,(e.fz h).Sq,by rw[<- r.length];exact aO _⟩
def Xd{K:au}{ρ0:bb}{H0:Hp}{p:ak}{n k:Nat}(h:ρ0[n]?=some p):JR K (kY n k) (Itl K p) ρ0 H0 where
 go:=λi S H ρ x e R g=>by
  obtain⟨ys,hn,hx⟩:=bX.mp<|show(jK S n).bind (·[i]?)=some x from g;obtain⟨vs,h1,r⟩:=R.lst (e.get h)<|j0 hn;obtain⟨v,ev,av⟩:=r.get hx;refine⟨⟨vs,v,nJ.of h1,ev⟩,λw H' ⟨e1,y⟩=>?_⟩;subst e1;have:=y vs<|nJ.of h1;rw[ev]at this
  cases this
  exact⟨.refl,R,av⟩
 stop:=λS H ρ e R g=>by
  have g:(match jK S n with
   | some ys=>decide (ys.length<=k)
   | none=>false)=true:=g
  cases hn:jK S n with
  | none=>rw[hn]at g;cases g
  | some ys=>
   rw[hn]at g;obtain⟨vs,h1,r⟩:=R.lst (e.get h)<|j0 hn;exact⟨vs,nJ.of h1,by rw[<- r.length];exact bO g⟩
def Qw{K:au}{H0:Hp}{lo hi:Int}:JR K (vh lo hi) (Zm lo (hi-lo).toNat) ρ0 H0 where
 go:=λi S H ρ x e R g=>by
  have g:(if i<(hi-lo).toNat then some (A.int<|lo+i)else none)=some x:=g;by_cases hi':i<(hi-lo).toNat
  ·rw[aL hi']at g
   cases g
   refine⟨hi',λw H' ⟨e1,y⟩=>?_⟩;subst e1 y;exact⟨.refl,R,.int _⟩
  ·rw[aJ hi']at g;cases g
 stop:=λS H ρ e R _=>aO _
def Xi{K:au}{H0:Hp}{x:Str}:JR K (uA<|x.cps.toList.map λc=>A.str ⟨#[c]⟩) (Its x) ρ0 H0 where
 go:=λi S H ρ y e R g=>by
  have g:(x.cps.toList.map λc=>A.str ⟨#[c]⟩)[i]?=some y:=g;rw[aV]at g;obtain⟨c,hc,rfl⟩:=aY.mp g;rw[dU]at hc;refine⟨(Array.getElem?_eq_some_iff.mp hc).1,λw H' ⟨e1,c',hc',y'⟩=>?_⟩;rw[hc]at hc'
  cases hc'
  subst e1 y';exact⟨.refl,R,.str _⟩
 stop:=λS H ρ e R _=>by
  show(x.cps.toList.map λc=>A.str ⟨#[c]⟩).length=x.cps.size;rw[aG,dR]
def lG{c:Ex}(he:AE X e c):AI X tg e (mH c):=λpins s σ H Q I h9=>by
 room;have hb:=jS h
 cases hc:c τ S with
 | no=>rw[hc]at hb;exact hb.elim
 | ex x S1=>
  rw[hc]at hb;exact Rt he pins s σ H Q I ⟨ρ,S,τ,R,r,by rw[hc];exact hb⟩
 | ok a S1=>
  rw[hc]at hb
  cases a with
  | tup xs=>
   refine Rt he pins s σ H Q I ⟨ρ,S,τ,R,r,?_⟩;rw[hc];intro ρ1 H1 x e1 R1 v1
   cases v1 with
   | tup h1 r1=>exact⟨_,rfl,⟨_,(nO.of h1)⟩,hb ρ1 H1 _ e1 R1<|WN (nO.of h1) r1⟩
  | frz xs=>
   refine KQ he pins s σ H Q I ⟨ρ,S,τ,R,r,?_⟩;rw[hc];intro ρ1 H1 x e1 R1 v1
   cases v1 with
   | frz h1 r1=>exact⟨_,rfl,⟨_,h1.Sq⟩,hb ρ1 H1 _ e1 R1<|WT h1 r1⟩
  | ref n=>
   obtain⟨xs,hn,hb⟩:=jU hb;refine KQ he pins s σ H Q I ⟨ρ,S,τ,R,r,?_⟩;rw[hc];intro ρ1 H1 x e1 R1 v1
   cases v1 with
   | ref hp=>
    obtain⟨vs,h1,r1⟩:=R1.lst hp<|j0 hn;exact⟨_,rfl,⟨_,nJ.of h1⟩,hb ρ1 H1 _ e1 R1<|Xd hp⟩
  | str x=>
   obtain⟨ha,hb⟩:=ki hb;refine Xg he pins s σ H Q I ⟨ρ,S,τ,R,r,?_⟩;rw[hc];intro ρ1 H1 v e1 R1 v1
   cases v1 with
   | str=>exact⟨x,rfl,ha,hb ρ1 H1 _ e1 R1 Xi⟩
  | _=>exact hb.elim
abbrev bnd (i:Int):Prop:=-(2 ^ 62)<=i/\i<2 ^ 62
instance (i:Int):Decidable (bnd i):=by unfold bnd;infer_instance
abbrev yw (c:Ex):Ic:=λτ S=>(c τ S).bind λa S1=>match a with
 | .int j=>gd (bnd j) (.ok (vh 0 j) S1)
 | _=>.no
abbrev sj (c d:Ex):Ic:=λτ S=>(c τ S).bind λa S1=>(d τ S1).bind λb S2=>match a,b with
 | .int i,.int j=>gd (bnd i/\bnd j) (.ok (vh i j) S2)
 | _,_=>.no
def y9{p:Pos}{c:Ex}(hm:X.mg "range" = none)(ha:AE X a c)(hg:Gl X "range" := by rfl)(hs:starEach [a] X.env=[(false,eval a X.env)]:=by rfl):AI X tg (.Call (.Name "range" p) [a] [] pos) (yw c):=λpins s σ H Q I h9=>by
 room;refine MG hg hm (n6 ha vc hs) hs pins s σ H Q I ⟨ρ,S,τ,R,r,jO (jS h) .refl λx S1 h1 ρ1 H1 v e1 R1 v1=>?_⟩
 cases v1 with
 | int j=>
  obtain⟨hb,h1⟩:=ki h1;exact⟨_,rfl,hb.1,hb.2,by have:=h1 ρ1 H1 _ e1 R1 Qw;rwa [Int.sub_zero]at this⟩
 | _=>exact h1.elim
def tP{p:Pos}{c d:Ex}(hm:X.mg "range" = none)(ha:AE X a c)(hb:AE X b d)(hg:Gl X "range" := by rfl)(hs:starEach [a,b] X.env=[(false,eval a X.env),(false,eval b X.env)]:=by rfl)(hs2:starEach [b] X.env=[(false,eval b X.env)]:=by rfl):AI X tg (.Call (.Name "range" p) [a,b] [] pos) (sj c d):=λpins s σ H Q I h9=>by
 room;refine M5 hg hm (n6 ha (n6 hb vc hs2)<|by rw[hs,hs2]) hs hs2 pins s σ H Q I ⟨ρ,S,τ,R,r,jO (jS h) .refl λx S1 h1 ρ1 H1 v e1 R1 v1=>⟨ρ1,S1,τ,R1,r.ext e1,jO (jS h1) e1 λy S2 h2 ρ2 H2 w e2 R2 v2=>?_⟩⟩
 cases v1 with
 | int i=>
  cases v2 with
  | int j=>
   obtain⟨hb,h2⟩:=ki h2;exact⟨_,_,rfl,⟨hb.1.1,hb.1.2,hb.2.1,hb.2.2⟩,h2 ρ2 H2 _ (e1.trans e2) R2 Qw⟩
  | _=>exact h2.elim
 | _=>exact h2.elim
abbrev GV (xs:ae):Src:=⟨xs.length,λi _=>(xs[i]?).map λx=>.tup [.int i,x],λ_=>true⟩
abbrev TV (c:Ex):Ic:=λτ S=>(c τ S).bind λa S1=>match a with
 | .tup xs=>.ok (GV xs) S1
 | _=>.no
def Xu{K:au}{H0:Hp}{p:ak}(h:nO K H0 p vs)(r:AVs K ρ0 H0 xs vs):JR K (GV xs) (Ite K p) ρ0 H0 where
 go:=λi S H ρ x e R g=>by
  obtain⟨y,hy,rfl⟩:=aY.mp<|show(xs[i]?).map (λx=>A.tup [.int i,x])=some x from g;obtain⟨v,ev,av⟩:=(AVs.m9 e r).get hy;have hs:=e.sqT h;refine⟨⟨vs,v,hs,ev⟩,λw H' q=>?_⟩;obtain⟨pp,hp,rfl,hz⟩:=q;have hz':=hz vs v hs ev;subst hz';obtain⟨ex,R'⟩:=R.im (u:=.tup [.int i,v]) hp;exact⟨ex,R',.tup kZ<|.cons (.int _)<|.cons (av.ext ex) .nil⟩
 stop:=λS H ρ e R _=>⟨vs,e.sqT h,by rw[<- r.length];rfl⟩
def XD{p:Pos}{c:Ex}(hm:X.mg "enumerate" = none)(ha:AE X a c)(hg:Gl X "enumerate" := by rfl)(hs:starEach [a] X.env=[(false,eval a X.env)]:=by rfl):AI X (.Tuple elts x1 tpos) (.Call (.Name "enumerate" p) [a] [] pos) (TV c):=λpins s σ H Q I h9=>by
 room;refine PN hg hm (n6 ha vc hs) hs pins s σ H Q I ⟨ρ,S,τ,R,r,jO (jS h) .refl λx S1 h1 ρ1 H1 v e1 R1 v1=>?_⟩
 cases v1 with
 | tup h2 r2=>exact⟨_,_,rfl,(nO.of h2),h1 ρ1 H1 _ e1 R1<|Xu (nO.of h2) r2⟩
 | _=>exact h1.elim
abbrev se (s:Src)(g:Tg)(c:Sm):Nat->Nat->Sm
 | 0,_=>λτ S=>if s.fin S then .nx τ S else .no
 | k+1,i=>λτ S=>match s.get i S with
  | none=>.no
  | some x=>.of (g x τ S) λτ1 S1=>match c τ1 S1 with
   | .nx τ' S'=>se s g c k (i+1) τ' S'
   | .ct τ' S'=>se s g c k (i+1) τ' S'
   | .bk τ' S'=>.nx τ' S'
   | r=>r
abbrev kX (src:Ic)(g:Tg)(c:Sm):Sm:=λτ S=>.of (src τ S) λs S1=>se s g c s.k 0 τ S1
def l7{iter:aC}{src:Ic}{g:Tg}{c:Sm}(hp:PassesOwn (model X.prog X.w) X.A X.env X.xe)(hc:X.calm=true)(hi:AI X tg iter src)(hg:AG X tg g)(hb:SE X body c)
  (hs:∀x,foldedSetIterable iter X.env x=pure x:=by intro _;rfl):AS X (.For tg iter body [] pos) (kX src g c):=PS.imp (WL hp hc hi hg hb hs) λD σ H h9=>by
 room;refine⟨ρ,S,τ,R,r,jO (of_post h) .refl λs S1 h1 ρ1 H1 J e1 R1 jr=>?_⟩;refine⟨λi m σ' H'=>m+i=s.k/\∃ρ' S' τ',Ext ρ1 ρ' H1 H'/\Rel X.K ρ' H' S'/\SR X.K ρ' H' τ' σ'/\Ep X ρ' H' D (se s g c m i τ' S'),⟨s.k,rfl,ρ1,S1,τ,.refl,R1,r.ext e1,Ep.ext h1 e1⟩,?_⟩;rintro i m σ2 H2 ⟨hm,ρ2,S2,τ2,e2,R2,r2,h2⟩
 cases m with
 | zero=>
  left;have h2:Ep X ρ2 H2 D (if s.fin S2 then .nx τ2 S2 else .no):=h2
  cases hf:s.fin S2 with
  | false=>rw[hf]at h2;exact h2.elim
  | true=>
   rw[hf]at h2;refine⟨by rw[show i=s.k by lia];exact jr.stop S2 H2 ρ2 e2.toExt0 R2 hf,h2 ρ2 H2 σ2 .refl R2 r2⟩
 | succ m=>
  right;have h2:Ep X ρ2 H2 D (match s.get i S2 with
   | none=>.no
   | some x=>.of (g x τ2 S2) λτ1 S1=>match c τ1 S1 with
    | .nx τ' S'=>se s g c m (i+1) τ' S'
    | .ct τ' S'=>se s g c m (i+1) τ' S'
    | .bk τ' S'=>.nx τ' S'
    | r=>r):=h2
  cases hx:s.get i S2 with
  | none=>rw[hx]at h2;exact h2.elim
  | some x=>
   rw[hx]at h2;obtain⟨hgo,hy⟩:=jr.go i S2 H2 ρ2 x e2.toExt0 R2 hx;refine⟨hgo,λσ' H'=>m+(i+1)=s.k/\∃ρ' S' τ',Ext ρ1 ρ' H1 H'/\Rel X.K ρ' H' S'/\SR X.K ρ' H' τ' σ'/\Ep X ρ' H' D (se s g c m (i+1) τ' S'),λσ' H' z=>⟨m,fO _,z⟩,λv H3 y=>?_⟩;obtain⟨e3,R3,v3⟩:=hy v H3 y;refine⟨ρ2,S2,τ2,x,R3,r2.ext e3,v3,jO (of_post h2) e3 λτ4 S4 h4 ρ4 H4 σ4 e4 R4 r4=>⟨ρ4,S4,τ4,R4,r4,?_⟩⟩;have e24:=e3.trans e4
   cases hcc:c τ4 S4 with
   | nx τ5 S5=>rw[hcc]at h4;exact λρ5 H5 σ5 e5 R5 r5=>⟨(),ρ5,S5,τ5,(e2.trans e24).trans e5,R5,r5,Ep.ext h4<|e24.trans e5⟩
   | ct τ5 S5=>rw[hcc]at h4;exact λρ5 H5 σ5 e5 R5 r5=>⟨(),ρ5,S5,τ5,(e2.trans e24).trans e5,R5,r5,Ep.ext h4<|e24.trans e5⟩
   | bk τ5 S5=>rw[hcc]at h4;exact Qx.ext h4 e24
   | rt x5 S5=>rw[hcc]at h4;exact CA.ext h4 e24
   | ex x5 S5=>rw[hcc]at h4;exact XE.ext h4 e24
   | no=>rw[hcc]at h4;exact h4
end
abbrev R.uS {α β:Type}(r:R α)(f:α->jM->R β):R β:=match r with
 | .ok a S=>f a S
 | _=>.no
def xT{α β:Type}{r:R α}{f:α->jM->R β}{b:β}(h:r.uS f=.ok b S2):∃a S,r=.ok a S/\f a S=.ok b S2:=by
 cases r with
 | ok a S=>exact⟨a,S,rfl,h⟩
 | ex _ _=>cases h
 | no=>cases h
def Ja{α β:Type}{r:R α}{f:α->jM->R β}{P:β->jM->Prop}{E:Str->jM->Prop}(h:(r.uS f).post P E):∃a S,r=.ok a S/\(f a S).post P E:=by
 cases r with
 | ok a S=>exact⟨a,S,rfl,h⟩
 | ex _ _=>exact h.elim
 | no=>exact h.elim
def WU{α β:Type}{o:Option β}{f:β->R α}{a:α}(h:opt o f=.ok a S):∃b,o=some b/\f b=.ok a S:=by
 cases o with
 | none=>cases h
 | some b=>exact⟨b,rfl,h⟩
abbrev nH (s:Src)(g:Tg)(t:Te)(e:Ex):Nat->Nat->ae->jM->R (ae)
 | 0,_=>λ_ S=>if s.fin S then .ok [] S else .no
 | k+1,i=>λτ S=>opt (s.get i S) λx=>(g x τ S).uS λτ1 S1=>(t τ1 S1).uS λb S2=>match b with
  | true=>(e τ1 S2).uS λy S3=>(nH s g t e k (i+1) τ1 S3).uS λys S4=>.ok (y::ys) S4
  | false=>nH s g t e k (i+1) τ1 S2
abbrev mO (cap:List<|bn)(τ:ae):ae:=cap.map λo=>match o with
 | some j=>τ.getD j .unb
 | none=>.unb
abbrev kJ (cap:List<|bn)(src:Ic)(g:Tg)(t:Te)(e:Ex):Ex:=λτ S=>(src τ S).bind λs S1=>(nH s g t e s.k 0 (mO cap τ) S1).uS λys S2=>newL ys S2
abbrev xC:Te:=λ_ S=>.ok true S
def GX{s:Src}{g:Tg}{t:Te}{e:Ex}{k:Nat}{T:Prop}(h:nH s g t e (k+1) i τ S=.ok zs S')
  (q:∀x τ1 S1 b S2,s.get i S=some x->g x τ S=.ok τ1 S1->t τ1 S1=.ok b S2->(b=true->∃y S3 ws,e τ1 S2=.ok y S3/\nH s g t e k (i+1) τ1 S3=.ok ws S'/\zs=y::ws)->(b=false->nH s g t e k (i+1) τ1 S2=.ok zs S')->T):T:=by
 obtain⟨x,hx,h⟩:=WU h;obtain⟨τ1,S1,h1,h⟩:=xT h;obtain⟨b,S2,h2,h⟩:=xT h;refine q x τ1 S1 b S2 hx h1 h2 (λhb=>?_) λhb=>?_
 ·subst hb;obtain⟨y,S3,h3,h⟩:=xT h;obtain⟨ws,S4,h4,h⟩:=xT h
  cases h
  exact⟨y,S3,ws,h3,h4,rfl⟩
 ·subst hb;exact h
structure Out (ρ1:bb)(H1:Hp)(D:ak)(accV:List V)(ρ:bb)(H:Hp):Prop where
 e0:Ext0 ρ1 ρ H1 H
 fr:∀a u,a≠D->H1 a=some u->a∉ρ1->H a=some u
 nw:∀a∈ρ,a∈ρ1\/H1 a=none
 nD:D∉ρ
 hD:H D=some (.lst accV)
def Out.stay{H1 H3 H7:Hp}{D:ak}(o:Out ρ1 H1 D accV ρ3 H3)(hD1:H1 D=none)(e7:Ext ρ3 ρ7 H3 H7):Out ρ1 H1 D accV ρ7 H7:=by
 refine⟨⟨o.e0.pre.trans e7.pre,λa u i h=>e7.im a u i<|o.e0.im a u i h⟩,λa u na hu nr=>e7.fr a u (o.fr a u na hu nr) λz=>(o.nw a z).elim nr λz=>by(rw[z]at hu;cases hu),λa ha=>?_,λz=>(e7.nw D z).elim o.nD λz=>by(rw[o.hD]at z;cases z),e7.fr D _ o.hD o.nD⟩;by_cases hr:a∈ρ1
 ·exact .inl hr
 ·right
  cases q:H1 a with
  | none=>rfl
  | some u=>
   have aD:a≠D:=j5 q hD1
   rcases e7.nw a ha with z|z
   ·exact((o.nw a z).elim hr λz=>by(rw[z]at q;cases q)).elim
   ·rw[o.fr a u aD q hr]at z;cases z
def Out.put{H1 H:Hp}{D:ak}(o:Out ρ1 H1 D accV ρ H)(ex:Ext0 ρ ρ H<|upd H D<|.lst vs):Out ρ1 H1 D vs ρ (upd H D<|.lst vs):=
 ⟨⟨o.e0.pre,λa u i h=>ex.im a u i<|o.e0.im a u i h⟩,λa u na hu nr=>by rw[jV na];exact o.fr a u na hu nr,o.nw,o.nD,kZ⟩
def Out.end{H1 H:Hp}{D:ak}(o:Out ρ1 H1 D accV ρ H)(hD:H1 D=none):Ext ρ1 (ρ++[D]) H1 H:=by
 refine⟨⟨o.e0.pre.trans<|fX _ _,o.e0.im⟩,λa u hu na=>o.fr a u (j5 hu hD) hu na,λa ha=>?_⟩
 rcases bE.mp ha with z|z
 ·exact o.nw a z
 ·have:a=D:=by simpa using z
  rw[this];exact .inr hD
abbrev Cq (K:au)(ρ1:bb)(H1:Hp)(D:ak)(ys:ae)(k:Nat)(E:bb->Hp->Prop)(P:Nat->Nat->ae->jM->ae->Prop)(i m:Nat)(σ:L2.St)(H:Hp):Prop:=
 m+i=k/\∃ρ S τ acc zs accV,Out ρ1 H1 D accV ρ H/\E ρ H/\Rel K ρ H S/\SR K ρ H τ σ/\AVs K ρ H acc accV/\P m i τ S zs/\acc++zs=ys
section
variable {K:au}{ρ1 ρ:bb}{H1 H:Hp}{D:ak}{ys acc zs:ae}{accV:List V}{k i m:Nat}{E:bb->Hp->Prop}{P:Nat->Nat->ae->jM->ae->Prop}{σ:L2.St}{S:jM}{τ:ae}
def Cq.el{T:Prop}(h:Cq K ρ1 H1 D ys k E P i m σ H)(q:∀ρ S τ acc zs accV,m+i=k->Out ρ1 H1 D accV ρ H->E ρ H->Rel K ρ H S->SR K ρ H τ σ->AVs K ρ H acc accV->P m i τ S zs->acc++zs=ys->T):T:=by
 obtain⟨hm,ρ,S,τ,acc,zs,accV,h1,h2,h3,h4,h5,h6,h7⟩:=h;exact q ρ S τ acc zs accV hm h1 h2 h3 h4 h5 h6 h7
def Cq.of(hm:m+i=k)(o:Out ρ1 H1 D accV ρ H)(e:E ρ H)(R:Rel K ρ H S)(r:SR K ρ H τ σ)(v:AVs K ρ H acc accV)(p:P m i τ S zs)(q:acc++zs=ys):Cq K ρ1 H1 D ys k E P i m σ H:=⟨hm,ρ,S,τ,acc,zs,accV,o,e,R,r,v,p,q⟩
end
abbrev tE0 (K:au)(c:Ex):TE:=λσ H Q=>∃ρ S τ a S',Rel K ρ H S/\SR K ρ H τ σ/\c τ S=.ok a S'/\∀ρ' H' v,Ext ρ ρ' H H'->Rel K ρ' H' S'->AV K ρ' H' a v->Q v H'
abbrev Zq (K:au)(c:Te):TT:=λσ H Q=>∃ρ S τ a S',Rel K ρ H S/\SR K ρ H τ σ/\c τ S=.ok a S'/\∀ρ' H',Ext ρ ρ' H H'->Rel K ρ' H' S'->Q a H'
abbrev tG0 (K:au)(g:Tg):TG:=λv σ H Q=>∃ρ S τ a τ' S',Rel K ρ H S/\SR K ρ H τ σ/\AV K ρ H a v/\g a τ S=.ok τ' S'/\∀ρ' H' σ',Ext ρ ρ' H H'->Rel K ρ' H' S'->SR K ρ' H' τ' σ'->Q σ' H'
section
variable {X:Cx}{pos:Pos}{tg iter elt e:aC}{ifs:List aC}{scope:Scope}{N:ar}{cap:List (bn)}{src:Ic}{g:Tg}{t:Te}{c:Ex}
def AE.e0{K:au}(hK:X.K=K)(h:AE X e c):PE X e (tE0 K c):=PE.imp h λσ H Q ⟨ρ,S,τ,a,S',R,r,hc,q⟩=>⟨ρ,S,τ,by rw[hK];exact R,by rw[hK];exact r,by rw[hc];exact λρ' H' v e R' v'=>q ρ' H' v e (by rw[<- hK];exact R')<|by rw[<- hK];exact v'⟩
def AT.t0{K:au}(hK:X.K=K)(h:AT X e t):PT X e (Zq K t):=PT.imp h λσ H Q ⟨ρ,S,τ,a,S',R,r,hc,q⟩=>⟨ρ,S,τ,by rw[hK];exact R,by rw[hK];exact r,by rw[hc];exact λρ' H' e R'=>q ρ' H' e<|by rw[<- hK];exact R'⟩
def AG.g0{K:au}(hK:X.K=K)(h:AG X e g):PG X e (tG0 K g):=PG.imp h λv σ H Q ⟨ρ,S,τ,a,τ',S',R,r,va,hc,q⟩=>⟨ρ,S,τ,a,by rw[hK];exact R,by rw[hK];exact r,by rw[hK];exact va,by rw[hc];exact λρ' H' v e R' v'=>q ρ' H' v e (by rw[<- hK];exact R')<|by rw[<- hK];exact v'⟩
abbrev ATs (X:Cx)(ifs:List aC)(t:Te):Prop:=X7 X ifs<|Zq X.K t
def yl:ATs X [] xC:=λpins s σ H Q I ⟨ρ,S,τ,a,S',R,r,hc,q⟩=>UB pins s σ H Q I<|by cases hc;exact q ρ H .refl R
def qO(h:AT X e t):ATs X [e] t:=TU<|h.t0 rfl
def aaD{K:au}{H:Hp}(r:SR K ρ H τ σ)(cap:List<|bn):SR K ρ H (mO cap τ) (cap.map<|X4 σ):=by
 refine⟨by simp[mO],λi a h=>?_⟩;unfold mO at h;rw[aV]at h;obtain⟨o,ho,e⟩:=aY.mp h
 cases o with
 | none=>exact .inl e.symm
 | some j=>
  have e:τ.getD j .unb=a:=e
  cases hj:τ[j]? with
  | none=>rw[aI,hj]at e;exact .inl e.symm
  | some b=>
   rw[aI,hj]at e;have e:b=a:=e;subst e
   rcases r.at j b hj with z|⟨v,h1,h2⟩
   ·exact .inl z
   ·exact .inr ⟨v,by rw[aV,ho];show some ((σ[j]?).getD none)=_;rw[h1];rfl,h2⟩
def Rel.RY{K:au}{H:Hp}{p:ak}(R:Rel K ρ H S)(hp:H p=none):p∉ρ:=λhm=>by
 obtain⟨n,hn,e⟩:=gp.mp hm;have hl:n<S.length:=by rw[<- R.len];exact hn
 have:=R.at n p S[n] (by rw[aF hn,e]) (aF hl)
 cases ho:S[n]with
 | lst xs=>rw[ho]at this;obtain⟨vs,h,_⟩:=this;rw[hp]at h;cases h
 | dct _|pU _|dcp _=>rw[ho]at this;obtain⟨vs,h,_⟩:=this;rw[hp]at h;cases h
 | ins _ _=>rw[ho]at this;obtain⟨_,_,h⟩:=this;rw[hp]at h;cases h
def G8(σ:L2.St)(H:Hp)(Q:VK)(h:tE X (kJ cap src g t c) σ H Q):tLC cap (tI X src) (tG0 X.K g) (Zq X.K t) (tE0 X.K c) σ H Q:=by
 kpc_g;refine⟨ρ,S,τ,R,r,jO (jS h) .refl λs S1 h1 ρ1 H1 J e1 R1 jr D hD=>?_⟩;obtain⟨ys,S2,hcg,h1⟩:=Ja h1;obtain⟨hlen,h1⟩:=ki h1;have h1:CA X ρ H Q (.ref S2.length) (S2++[.lst ys]):=h1;obtain⟨eD,RD⟩:=R1.im (u:=.lst []) hD;refine⟨Cq X.K ρ1 H1 D ys s.k (λ_ _=>True) λm i τ S zs=>nH s g t c m i τ S=.ok zs S2,⟨s.k,.of rfl ⟨eD.toExt0,λa u na hu _=>by rw[jV na];exact hu,λa ha=>.inl ha,R1.RY hD,kZ⟩ trivial RD (aaD ((r.ext e1).ext eD) cap) .nil hcg rfl⟩,?_⟩;intro i m σ3 H3 hw;refine hw.el λρ3 S3 τ3 acc zs accV hm o3 _ R3 r3 ac3 cg3 eys=>?_;clear hw
 cases m with
 | zero=>
  left;have cg3:(if s.fin S3 then Am.R.ok [] S3 else .no)=.ok zs S2:=cg3
  cases hf:s.fin S3 with
  | false=>rw[hf]at cg3;cases cg3
  | true=>
   rw[hf]at cg3
   cases cg3
   rw[cG]at eys;subst eys;refine⟨by rw[show i=s.k by lia];exact jr.stop _ H3 ρ3 o3.e0 R3 hf,?_⟩;obtain⟨RT,gt⟩:=R3.take o3.hD o3.nD ac3;exact h1 (ρ3++[D]) H3 _ (e1.trans<|o3.end hD) RT<|.ref gt
 | succ m=>
  right;refine GX cg3 λx τ4 S4 b S5 hx hg4 ht5 hT hF=>?_;have jg:=jr.go i S3 H3 ρ3 x o3.e0 R3 hx;refine⟨jg.1,λv H4 y=>?_⟩;obtain⟨e4,R4,v4⟩:=jg.2 v H4 y;refine⟨ρ3,S3,τ3,x,τ4,S4,R4,r3.ext e4,v4,hg4,λρ5 H5 σ5 e5 R5 r5=>⟨ρ5,S4,τ4,b,S5,R5,r5,ht5,λρ6 H6 e6 R6=>?_⟩⟩;have e36:=(e4.trans e5).trans e6
  cases b with
  | false=>
   dsimp only;rw[aJ bM];exact⟨m,fO _,.of () (o3.stay hD e36) trivial R6 (r5.ext e6) (ac3.ext e36) (hF rfl) eys⟩
  | true=>
   dsimp only;rw[aL rfl];obtain⟨y,S6,ws,he6,cg6,ezs⟩:=hT rfl;refine⟨ρ6,S5,τ4,y,S6,R6,r5.ext e6,he6,λρ7 H7 w e7 R7 v7=>?_⟩;have o7:=o3.stay hD<|e36.trans e7;obtain⟨ex8,R8⟩:=R7.out (ws:=accV++[w]) o7.hD o7.nD;have l1:=ac3.length;refine⟨accV,o7.hD,?_,m,fO _,.of () (o7.put ex8) trivial R8 ((r5.ext<|e6.trans e7).m9 ex8) (AVs.m9 ex8<|(ac3.ext<|e36.trans e7).append<|.one v7) cg6 ?_⟩
   ·have:(acc++zs).length<=sizeLine:=by rw[eys];exact hlen
    rw[ezs,aS,bz]at this
    lia
   ·rw[ck,<- eys,ezs];rfl
def pD(hc:X.calm=true)(Sc:CpScope X scope N cap)(hi:AI X tg iter src)(hg:∀C s₀ H₀ ex,AG (pH X scope N C s₀ H₀ ex) tg g)(ht:∀C s₀ H₀ ex,ATs (pH X scope N C s₀ H₀ ex) ifs t)(he:∀C s₀ H₀ ex,AE (pH X scope N C s₀ H₀ ex) elt c)
  (hs:∀x,foldedSetIterable iter X.env x=pure x:=by intro _;rfl):AE X (.ListComp elt [⟨tg,iter,ifs,0⟩] scope pos) (kJ cap src g t c):=
 PE.imp (aao hc Sc hi (g:=tG0 X.K g) (tc:=Zq X.K t) (te:=tE0 X.K c) (λC s₀ H₀ ex=>(hg C s₀ H₀ ex).g0 rfl) (λC s₀ H₀ ex=>ht C s₀ H₀ ex) (λC s₀ H₀ ex=>(he C s₀ H₀ ex).e0 rfl) hs) G8
def Er{i:Nat}{x:Str}{spos:Pos}(hN:X.N.Nodup)(hc:X.calm=true)(Sc:CpScope X scope N cap)(hi:AI X tg iter src)(hg:∀C s₀ H₀ ex,AG (pH X scope N C s₀ H₀ ex) tg g)(ht:∀C s₀ H₀ ex,ATs (pH X scope N C s₀ H₀ ex) ifs t)(he:∀C s₀ H₀ ex,AE (pH X scope N C s₀ H₀ ex) elt c)
  (hi':X.N[i]?=some x:=by rfl) (hx:Loc X.env.scope x:=by first|exact Or.inl rfl|exact Or.inr rfl)
  (hsw:swapsWith (.ListComp elt [⟨tg,iter,ifs,0⟩] scope pos) (some<|.Name x pos') spos.line X.env=pure true:=by rfl) (hf:X.fn x=true\/X.env.scope.names.lookup x=some .local:=by first|exact .inl rfl|exact .inr rfl|assumption)
  (hs:∀x,foldedSetIterable iter X.env x=pure x:=by intro _;rfl):AS X (.Assign [.Name x pos'] (.ListComp elt [⟨tg,iter,ifs,0⟩] scope pos) spos) (kG (kJ cap src g t c)<|kD i):=
 PS.imp (RH hN hi' hx hc Sc hi (g:=tG0 X.K g) (tc:=Zq X.K t) (te:=tE0 X.K c) (λC s₀ H₀ ex=>(hg C s₀ H₀ ex).g0 rfl) (λC s₀ H₀ ex=>ht C s₀ H₀ ex) (λC s₀ H₀ ex=>(he C s₀ H₀ ex).e0 rfl) hsw hf hs) λD σ H ⟨ρ,S,τ,R,r,h⟩=>
  G8 σ H _ ⟨ρ,S,τ,R,r,jO (of_post h) .refl λa S1 h1 ρ1 H1 x e1 R1 v1=>h1 ρ1 H1 _ e1 R1<|(r.ext e1).set v1⟩
end
abbrev A.lst? (S:jM):A->Option (ae)
 | .ref n=>jK S n
 | _=>none
abbrev Ze (f:A->ae->jM->R A)(co:Ex)(d:sW):Ex:=λτ S=>(co τ S).bind λo S1=>opt (o.lst? S1) λ_=>(d τ S1).bind λas S2=>f o as S2
abbrev acn (f:A->ae->jM->R A)(co:Ex):Ex:=λτ S=>(co τ S).bind λo S1=>opt (o.lst? S1) λ_=>f o [] S1
abbrev rM (X:Cx)(f:A->ae->jM->R A):V->List V->Hp->VK->Prop:=λx vs H Q=>∃ρ S o as,Rel X.K ρ H S/\AV X.K ρ H o x/\AVs X.K ρ H as vs/\(f o as S).post (CA X ρ H Q) (XE X ρ H)
section
variable {X:Cx}{apos cpos:Pos}{o e:aC}{es:List aC}{name:Str}{id:String}{f:A->ae->jM->R A}{co:Ex}{d:sW}
def lst?_ty{K:au}{H:Hp}{x:A}{v:V}(R:Rel K ρ H S)(h:AV K ρ H x v)(e:x.lst? S=some xs):Zn K "list" v H:=by
 cases h with
 | ref h=>
  obtain⟨vs,h1,_⟩:=R.lst h<|j0 e;exact .inl ⟨rfl,vs,nJ.of h1⟩
 | _=>cases e
def JB(slot:Slot "list" name id)(hty:typeOf (.builtin id)=pure (.type "method_descriptor"))(hm:UJ X id<|rM X f)(ho:AE X o co)(ha:AL X (e::es) d)
  (hbase:attributeBase o name X.env (eval o X.env)=eval o X.env:=by rfl)
  (hfew:((backTo cpos<|starEach (e::es) X.env).all (λx=>!x.1) && (backToKw cpos<|keywordEach [] X.env).all (λx=>x.1.isSome)
   && decide ((e::es).length+([]:List Keyword).length+(if ([]:List Keyword).isEmpty then 0 else 1)<30))=true:=by rfl)
  (hline:(apos.endLine == cpos.line)=true:=by rfl) (hs:starEach (e::es) X.env=(false,eval e X.env)::starEach es X.env:=by rfl) (hplain:(backTo cpos<|starEach es X.env).any (·.1)=false:=by rfl) :
  AE X (.Call (.Attribute o name apos) (e::es) [] cpos) (Ze f co d):=PE.imp (R0 PySem.F.plainAttrs_list slot hty hm ho ha hbase hfew hline hs hplain) λσ H Q h9=>by
 room;refine⟨ρ,S,τ,R,r,jO (jS h) .refl λx S1 h1 ρ1 H1 v e1 R1 v1=>?_⟩;obtain⟨xs,hx,h1⟩:=jU h1;refine⟨lst?_ty R1 v1 hx,ρ1,S1,τ,R1,r.ext e1,jO (jS h1) e1 λas S2 h2 ρ2 H2 vs e2 R2 v2=>?_⟩;kst_p
abbrev AH (o:A)(as:ae)(S:jM):R A:=match o,as with
 | .ref n,[x]=>opt (jK S n) λxs=>gd (xs.length<sizeLine) (.ok .non<|S.set n<|.lst<|xs++[x])
 | _,_=>.no
def FL:UJ X "list.append" (rM X AH):=λpins s σ H x vs v us Q I rx rv h9=>by
 obtain⟨ρ,S,o,as,R,vo,va,h⟩:=h9
 cases vo with
 | @ref p n hp=>
  match as,va,h with
  | [],_,h=>exact h.elim
  | _::_::_,_,h=>exact h.elim
  | [y],va,h=>
   obtain⟨w,rfl,hw⟩:=Oe va;gp_on;obtain⟨hl,h⟩:=ki h;obtain⟨ws,h1,r⟩:=R.lst hp<|j0 hn;obtain⟨ex,R'⟩:=R.put hp (j0 hn)<|r.append<|.one hw;exact CY pins s σ H _ _ v us Q I rx rv ⟨p,ws,w,rfl,rfl,h1,by rw[<- r.length];exact hl,h _ _ _ ex R' .non⟩
 | _=>exact h.elim
abbrev HQ (o:A)(as:ae)(S:jM):R A:=match o,as with
 | .ref n,[.int i]=>opt (jK S n) λxs=>gd (-(2 ^ 63)<=i/\i<2 ^ 63) (opt (seqIndex? i xs.length) λk=>opt (xs[k]?) λx=>.ok x<|S.set n<|.lst<|xs.eraseIdx k)
 | _,_=>.no
def UN:UJ X "list.pop" (rM X HQ):=λpins s σ H x vs v us Q I rx rv h9=>by
 obtain⟨ρ,S,o,as,R,vo,va,h⟩:=h9
 cases vo with
 | @ref p n hp=>
  match as,va,h with
  | [],_,h=>exact h.elim
  | y::_::_,_,h=>exact(by cases y<;>exact h.elim)
  | [y],va,h=>
   obtain⟨w,rfl,hw⟩:=Oe va
   cases hw with
   | int i=>
    gp_on;obtain⟨hi,h⟩:=ki h;obtain⟨k,hk,h⟩:=jU h;obtain⟨y,hy,h⟩:=jU h;obtain⟨ws,h1,r⟩:=R.lst hp<|j0 hn;obtain⟨w,hw,vw⟩:=r.get hy;obtain⟨ex,R'⟩:=R.put hp (j0 hn)<|r.eraseIdx k;exact NT pins s σ H _ _ v us Q I rx rv ⟨p,ws,i,k,w,rfl,rfl,h1,hi.1,hi.2,by rw[<- r.length];exact hk,hw,h _ _ _ ex R'<|vw.ext ex⟩
   | _=>exact h.elim
 | _=>exact h.elim
end
abbrev mz (N:ar)(m:Sm)(as:ae)(S:jM):R A:=match m (as++List.replicate (N.length-as.length) .unb) S with
 | .rt a S'=>.ok a S'
 | .nx _ S'=>.ok .non S'
 | .ex c S'=>.ex c S'
 | _=>.no
abbrev qR (K:au)(n:Nat)(F:ae->jM->R A):Sp:=λvs H Q _=>vs.length=n/\∃ρ S as a S',Rel K ρ H S/\AVs K ρ H as vs/\F as S=.ok a S'/\∀ρ' H' v,Ext ρ ρ' H H'->Rel K ρ' H' S'->AV K ρ' H' a v->Q v H'
def TN{K:au}{H:Hp}{as:ae}(r:AVs K ρ H as vs)(N:ar):SR K ρ H (as++List.replicate (N.length-as.length) .unb) (L2.start N vs):=by
 have hl:=r.length;refine⟨by unfold L2.start;simp[hl],λi a h=>?_⟩;by_cases hi:i<as.length
 ·rw[bG hi]at h;obtain⟨v,hv,av⟩:=r.get h;exact .inr ⟨v,by unfold L2.start;rw[bG<|by simp;lia,aV,hv];rfl,av⟩
 ·rw[dP (),List.getElem?_replicate]at h;split at h
  ·exact .inl (bh h).symm
  ·cases h
section
variable {P:aj}{w:ah}{K:au}{mg:Str->bd}{base:aq}
def uT{x:Str}{st:aE}{f:ak}{N ps:ar}{k:Nat}{m:Sm}(F:Fun K x qual st f fd)(Sc:FnScope N ps<|jW st)
  (body:∀(cdv:af) (A:az) (outer:List Env) (s:aA) (H:Hp) (E:XK),Room k (A.deeper<|envOfC qual (jW st) s.heap.objs.size f cdv)->SE (HZ qm P w K mg base N qual (jW st) f cdv A outer s H E).Zw (su st) m) :
  FnOk P w K mg base qm (k+1) f fd ps (qR K ps.length<|mz N m):=by
 refine F.ok Sc (λvs H Q E h=>h.1) λcdv B outer s H vs Q E hr ⟨hl,ρ,S,as,a,S',R,va,hF,q⟩=>⟨_,body cdv B outer s H E hr,ρ,S,_,R,TN va N,?_⟩;unfold mz at hF
 cases hm:m (as++List.replicate (N.length-as.length) .unb) S with
 | rt b S2=>rw[hm]at hF;cases hF;exact q
 | nx τ S2=>rw[hm]at hF;cases hF;exact λρ' H' σ' e R' _=>q ρ' H' _ e R' .non
 | bk τ S2=>rw[hm]at hF;cases hF
 | ct τ S2=>rw[hm]at hF;cases hF
 | ex c S2=>rw[hm]at hF;cases hF
 | no=>rw[hm]at hF;cases hF
end
meta abbrev nF (P:aj)(w:ah)(K:au)(mg:Str->bd)(base:aq)(k:Nat)(x:Str)(ps:ar)(F:ae->jM->R A):Prop:=Kn P w K mg base k x ps<|qR K ps.length F
abbrev eFn (F:ae->jM->R A)(d:sW):Ex:=λτ S=>(d τ S).bind λas S1=>match F as S1 with
 | .ok a S2=>.ok a S2
 | _=>.no
section
variable {X:Cx}{pos p:Pos}{e:aC}{es:List aC}{x:Str}{ps:ar}{k:Nat}{F:ae->jM->R A}{d:sW}
def yq(G:nF X.prog X.w X.K X.mg X.base k x ps F)(hr:Room k X.A)(ha:AL X (e::es) d)(hl:∀τ S as S',d τ S=.ok as S'->as.length=ps.length)(hg:Gl X x:=by rfl)(hdb:(x == ("__debug__" : Str))=false:=by decide)
  (hs:starEach (e::es) X.env=(false,eval e X.env)::starEach es X.env:=by rfl) (hplain:(backTo pos<|starEach es X.env).any (·.1)=false:=by rfl):AE X (.Call (.Name x p) (e::es) [] pos) (eFn F d):=
 PE.imp (ZW G hr ha hg hdb hs hplain) λσ H Q h9=>by
  room;refine⟨ρ,S,τ,R,r,?_⟩;have hb:=jS h
  cases hd:d τ S with
  | no=>rw[hd]at hb;exact hb
  | ex c S1=>rw[hd]at hb;exact hb
  | ok as S1=>
   rw[hd]at hb;intro ρ1 H1 vs e1 R1 v1;rw[cG];refine⟨by rw[<- v1.length];exact hl τ S as S1 hd,ρ1,S1,as,?_⟩;have hb:Am.R.post (match F as S1 with
    | .ok a S2=>.ok a S2
    | _=>.no) (CA X ρ H Q) (XE X ρ H):=hb
   cases hF:F as S1 with
   | ok a S2=>rw[hF]at hb;exact⟨a,S2,R1,v1,rfl,λρ2 H2 v e2=>hb ρ2 H2 v<|e1.trans e2⟩
   | ex c S2=>rw[hF]at hb;exact hb.elim
   | no=>rw[hF]at hb;exact hb.elim
def qH:∀τ S as S',jR τ S=.ok as S'->as.length=0:=λτ S as S' h=>by cases h;rfl
def k_{c:Ex}{d:sW}{n:Nat}(h:∀τ S as S',d τ S=.ok as S'->as.length=n):∀τ S as S',jH c d τ S=.ok as S'->as.length=n+1:=λτ S as S' e=>by
 unfold jH at e
 cases hc:c τ S with
 | ok a S1=>
  rw[hc]at e
  cases hd:d τ S1 with
  | ok bs S2=>
   have e:R.bind (d τ S1) (λas S2=>.ok (a::as) S2)=.ok as S':=e;rw[hd]at e;cases e;rw[bz,h τ S1 bs _ hd]
  | ex _ _=>
   have e:R.bind (d τ S1) (λas S2=>.ok (a::as) S2)=.ok as S':=e;rw[hd]at e;cases e
  | no=>
   have e:R.bind (d τ S1) (λas S2=>.ok (a::as) S2)=.ok as S':=e;rw[hd]at e;cases e
 | ex _ _=>rw[hc]at e;cases e
 | no=>rw[hc]at e;cases e
end
section
variable {X:Cx}{pos:Pos}{a b c:aC}
abbrev kCh (f':A->A->jM->R A)(cc:Ex)(τ:ae)(b k:A)(S:jM):R A:=match k with
 | .bl true=>(cc τ S).bind λc S4=>f' b c S4
 | .bl false=>.ok (.bl false) S
 | _=>.no
abbrev Zk (f f':A->A->jM->R A)(ca cb cc:Ex):Ex:=λτ S=>(ca τ S).bind λa S1=>(cb τ S1).bind λb S2=>(f a b S2).bind λk S3=>kCh f' cc τ b k S3
def WB{f f':A->A->jM->R A}{ca cb cc:Ex}{H:Hp}{Q:VK}(h:tE X (Zk f f' ca cb cc) σ H Q):P8 (r2 X f) (r2 X f') (tE X ca) (tE X cb) (tE X cc) σ H Q:=by
 kpc_g;refine⟨ρ,S,τ,R,r,jO (jS h) .refl λa S1 h1 ρ1 H1 x e1 R1 v1=>⟨ρ1,S1,τ,R1,r.ext e1,jO (jS h1) e1 λb S2 h2 ρ2 H2 y e2 R2 v2=>?_⟩⟩;have e12:=e1.trans e2;refine⟨ρ2,S2,a,b,R2,v1.ext e2,v2,jO (jS h2) e12 λk S3 h3 ρ3 H3 z e3 R3 v3=>?_⟩;have e13:=e12.trans e3
 cases k with
 | bl k=>
  cases FG v3
  refine⟨k,rfl,?_⟩
  cases k with
  | true=>
   rw[aL rfl];exact⟨ρ3,S3,τ,R3,r.ext e13,jO (jS h3) e13 λc S4 h4 ρ4 H4 w e4 R4 v4=>⟨ρ4,S4,b,c,R4,v2.ext<|e3.trans e4,v4,jO h4 (e13.trans e4) λ_ _ q=>q.ext<|e13.trans e4⟩⟩
  | false=>
   rw[aJ bM];exact h3 ρ3 H3 _ e13 R3<|.bl false
 | _=>exact h3.elim
def aau{f f':A->A->jM->R A}{ca cb cc:Ex}(ho:pV X (compareOp op)<|r2 X f)(ho':pV X (compareOp op')<|r2 X f')(ha:AE X a ca)(hb:AE X b cb)(hc:AE X c cc)(hm:lastMarks [op,op'] [b,c]=false:=by with_unfolding_all rfl) :
  AE X (.Compare a [op,op'] [b,c] pos) (Zk f f' ca cb cc):=PE.imp (OG ho ho' ha hb hc hm) λ_ _ _ h=>WB h
abbrev Vq (S:jM)(x:A):ae->bj
 | []=>some false
 | z::zs=>(qK S 12 z x).bind λp=>(Vq S x zs).map λq=>p || q
abbrev UT (neg:Bool)(x y:A)(S:jM):R A:=opt (y.seq S) λys=>opt (Vq S x ys) λb=>.ok (.bl<|if neg then !b else b) S
theorem yt{H:Hp}{x:A}{v:af}(I:Inv X pins σ H s)(R:Rel X.K ρ H S)(hu:X.A.units+64<cLine)(hx:AV X.K ρ H x vx)(rx:RelV vx v) :
  ∀{ys:ae} {us:List V} {its:ba} {b:Bool},AVs X.K ρ H ys us->Vals us its->Vq S x ys=some b->∃e:af->Bool,(∀w∈its,SeqAt.EqAt X.A.in1 s w v<|e w)/\its.any e=b
 | _,_,_,b,.nil,.nil,h=>⟨λ_=>false,(λw hw=>by cases hw),bh h⟩
 | z::zs,u::us,w0::its,b,.cons hz hzs,.cons r rs,h=>by
  classical
  obtain⟨p,hp,h⟩:=bX.mp h;obtain⟨q,hq,h⟩:=aY.mp h;obtain⟨e,he,ha⟩:=yt I R hu hx rx hzs rs hq;have h0:=(Lj I R 12 X.A.in1 z x u vx w0 v p (by rw[in1_units];omega) hz hx r rx hp).2.1;subst h
  cases p with
  | true=>
   refine⟨λw=>if w=w0 then true else e w,λw hw=>?_,?_⟩
   ·by_cases hww:w=w0
    ·dsimp[hww,c_];exact h0
    ·dsimp[hww,cj]
     rcases bu.mp hw with z|z
     ·exact absurd z hww
     ·exact he w z
   ·simp
  | false=>
   by_cases hm:w0∈its
   ·refine⟨e,λw hw=>?_,?_⟩
    ·rcases bu.mp hw with z|z
     ·rw[z];exact he w0 hm
     ·exact he w z
    ·rw[fZ,ha,gD]
     cases q with
     | true=>simp
     | false=>
      have:=List.any_eq_false.mp ha w0 hm;simpa using this
   ·refine⟨λw=>if w=w0 then false else e w,λw hw=>?_,?_⟩
    ·by_cases hww:w=w0
     ·dsimp[hww,c_];exact h0
     ·dsimp[hww,cj]
      rcases bu.mp hw with z|z
      ·exact absurd z hww
      ·exact he w z
    ·rw[fZ,<- ha];dsimp[c_,gD];have:∀l:ba,(∀w∈l,w≠w0)->l.any (λw=>if w=w0 then false else e w)=l.any e:=λl hl=>by
      induction l with
      | nil=>rfl
      | cons c l ih=>rw[fZ,fZ,ih λw hw=>hl w<|aN _ hw,aJ<|hl c<|aM ..]
     exact this its λw hw z=>hm<|z ▸ hw
def ab5(hu:X.A.units+64<cLine):pV X (compareOp .In) (r2 X<|UT false):=λpins s σ H x y v u Q I rx ry h9=>by
 x_go;obtain⟨ys,hy,h⟩:=jU h;obtain⟨k,hk,h⟩:=jU h;obtain⟨p,us,rfl,hs,r⟩:=Hx R vb hy
 cases ry
 rcases hs with hs|hs
 ·obtain⟨its,rv,pl,hz⟩:=I.list hs;obtain⟨e,he,ha⟩:=yt I R hu va rx r rv hk;refine SeqAt.in_listAt e pl.isList (λw hw=>he w<|by simpa using hw) ⟨.bl _,H,I,rfl,?_⟩;rw[show its.toArray.any e=its.any e by simp,ha];exact h _ _ _ .refl R (.bl _)
 ·obtain⟨its,rv,pl,hz⟩:=I.tuple hs;obtain⟨e,he,ha⟩:=yt I R hu va rx r rv hk;refine SeqAt.in_tupleAt e pl (λw hw=>he w<|by simpa using hw) ⟨.bl _,H,I,rfl,?_⟩;rw[show its.toArray.any e=its.any e by simp,ha];exact h _ _ _ .refl R<|.bl _
def Jm(hu:X.A.units+64<cLine):pV X (compareOp .NotIn) (r2 X<|UT true):=λpins s σ H x y v u Q I rx ry h9=>by
 x_go;obtain⟨ys,hy,h⟩:=jU h;obtain⟨k,hk,h⟩:=jU h;obtain⟨p,us,rfl,hs,r⟩:=Hx R vb hy
 cases ry
 rcases hs with hs|hs
 ·obtain⟨its,rv,pl,hz⟩:=I.list hs;obtain⟨e,he,ha⟩:=yt I R hu va rx r rv hk;refine SeqAt.notIn_listAt e pl.isList (λw hw=>he w<|by simpa using hw) ⟨.bl _,H,I,rfl,?_⟩;rw[show its.toArray.any e=its.any e by simp,ha];exact h _ _ _ .refl R (.bl _)
 ·obtain⟨its,rv,pl,hz⟩:=I.tuple hs;obtain⟨e,he,ha⟩:=yt I R hu va rx r rv hk;refine SeqAt.notIn_tupleAt e pl (λw hw=>he w<|by simpa using hw) ⟨.bl _,H,I,rfl,?_⟩;rw[show its.toArray.any e=its.any e by simp,ha];exact h _ _ _ .refl R<|.bl _
abbrev E2 (o:A)(as:ae)(S:jM):R A:=match o,as with
 | .ref n,[.ref m]=>opt (jK S n) λxs=>opt (jK S m) λys=>gd (xs.length+ys.length<=sizeLine) (.ok .non<|S.set n<|.lst<|xs++ys)
 | _,_=>.no
def Q0:UJ X "list.extend" (rM X E2):=λpins s σ H x vs v us Q I rx rv h9=>by
 obtain⟨ρ,S,o,as,R,vo,va,h⟩:=h9
 cases vo with
 | @ref p n hp=>
  match as,va,h with
  | [],_,h=>exact h.elim
  | y::_::_,_,h=>exact(by cases y<;>exact h.elim)
  | [y],va,h=>
   obtain⟨w,rfl,hw⟩:=Oe va
   cases hw with
   | @ref q m hq=>
    gp_on;obtain⟨ys,hm,h⟩:=jU h;obtain⟨hl,h⟩:=ki h;obtain⟨ws,h1,r⟩:=R.lst hp<|j0 hn;obtain⟨zs,h2,r'⟩:=R.lst hq<|j0 hm;obtain⟨ex,R'⟩:=R.put hp (j0 hn)<|r.append r';exact M3 pins s σ H _ _ v us Q I rx rv ⟨p,q,ws,zs,rfl,rfl,h1,h2,by rw[<- r.length,<- r'.length];exact hl,h _ _ _ ex R' .non⟩
   | _=>exact h.elim
 | _=>exact h.elim
end
abbrev ko (S:jM)(n:Nat):Option (List<|ag×A):=match S[n]? with
 | some (.dct xs)=>some xs
 | _=>none
def pF{n:Nat}(h:ko S n=some xs):S[n]?=some (.dct xs):=by
 unfold ko at h;split at h
 ·rename_i e;cases h;exact e
 ·cases h
def yx{S:jM}{n:Nat}(h:S[n]?=some (.dct xs)):ko S n=some xs:=by
 unfold ko;rw[h]
abbrev mG (kvs:List<|ag×A)(k:ag):Option A:=(kvs.find? λkv=>decide<|kv.1=k).map (·.2)
abbrev putD (kvs:List<|ag×A)(k:ag)(v:A):List (ag×A):=
 if (mG kvs k).isSome=true then kvs.map (λkv=>if kv.1=k then(kv.1,v)else kv)else kvs++[(k,v)]
theorem DY:∀{a b:ag},a.map (Sum.inl:Int->Key)=b.map Sum.inl->a=b
 | [],[],_=>rfl
 | [],_::_,e=>by simp at e
 | _::_,[],e=>by simp at e
 | x::xs,y::ys,e=>by
  rw[bJ,bJ]at e
  injection e with e1 e2
  injection e1 with e1
  rw[e1,DY e2]
def J1(ns:ag):(ns.map (Sum.inl:Int->Key)).map kV=ns.map V.int:=by rw[bD];rfl
section
variable {K:au}{ρ:bb}{H:Hp}
def MP{p:ag×A}{r:List<|ag×A}{k:ag}(e:p.1=k):mG (p::r) k=some p.2:=by simp[mG,cR,e]
def Mb{p:ag×A}{r:List<|ag×A}{k:ag}(e:¬p.1=k):mG (p::r) k=mG r k:=by simp[mG,cR,e]
theorem DV.look:∀{kvs:List<|ag×A}{ks:List<|List Key×V}(k:ag),DV K ρ H kvs ks->(mG kvs k).isSome=(qY ks<|k.map Sum.inl).isSome/\∀x,mG kvs k=some x->∃v,qY ks (k.map Sum.inl)=some v/\AV K ρ H x v
 | [],[],k,_=>⟨rfl,λx h=>nomatch h⟩
 | p::r,q::r',k,⟨⟨e,a⟩,t⟩=>by
  by_cases c:p.1=k
  ·have c':q.1=k.map Sum.inl:=by rw[e,c]
   rw[MP c,vU c'];exact⟨rfl,λx h=>by cases h;exact⟨_,rfl,a⟩⟩
  ·have c':¬q.1=k.map Sum.inl:=λz=>c<|DY<|e.symm.trans z;rw[Mb c,vF c'];exact DV.look k t
theorem DV.repl{x:A}{v:V}(h:AV K ρ H x v)(k:ag):∀{kvs:List<|ag×A}{ks:List<|List Key×V},DV K ρ H kvs ks->DV K ρ H (kvs.map λkv=>if kv.1=k then(kv.1,x)else kv) (ks.map λkv=>if kv.1=k.map Sum.inl then(kv.1,v)else kv)
 | [],[],_=>trivial
 | p::r,q::r',⟨⟨e,a⟩,t⟩=>by
  refine⟨?_,DV.repl h k t⟩;dsimp only;by_cases c:p.1=k
  ·rw[aL c,aL<|by rw[e,c]];exact⟨e,h⟩
  ·rw[aJ c,aJ λz=>c<|DY<|e.symm.trans z];exact⟨e,a⟩
theorem DV.snoc{x:A}{v:V}(h:AV K ρ H x v)(k:ag):∀{kvs:List<|ag×A}{ks:List<|List Key×V},DV K ρ H kvs ks->DV K ρ H (kvs++[(k,x)]) (ks++[(k.map Sum.inl,v)])
 | [],[],_=>⟨⟨rfl,h⟩,trivial⟩
 | p::r,q::r',⟨a,t⟩=>⟨a,DV.snoc h k t⟩
def DV.put{x:A}{v:V}(h:AV K ρ H x v)(k:ag)(d:DV K ρ H kvs ks):DV K ρ H (putD kvs k x) (putK ks (k.map Sum.inl) v):=by
 unfold putD putK;rw[yo,<- (d.look k).1];by_cases c:(mG kvs k).isSome=true
 ·rw[aL c,aL c];exact DV.repl h k d
 ·rw[aJ c,aJ c];exact DV.snoc h k d
def DV.length:∀{kvs:List<|ag×A}{ks:List<|List Key×V},DV K ρ H kvs ks->kvs.length=ks.length
 | [],[],_=>rfl
 | _::_,_::_,⟨_,t⟩=>dO (·+1) t.length
def Rel.dct{n:Nat}{a:ak}(R:Rel K ρ H S)(ha:ρ[n]?=some a)(hS:S[n]?=some (.dct xs)):∃vs,H a=some (.dT vs)/\DV K ρ H xs vs:=R.at n a _ ha hS
def Rel.abC{S:jM}{p:ak}(R:Rel K ρ H S)(hp:H p=none)(r:DV K ρ H xs vs):Ext ρ (ρ++[p]) H (upd H p<|.dT vs)/\Rel K (ρ++[p]) (upd H p<|.dT vs) (S++[.dct xs])/\(ρ++[p])[S.length]?=some p:=by
 have ex:Ext ρ (ρ++[p]) H (upd H p<|.dT vs):=⟨⟨fX _ _,λa u _ h=>by rw[jV<|j5 h hp];exact h⟩,λa u h _=>by rw[jV<|j5 h hp];exact h,λa h=>by
  rcases bE.mp h with z|z
  ·exact .inl z
  ·have e:a=p:=by simpa using z
   rw[e];exact .inr hp⟩
 have np:p∉ρ:=R.RY hp;have last:(ρ++[p])[S.length]?=some p:=by rw[<- R.len];simp
 refine⟨ex,⟨by simp[R.len],?_,?_⟩,last⟩
 ·rw[dz];refine⟨R.nd,by simp,λa ha b hb e=>?_⟩;have:b=p:=by simpa using hb
  exact np<|by rw[<- this,<- e];exact ha
 ·intro n a o h1 h2;by_cases hn:n<S.length
  ·rw[bG<|by rw[R.len];exact hn]at h1;rw[bG hn]at h2;have na:a≠p:=λz=>np (by rw[<- z];exact aW h1);have:=R.at n a o h1 h2
   cases o with
   | lst ys=>obtain⟨ws,e,q⟩:=this;exact⟨ws,by rw[jV na];exact e,q.ext ex⟩
   | dct _|pU _|dcp _=>obtain⟨ws,e,q⟩:=this;exact⟨ws,by rw[jV na];exact e,q.ext ex⟩
   | ins _ _=>obtain⟨oo,uu,e⟩:=this;exact⟨oo,uu,by rw[jV na];exact e⟩
  ·have e:n=S.length:=by
    have:=(aK.mp h2).1;simp at this;omega
   subst e;rw[last]at h1
   cases h1
   simp at h2;subst h2;exact⟨vs,kZ,r.ext ex⟩
def Rel.putD{S:jM}{n:Nat}{a:ak}(R:Rel K ρ H S)(ha:ρ[n]?=some a)(hS:S[n]?=some (.dct xs))(r:DV K ρ H ys ws):Ext ρ ρ H (upd H a<|.dT ws)/\Rel K ρ (upd H a<|.dT ws) (S.set n<|.dct ys):=by
 obtain⟨vs,e,_⟩:=R.at n a _ ha hS;have ex:Ext ρ ρ H (upd H a<|.dT ws):=⟨⟨fQ _,λb u i h=>by
  have:b≠a:=by
   intro z;subst z;rw[e]at h;cases h;exact i
  rw[jV this];exact h⟩,λb u h n=>by
  rw[jV λz=>n<|by rw[z];exact aW ha];exact h,λ_ h=>.inl h⟩
 refine⟨ex,by rw[bZ];exact R.len,R.nd,λm b o h1 h2=>?_⟩;by_cases hm:m=n
 ·subst hm;rw[ha]at h1;cases h1;rw[bW (aK.mp hS).1]at h2
  cases h2
  exact⟨ws,kZ,r.ext ex⟩
 ·rw[cB<|cO hm]at h2;have nb:b≠a:=λz=>by
   subst z;obtain⟨l1,e1⟩:=aK.mp ha;obtain⟨l2,e2⟩:=aK.mp h1;exact hm<|(dJ R.nd).mp<|e2.trans e1.symm
  have:=R.at m b o h1 h2
  cases o with
  | lst ys=>obtain⟨ws',e',q⟩:=this;exact⟨ws',by rw[jV nb];exact e',q.ext ex⟩
  | dct _|pU _|dcp _=>obtain⟨ws',e',q⟩:=this;exact⟨ws',by rw[jV nb];exact e',q.ext ex⟩
  | ins _ _=>obtain⟨oo,uu,e'⟩:=this;exact⟨oo,uu,by rw[jV nb];exact e'⟩
end
section
variable {X:Cx}{pos:Pos}{a b:aC}
def EM{H:Hp}{p q:ak}{n:Nat}{ns:ag}(R:Rel X.K ρ H S)(hp:ρ[n]?=some p)(hn:ko S n=some kvs)(hq:H q=some (.tup vs))(r:AVs X.K ρ H xs vs)(hi:A.ints xs=some ns) :
  ∃ks,H p=some (.dT ks)/\DV X.K ρ H kvs ks/\H q=some (.tup<|(ns.map (Sum.inl:Int->Key)).map kV)/\xJ H p (.ref q) (qY ks<|ns.map Sum.inl):=by
 obtain⟨ks,e,d⟩:=R.dct hp<|pF hn;have z:=Ay r hi;subst z;rw[<- J1]at hq;exact⟨ks,e,d,hq,xJ.t e hq⟩
abbrev xU (x y:A)(S:jM):R A:=match x,y with
 | .ref n,.tup xs=>opt (ko S n) λkvs=>opt (A.ints xs) λns=>opt (mG kvs ns) λv=>.ok v S
 | _,_=>.no
def aad(hu:X.A.units+64<cLine):Wk X (r2 X xU):=λvalue slice pins s σ H x y v u Q I rx ry ⟨ρ,S,a,b,R,va,vb,h⟩ hs=>by
 cases va with
 | @ref p n hp=>
  cases vb with
  | @tup q xs vs hq r=>
   obtain⟨kvs,hn,h⟩:=jU h;obtain⟨ns,hi,h⟩:=jU h;obtain⟨z,hz,h⟩:=jU h;obtain⟨ks,e,d,hq',g⟩:=EM R hp hn hq r hi;obtain⟨w,hw,aw⟩:=(d.look ns).2 z hz;rw[hw]at g;exact Lh () value slice pins s σ H _ _ v u Q I rx ry ⟨p,w,rfl,g,h _ _ _ .refl R aw⟩ hs
  | _=>exact h.elim
 | _=>exact h.elim
def BG(hu:X.A.units+64<cLine){ca cb:Ex}(ha:AE X a ca)(hb:AE X b cb)(hs:Ak b:=by exact λ_ _=>rfl):AE X (.Subscript a b pos) (jT xU ca cb):=PE.imp (Pn (aad hu) ha hb hs) λσ H Q h=>wg h
abbrev SA (neg:Bool)(x y:A)(S:jM):R A:=match x,y with
 | .tup xs,.ref n=>opt (ko S n) λkvs=>opt (A.ints xs) λns=>.ok (.bl<|if neg then !(mG kvs ns).isSome else(mG kvs ns).isSome) S
 | _,_=>.no
def RA(hu:X.A.units+64<cLine):pV X (compareOp .NotIn) (r2 X<|SA true):=λpins s σ H x y v u Q I rx ry h9=>by
 x_go
 cases va with
 | @tup q xs vs hq r=>
  cases vb with
  | @ref p n hp=>
   obtain⟨kvs,hn,h⟩:=jU h;obtain⟨ns,hi,h⟩:=jU h;obtain⟨ks,e,d,hq',g⟩:=EM R hp hn hq r hi;exact MO (by omega) pins s σ H _ _ v u Q I rx ry ⟨p,_,rfl,g,by rw[<- (d.look ns).1];exact h _ _ _ .refl R<|.bl _⟩
  | _=>exact h.elim
 | _=>exact h.elim
abbrev FY (o i v:A)(S:jM):R Unit:=match o,i with
 | .ref n,.tup xs=>opt (ko S n) λkvs=>opt (A.ints xs) λns=>gd (kvs.length<sizeLine) (.ok Unit.unit<|S.set n<|.dct<|putD kvs ns v)
 | _,_=>.no
abbrev abx (X:Cx):Mp:=λo i v H Q=>∃ρ S ao ai av,Rel X.K ρ H S/\AV X.K ρ H ao o/\AV X.K ρ H ai i/\AV X.K ρ H av v/\(FY ao ai av S).post (λ_ S'=>∀ρ' H',Ext ρ ρ' H H'->Rel X.K ρ' H' S'->Q H') (XE X ρ H)
def Uy(hu:X.A.units+64<cLine):MS X (abx X):=λpins s σ H o i v ov iv u Q I ro ri rv h9=>by
 obtain⟨ρ,S,ao,ai,av,R,h1,h2,h3,h⟩:=h9
 cases h1 with
 | @ref p n hp=>
  cases h2 with
  | @tup q xs vs hq r=>
   obtain⟨kvs,hn,h⟩:=jU h;obtain⟨ns,hi,h⟩:=jU h;obtain⟨hl,h⟩:=ki h;obtain⟨ks,e,d,hq',g⟩:=EM R hp hn hq r hi;obtain⟨ex,R'⟩:=R.putD hp (pF hn)<|d.put h3 ns;exact set_dict () pins s σ H _ _ v ov iv u Q I ro ri rv ⟨p,_,rfl,F2.t e hq'<|by rw[<- d.length];exact hl,h _ _ ex R'⟩
  | _=>exact h.elim
 | _=>exact h.elim
abbrev Mf (co ci:Ex):Tg:=λa τ S=>(co τ S).bind λo S1=>(ci τ S1).bind λi S2=>(FY o i a S2).bind λ_ S3=>.ok τ S3
def AB(hu:X.A.units+64<cLine){co ci:Ex}(ho:AE X o co)(hi:AE X i ci)
  (ha:∀v,assign (.Subscript o i pos) X.env v=(do
   let ov <- holding [v] (eval o X.env)
   let iv <- holding [v,ov] (eval i X.env)
   standAt pos
   holding [v,ov,iv] (setItem ov iv v)
   release [v,ov,iv] []):=by intro _;rfl):AG X (.Subscript o i pos) (Mf co ci):=PG.imp (Ii ho hi (Uy hu) ha) λv σ H Q h9=>by
 obtain⟨ρ,S,τ,a,R,r,va,h⟩:=h9;kd_p;kcj_m;cb_eq
abbrev ya:Ex:=λ_ S=>.ok (.ref S.length)<|S++[.dct []]
def uE:AE X (.Dict [] [] pos) ya:=PE.imp Ry λσ H Q ⟨ρ,S,τ,R,r,h⟩ p hp=>by
 obtain⟨ex,R',hl⟩:=R.abC (xs:=[]) (vs:=[]) hp trivial;exact h _ _ _ ex R'<|.ref hl
abbrev dct? (a:A)(S:jM):Option Unit:=match a with
 | .ref n=>(ko S n).map λ_=>Unit.unit
 | _=>none
abbrev UU (f:A->ae->jM->R A)(co:Ex)(d:sW):Ex:=λτ S=>(co τ S).bind λx S1=>opt (dct? x S1) λ_=>(d τ S1).bind λas S2=>f x as S2
def dct?_ty{K:au}{H:Hp}{x:A}{v:V}(R:Rel K ρ H S)(a:AV K ρ H x v)(e:dct? x S=some u):Zn K "dict" v H:=by
 cases a with
 | @ref p n h=>
  obtain⟨xs,hx,_⟩:=aY.mp e;obtain⟨vs,h1,_⟩:=R.dct h<|pF hx;exact .inr<|.inr<|.inl ⟨rfl,.inr ⟨vs,h1⟩⟩
 | _=>cases e
def Oc{e:aC}{id:String}{apos cpos:Pos}{f:A->ae->jM->R A}{co:Ex}{d:sW}(slot:Slot "dict" name id)(hty:typeOf (.builtin id)=pure (.type "method_descriptor"))(hm:UJ X id<|rM X f)(ho:AE X o co)(ha:AL X (e::es) d)
  (hbase:attributeBase o name X.env (eval o X.env)=eval o X.env:=by rfl)
  (hfew:((backTo cpos<|starEach (e::es) X.env).all (λx=>!x.1) && (backToKw cpos<|keywordEach [] X.env).all (λx=>x.1.isSome)
   && decide ((e::es).length+([]:List Keyword).length+(if ([]:List Keyword).isEmpty then 0 else 1)<30))=true:=by rfl)
  (hline:(apos.endLine == cpos.line)=true:=by rfl) (hs:starEach (e::es) X.env=(false,eval e X.env)::starEach es X.env:=by rfl) (hplain:(backTo cpos<|starEach es X.env).any (·.1)=false:=by rfl) :
  AE X (.Call (.Attribute o name apos) (e::es) [] cpos) (UU f co d):=PE.imp (R0 PySem.F.plainAttrs_dict slot hty hm ho ha hbase hfew hline hs hplain) λσ H Q h9=>by
 room;refine⟨ρ,S,τ,R,r,jO (jS h) .refl λx S1 h1 ρ1 H1 v e1 R1 v1=>?_⟩;obtain⟨xs,hx,h1⟩:=jU h1;refine⟨dct?_ty R1 v1 hx,ρ1,S1,τ,R1,r.ext e1,jO (jS h1) e1 λas S2 h2 ρ2 H2 vs e2 R2 v2=>?_⟩;kst_p
abbrev Ve (o:A)(as:ae)(S:jM):R A:=match o,as with
 | .ref n,[.tup xs,y]=>opt (ko S n) λkvs=>opt (A.ints xs) λk=>.ok ((mG kvs k).getD y) S
 | _,_=>.no
def Wc(hu:X.A.units+64<cLine):UJ X "dict.get" (rM X Ve):=λpins s σ H x vs v us Q I rx rv h9=>by
 obtain⟨ρ,S,o,as,R,vo,va,h⟩:=h9
 cases vo with
 | @ref p n hp=>
  match as,va,h with
  | [],_,h=>exact h.elim
  | [z],_,h=>exact(by cases z<;>exact h.elim)
  | z::_::_::_,_,h=>exact(by cases z<;>exact h.elim)
  | [z,y],va,h=>
   obtain⟨w1,w2,rfl,hz,hy⟩:=Y4 va
   cases hz with
   | @tup q xs ws hq rr=>
    obtain⟨kvs,hn,h⟩:=jU h;obtain⟨ns,hi,h⟩:=jU h;have z:=Ay rr hi;subst z;obtain⟨ks,h1,dv⟩:=R.dct hp<|pF hn;refine S_ (by omega) pins s σ H _ _ v us Q I rx rv ⟨p,q,ns.map Sum.inl,ks,w2,rfl,rfl,h1,by rw[J1];exact hq,h _ _ _ .refl R ?_⟩;obtain⟨l1,l2⟩:=dv.look ns
    cases e1:mG kvs ns with
    | none=>
     rw[e1]at l1
     cases e2:qY ks (ns.map Sum.inl)with
     | none=>exact hy
     | some _=>rw[e2]at l1;cases l1
    | some x1=>
     obtain⟨v1,e2,a1⟩:=l2 x1 e1;rw[e2];exact a1
   | _=>exact h.elim
 | _=>exact h.elim
end
section
variable {X:Cx}{pos:Pos}{a b:aC}
abbrev Dm (n m k:Nat):Src:=⟨k,λi S=>(jK S n).bind λxs=>(jK S m).bind λys=>(xs[i]?).bind λx=>(ys[i]?).map λy=>.tup [x,y],λS=>match jK S n,jK S m with
 | some xs,some ys=>decide (xs.length<=k) || decide (ys.length<=k)
 | _,_=>false⟩
abbrev acF (a b:A)(S:jM):R Src:=match a,b with
 | .ref n,.ref m=>opt (jK S n) λxs=>opt (jK S m) λys=>.ok (Dm n m<|min xs.length ys.length) S
 | _,_=>.no
abbrev JT (c d:Ex):Ic:=λτ S=>(c τ S).bind λa S1=>(d τ S1).bind λb S2=>acF a b S2
def XU{K:au}{ρ0:bb}{H0:Hp}{p q:ak}{n m k:Nat}(hp:ρ0[n]?=some p)(hq:ρ0[m]?=some q):JR K (Dm n m k) (Itz K p q) ρ0 H0 where
 go:=λi S H ρ x e R g=>by
  obtain⟨xs,hn,g⟩:=bX.mp g;obtain⟨ys,hm,g⟩:=bX.mp g;obtain⟨x1,hx,g⟩:=bX.mp g;obtain⟨y1,hy,rfl⟩:=aY.mp g;obtain⟨vs,h1,r1⟩:=R.lst (e.get hp)<|j0 hn;obtain⟨ws,h2,r2⟩:=R.lst (e.get hq)<|j0 hm;obtain⟨v,ev,av⟩:=r1.get hx;obtain⟨w,ew,aw⟩:=r2.get hy;refine⟨⟨vs,ws,v,w,nJ.of h1,nJ.of h2,ev,ew⟩,λu H' z=>?_⟩;obtain⟨T,hT,rfl,hz⟩:=z;have hz':=hz vs ws v w (nJ.of h1) (nJ.of h2) ev ew;subst hz';obtain⟨ex,R'⟩:=R.im (u:=.tup [v,w]) hT;exact⟨ex,R',.tup kZ<|.cons (av.ext ex)<|.cons (aw.ext ex) .nil⟩
 stop:=λS H ρ e R hf=>by
  have hf:(match jK S n,jK S m with
   | some xs,some ys=>decide (xs.length<=k) || decide (ys.length<=k)
   | _,_=>false)=true:=hf
  cases hn:jK S n with
  | none=>rw[hn]at hf;cases hf
  | some xs=>
   cases hm:jK S m with
   | none=>rw[hn,hm]at hf;cases hf
   | some ys=>
    rw[hn,hm]at hf;obtain⟨vs,h1,r1⟩:=R.lst (e.get hp)<|j0 hn;obtain⟨ws,h2,r2⟩:=R.lst (e.get hq)<|j0 hm;refine⟨vs,ws,nJ.of h1,nJ.of h2,?_⟩;rw[eY,eY,<- r1.length,<- r2.length];have hf:(decide (xs.length<=k) || decide (ys.length<=k))=true:=hf;rw[iN,eF,eF]at hf;exact hf
def YG{p:Pos}{c d:Ex}(hm:X.mg "zip" = none)(ha:AE X a c)(hb:AE X b d)(hg:Gl X "zip" := by rfl)(hs:starEach [a,b] X.env=(false,eval a X.env)::starEach [b] X.env:=by rfl)(hs2:starEach [b] X.env=[(false,eval b X.env)]:=by rfl)(hpl:(backTo pos<|starEach [b] X.env).any (·.1)=false:=by rfl) :
  AI X (.Tuple elts x1 tpos) (.Call (.Name "zip" p) [a,b] [] pos) (JT c d):=λpins s σ H Q I h9=>by
 room;refine Xh hg hm (n6 ha (n6 hb vc hs2) hs) hs hpl pins s σ H Q I ⟨ρ,S,τ,R,r,jO (jS h) .refl λx S1 h1 ρ1 H1 v e1 R1 v1=>⟨ρ1,S1,τ,R1,r.ext e1,jO (jS h1) e1 λy S2 h2 ρ2 H2 w e2 R2 v2=>?_⟩⟩;have v1':=v1.ext e2
 cases v1' with
 | @ref p n hp=>
  cases v2 with
  | @ref q m hq=>
   obtain⟨xs,hn,h2⟩:=jU h2;obtain⟨ys,hm',h2⟩:=jU h2;obtain⟨vs,g1,r1⟩:=R2.lst hp<|j0 hn;obtain⟨ws,g2,r2⟩:=R2.lst hq<|j0 hm';exact⟨_,_,vs,ws,rfl,nJ.of g1,nJ.of g2,h2 ρ2 H2 _ (e1.trans e2) R2<|XU hp hq⟩
  | _=>exact h2.elim
 | _=>exact h2.elim
def Ra{c d:Ex}{n:Nat}{xs ys:ae}(h1:c τ S=.ok (.ref n) S1)(h2:d τ S1=.ok (.ref m) S2)(hn:jK S2 n=some xs)(hm:jK S2 m=some ys):JT c d τ S=.ok (Dm n m<|min xs.length ys.length) S2:=by
 unfold JT;rw[h1];show(d τ S1).bind _=_;rw[h2];show opt (jK S2 n) _=_;rw[hn]
 skip
 rw[hm];rfl
end
section
variable {X:Cx}{pos:Pos}{a tg:aC}
abbrev KC (n k:Nat):Src:=⟨k,λi S=>(jK S n).bind λxs=>if i<k then xs[k-1-i]? else none,λ_=>true⟩
abbrev kRv (a:A)(S:jM):R Src:=match a with
 | .ref n=>opt (jK S n) λxs=>.ok (KC n xs.length) S
 | _=>.no
abbrev VN (c:Ex):Ic:=λτ S=>(c τ S).bind λa S1=>kRv a S1
def aaT{K:au}{ρ0:bb}{H0:Hp}{p:ak}{n k:Nat}(hp:ρ0[n]?=some p):JR K (KC n k) (Itv K p k) ρ0 H0 where
 go:=λi S H ρ x e R g=>by
  obtain⟨xs,hn,g⟩:=bX.mp g;by_cases hi:i<k
  ·rw[aL hi]at g;obtain⟨vs,h1,r1⟩:=R.lst (e.get hp)<|j0 hn;obtain⟨v,ev,av⟩:=r1.get g;refine⟨⟨hi,vs,v,nJ.of h1,ev⟩,λw H' z=>?_⟩;obtain⟨rfl,hz⟩:=z;rw[hz vs v (nJ.of h1) ev];exact⟨.refl,R,av⟩
  ·rw[aJ hi]at g;cases g
 stop:=λS H ρ e R hf=>aO _
def Q2{p:Pos}{c:Ex}(hm:X.mg "reversed" = none)(ha:AE X a c)(hg:Gl X "reversed" := by rfl)(hs:starEach [a] X.env=[(false,eval a X.env)]:=by rfl):AI X tg (.Call (.Name "reversed" p) [a] [] pos) (VN c):=λpins s σ H Q I h9=>by
 room;refine XC hg hm (n6 ha vc hs) hs pins s σ H Q I ⟨ρ,S,τ,R,r,jO (jS h) .refl λx S1 h1 ρ1 H1 v e1 R1 v1=>?_⟩
 cases v1 with
 | @ref p n hp=>
  obtain⟨xs,hn,h1⟩:=jU h1;obtain⟨vs,g1,r1⟩:=R1.lst hp<|j0 hn;exact⟨_,vs,rfl,nJ.of g1,h1 ρ1 H1 _ e1 R1<|by rw[<- r1.length];exact aaT hp⟩
 | _=>exact h1.elim
def N8{c:Ex}{n:Nat}{xs:ae}(h:c τ S=.ok (.ref n) S1)(hn:jK S1 n=some xs):VN c τ S=.ok (KC n xs.length) S1:=by
 unfold VN;rw[h];show opt (jK S1 n) _=_;rw[hn];rfl
end
abbrev acy (F:ae->jM->R A)(d:sW):Ex:=λτ S=>(d τ S).bind λas S1=>F as S1
abbrev bmV:ba:=[.type "ValueError",.type "Exception",.type "BaseException",.type "object"]
abbrev U_:List (Str ⊕ Ex)->ae->jM->R Unit
 | [],_,S=>.ok Unit.unit S
 | .inl _::ps,τ,S=>U_ ps τ S
 | .inr e::ps,τ,S=>(e τ S).bind λv S1=>match v with
  | .int i=>gd (i.natAbs.log2<64) (U_ ps τ S1)
  | _=>.no
abbrev Ys (c:Str)(ps:List<|Str ⊕ Ex):Sm:=λτ S=>.of (U_ ps τ S) λ_ S1=>.ex c S1
abbrev V8 (i:Nat):RS->RS
 | .nx τ S=>.nx (τ.set i .unb) S
 | .bk τ S=>.bk (τ.set i .unb) S
 | .ct τ S=>.ct (τ.set i .unb) S
 | .rt a S=>.rt a S
 | _=>.no
abbrev aap (i n:Nat)(cs:ar)(c d:Sm):Sm:=λτ S=>match c τ S with
 | .ex x S1=>if x∈cs then V8 i (d ((List.replicate n .unb).set i<|.exn x) S1)else .no
 | r=>r
abbrev abG (f:Str->bj)(c:Ex):Ex:=λτ S=>(c τ S).bind λv S1=>match v with
 | .exn x=>opt (f x) λb=>.ok (.bl b) S1
 | _=>.no
structure ExcK (K:au)(U:ak)(c:Str)(C:ak):Prop where
 n:ClN K c C
 q:PySem.W.excIn K C bmV "ValueError.__new__" = true
 r:L2.mroIn K C=some (.ref U::bmV)
 x:XCls K C
 cl:(PySem.W.clsIn K C).isSome=true
 v:PySem.W.kitOne K (.ref C) (.type "ValueError")=some true
abbrev tbX (tb:List<|Str×Bool):Str->bj:=λx=>tb.lookup x
abbrev Zu (F:ae->jM->R A)(d:sW):Ex:=λτ S=>match d τ S with
 | .ok as S1=>F as S1
 | _=>.no
section
variable {d:sW}
abbrev ZM (t:Te)(c d:Sm):Sm:=λτ S=>match t τ S with
 | .ok true S1=>c τ S1
 | .ok false S1=>d τ S1
 | _=>.no
end
abbrev VE (i:Nat)(cs:ar)(c d:Sm):Sm:=λτ S=>match c τ S with
 | .ex x S1=>if x∈cs then V8 i (d (τ.set i<|.exn x) S1)else .no
 | r=>r
abbrev sNo:Sm:=λ_ _=>.no
def V6{X:Cx}{st:aE}:AS X st sNo:=PS.imp P0 λD σ H ⟨ρ,S,τ,R,r,h⟩=>h.elim
def MY{K:au}{H:Hp}{a:ak}{ns:ag}{F:ae->jM->R A}(hO:Vo H)(hS:nJ K H a<|ns.map V.int)(h:∃S',F [.frz<|ns.map .int] []=.ok (.bl true) S'):qR K 1 F [.ref a] H (λv _=>v=.bl true) λ_ _ _=>False:=by
 obtain⟨S',h⟩:=h;have fz:Fz K H a (ns.map V.int):=by
  rcases hS with(h|⟨o,h⟩)|h
  ·rcases hO a with z|⟨ob,xs,z⟩
   ·rw[h]at z;cases z
   ·rw[h]at z;cases z
  ·exact .inl ⟨o,h⟩
  ·exact .inr h
 exact⟨rfl,[],[],_,_,S',⟨rfl,d9,λn a o h=>by simp at h⟩,.cons (.frz fz<|q_ ns) .nil,h,λρ' H' v _ _ hv=>FG hv⟩
section
variable {P:aj}{w:ah}{K:au}{mg:Str->bd}{base:aq}{f:ak}{fd:FuncData}{ps:ar}{k n:Nat}
def Y9(h:n=ps.length):FnOk P w K mg base qm k f fd ps (qR K n λ_ _=>.no):=
 ⟨λ_ _ _ _ z=>z.1.trans h,λ_ _ _ _ _ _ _ _ _ _ _ _ _ z=>by obtain⟨_,_,_,_,_,_,_,_,e,_⟩:=z;cases e⟩
end
def JX{P:ba->Prop}(h:∀a0,P [a0]):∀us:ba,us.length=1->P us
 | [_],_=>h _
def Cz{P:ba->Prop}(h:∀a0 a1,P [a0,a1]):∀us:ba,us.length=2->P us
 | [_,_],_=>h _ _
def YE{n:Nat}{us:ba}(h:us.length=n+1):∃a t,us=a::t/\t.length=n:=by
 cases us with
 | nil=>simp at h
 | cons a t=>exact⟨a,t,rfl,by simpa using h⟩
def us3{P:ba->Prop}(h:∀a0 a1 a2,P [a0,a1,a2]):∀us:ba,us.length=3->P us:=λus e=>by
 obtain⟨a0,t0,rfl,e0⟩:=YE e;obtain⟨a1,t1,rfl,e1⟩:=YE e0;obtain⟨a2,t2,rfl,e2⟩:=YE e1
 cases eE.mp e2
 exact h _ _ _
end Am
namespace Am
open PySem L2
section
variable {α β:Type}{a b:A}{S S1:jM}{τ:ae}{x:α}
@[simp]def R.pX {f:α->jM->R β}:(R.ok x S).bind f=f x S:=rfl
@[simp]def R.KY {f:α->jM->R β}{c:Str}:(R.ex c S:R α).bind f=.ex c S:=rfl
@[simp]def R.l9 {f:α->jM->R β}:(R.ok x S).uS f=f x S:=rfl
@[simp]def RS.of_ok {f:α->jM->RS}:RS.of (R.ok x S) f=f x S:=rfl
@[simp]def RS.V7 {f:α->jM->RS}{c:Str}:RS.of (R.ex c S:R α) f=.ex c S:=rfl
@[simp]def kL {f:β->R α}{y:β}:opt (some y) f=f y:=rfl
@[simp]def LF {r:R α}:gd True r=r:=aL trivial
theorem m7{c:Prop}[Decidable c]{r:R α}(h:c):gd c r=r:=aL h
@[simp]def JY {i:Nat}:jI i τ S=bif (τ.getD i .unb).qX then .no else .ok (τ.getD i .unb) S:=by unfold jI;cases(τ.getD i .unb).qX<;>rfl
@[simp]def JS {xs:ae}:A.qX (.tup xs)=false:=rfl
@[simp]def Lk {xs:ae}:A.qX (.frz xs)=false:=rfl
@[simp]def Lq {i:Int}:A.qX (.int i)=false:=rfl
@[simp]def Rw {i:Bool}:A.qX (.bl i)=false:=rfl
@[simp]def Ly {i:Str}:A.qX (.str i)=false:=rfl
@[simp]def J5 {i:Nat}:A.qX (.ref i)=false:=rfl
@[simp]def Jw:A.qX .non=false:=rfl
@[simp]def K5 {i j:Int}:A.qX (.rng i j)=false:=rfl
@[simp]def Jq {c:Str}:A.qX (.exn c)=false:=rfl
@[simp]def VZ:eC a τ S=.ok a S:=rfl
abbrev Z3 (f:A->A->jM->R A)(cb:Ex)(τ:ae)(a:A)(S:jM):R A:=(cb τ S).bind<|f a
@[simp]def LO {f:A->A->jM->R A}{cb:Ex}:Z3 f cb τ a S=(cb τ S).bind (f a):=rfl
@[simp]def Ll {f:A->A->jM->R A}{ca cb:Ex}:jT f ca cb τ S=(ca τ S).bind (Z3 f cb τ):=rfl
@[simp]def OM {f:A->jM->R A}{ca:Ex}:Hz f ca τ S=(ca τ S).bind f:=rfl
@[simp]def LY {c:Ex}:tX c τ S=(c τ S).bind λa S1=>opt (a.VY S1) λb=>.ok b S1:=rfl
abbrev aB (a:A)(S:jM):R Bool:=match a with
 | .bl b=>.ok b S
 | _=>.no
@[simp]def VD {b:Bool}:aB (.bl b) S=.ok b S:=rfl
@[simp]def Ri {c:Ex}:uW c τ S=(c τ S).bind aB:=rfl
@[simp]def JK {c:Te}:Br c τ S=(c τ S).bind λb S1=>.ok (!b) S1:=rfl
abbrev Y6 (d:Te)(τ:ae)(b:Bool)(S:jM):R Bool:=match b with|true=>d τ S|false=>.ok false S
abbrev kOr (d:Te)(τ:ae)(b:Bool)(S:jM):R Bool:=match b with|true=>.ok true S|false=>d τ S
@[simp]def Sb {d:Te}:Y6 d τ true S=d τ S:=rfl
@[simp]def PK {d:Te}:Y6 d τ false S=.ok false S:=rfl
@[simp]def V_ {d:Te}:kOr d τ true S=.ok true S:=rfl
@[simp]def Wf {d:Te}:kOr d τ false S=d τ S:=rfl
@[simp]def JF {c d:Te}:Vj c d τ S=(c τ S).bind (Y6 d τ):=rfl
@[simp]def QI {c d:Te}:OQ c d τ S=(c τ S).bind (kOr d τ):=rfl
@[simp]def JC:xC τ S=.ok true S:=rfl
abbrev QZ (d:Ex)(τ:ae)(a:A)(S:jM):R A:=match a with | .bl true=>d τ S | .bl false=>.ok (.bl false) S|_=>.no
abbrev WE (d:Ex)(τ:ae)(a:A)(S:jM):R A:=match a with | .bl true=>.ok (.bl true) S | .bl false=>d τ S|_=>.no
@[simp]def LJ {d:Ex}:QZ d τ (.bl true) S=d τ S:=rfl
@[simp]def Lb {d:Ex}:QZ d τ (.bl false) S=.ok (.bl false) S:=rfl
@[simp]def QV {d:Ex}:WE d τ (.bl true) S=.ok (.bl true) S:=rfl
@[simp]def NC {d:Ex}:WE d τ (.bl false) S=d τ S:=rfl
@[simp]def Jv {c d:Ex}:Rv c d τ S=(c τ S).bind (QZ d τ):=by
 unfold Rv
 cases c τ S with
 | ok a S1=>cases a<;>first|rfl|(rename_i b;cases b<;>rfl)
 | _=>rfl
@[simp]def Py {c d:Ex}:eOr c d τ S=(c τ S).bind (WE d τ):=by
 unfold eOr
 cases c τ S with
 | ok a S1=>cases a<;>first|rfl|(rename_i b;cases b<;>rfl)
 | _=>rfl
abbrev Wq (a:A)(S:jM):R A:=match a with | .bl b=>.ok (.bl !b) S|_=>.no
@[simp]def Hu {b:Bool}:Wq (.bl b) S=.ok (.bl !b) S:=rfl
@[simp]def La {c:Ex}:Zc c τ S=(c τ S).bind Wq:=rfl
abbrev X8 (c d:Ex)(τ:ae)(b:Bool)(S:jM):R A:=match b with|true=>c τ S|false=>d τ S
@[simp]def Om {c d:Ex}:X8 c d τ true S=c τ S:=rfl
@[simp]def Qc {c d:Ex}:X8 c d τ false S=d τ S:=rfl
@[simp]def Og {t:Te}{c d:Ex}:eIf t c d τ S=(t τ S).bind (X8 c d τ):=rfl
@[simp]def KP:jR τ S=.ok [] S:=rfl
abbrev IA (a:A)(as:ae)(S:jM):R (ae):=.ok (a::as) S
abbrev Vs (d:sW)(τ:ae)(a:A)(S:jM):R (ae):=(d τ S).bind<|IA a
@[simp]def C9 {as:ae}:IA a as S=.ok (a::as) S:=rfl
@[simp]def GU {d:sW}:Vs d τ a S=(d τ S).bind (IA a):=rfl
@[simp]def Ht {c:Ex}{d:sW}:jH c d τ S=(c τ S).bind (Vs d τ):=rfl
@[simp]def K7 {d:sW}:mW d τ S=(d τ S).bind λas S1=>gd (as.length<=sizeLine) (.ok (.tup as) S1):=rfl
@[simp]def KO {d:sW}:pC d τ S=(d τ S).bind newL:=rfl
theorem kM{as:ae}(h:as.length<=16777216):newL as S=.ok (.ref S.length) (S++[.lst as]):=m7<|by rw[dw];exact h
@[simp]def Fq {f:ae->jM->R A}{d:sW}:j9 f d τ S=(d τ S).bind f:=rfl
abbrev okR (r:R A):R A:=match r with
 | .ok a S=>.ok a S
 | _=>.no
@[simp]def RB:okR (.ok a S)=.ok a S:=rfl
abbrev kFn (f:ae->jM->R A)(as:ae)(S:jM):R A:=okR<|f as S
@[simp]def Ot {f:ae->jM->R A}{as:ae}:kFn f as S=okR (f as S):=rfl
@[simp]def Ro {f:ae->jM->R A}{d:sW}:eFn f d τ S=(d τ S).bind (kFn f):=rfl
@[simp]def VS {g:A->jM->R A}:f1 g [a] S=g a S:=rfl
@[simp]def V9 {g:A->A->jM->R A}:f2 g [a,b] S=g a b S:=rfl
abbrev XZ (h:Pt)(τ:ae)(a:A)(l:bi)(S:jM):R A:=(h τ S).bind<|Ni a l
abbrev kSl (l h:Pt)(τ:ae)(a:A)(S:jM):R A:=(l τ S).bind<|XZ h τ a
@[simp]def Li {h:Pt}{l:bi}:XZ h τ a l S=(h τ S).bind (Ni a l):=rfl
@[simp]def OV {l h:Pt}:kSl l h τ a S=(l τ S).bind (XZ h τ a):=rfl
@[simp]def RE {c:Ex}{l h:Pt}:Zh c l h τ S=(c τ S).bind (kSl l h τ):=rfl
@[simp]def GB:wY τ S=.ok none S:=rfl
abbrev aPt (a:A)(S:jM):R (bi):=match a with
 | .int i=>.ok (some i) S
 | _=>.no
@[simp]def KD {i:Int}:aPt (.int i) S=.ok (some i) S:=rfl
@[simp]def Gm {c:Ex}:wQ c τ S=(c τ S).bind aPt:=rfl
abbrev Xc (f:A->ae->jM->R A)(d:sW)(τ:ae)(o:A)(S:jM)(_:ae):R A:=(d τ S).bind<|f o
abbrev kMe (f:A->ae->jM->R A)(d:sW)(τ:ae)(o:A)(S:jM):R A:=opt (o.lst? S)<|Xc f d τ o S
@[simp]def J3 {f:A->ae->jM->R A}{d:sW}{xs:ae}:Xc f d τ a S xs=(d τ S).bind (f a):=rfl
@[simp]def Pz {f:A->ae->jM->R A}{d:sW}:kMe f d τ a S=opt (a.lst? S) (Xc f d τ a S):=rfl
@[simp]def P7 {f:A->ae->jM->R A}{c:Ex}{d:sW}:Ze f c d τ S=(c τ S).bind (kMe f d τ):=rfl
@[simp]def Jz {f:A->ae->jM->R A}{c:Ex}:acn f c τ S=(c τ S).bind λo S1=>opt (o.lst? S1) λ_=>f o [] S1:=rfl
@[simp]def lst?_ref {n:Nat}:A.lst? S (.ref n)=jK S n:=rfl
abbrev RS.seq (r:RS)(d:Sm):RS:=match r with
 | .nx τ S=>d τ S
 | r=>r
@[simp]def RS.NK {d:Sm}:RS.seq (.nx τ S) d=d τ S:=rfl
@[simp]def RS.Oj {d:Sm}:RS.seq (.rt a S) d=.rt a S:=rfl
@[simp]def RS.Ny {d:Sm}{c:Str}:RS.seq (.ex c S) d=.ex c S:=rfl
@[simp]def RS.NS {d:Sm}:RS.seq (.bk τ S) d=.bk τ S:=rfl
@[simp]def RS.OB {d:Sm}:RS.seq (.ct τ S) d=.ct τ S:=rfl
@[simp]def Lx {c d:Sm}:kg c d τ S=RS.seq (c τ S) d:=by unfold kg RS.seq;cases c τ S<;>rfl
@[simp]def KJ:qM τ S=.nx τ S:=rfl
@[simp]def DG:Xp τ S=.bk τ S:=rfl
@[simp]def G1:ZD τ S=.ct τ S:=rfl
@[simp]def Ft {e:Ex}:p8 e τ S=RS.of (e τ S) λ_ S1=>.nx τ S1:=rfl
@[simp]def KS {e:Ex}:lN e τ S=RS.of (e τ S) .rt:=rfl
@[simp]def F9:aaL τ S=.rt .non S:=rfl
abbrev kIf (c d:Sm)(τ:ae)(b:Bool)(S:jM):RS:=match b with|true=>c τ S|false=>d τ S
@[simp]def Wm {c d:Sm}:kIf c d τ true S=c τ S:=rfl
@[simp]def VC {c d:Sm}:kIf c d τ false S=d τ S:=rfl
@[simp]def Od {t:Te}{c d:Sm}:Aj t c d τ S=RS.of (t τ S) (kIf c d τ):=rfl
abbrev Zv (g:Tg)(τ:ae)(a:A)(S:jM):RS:=RS.of (g a τ S) .nx
@[simp]def KH {g:Tg}:Zv g τ a S=RS.of (g a τ S) .nx:=rfl
@[simp]def J0 {e:Ex}{g:Tg}:kG e g τ S=RS.of (e τ S) (Zv g τ):=rfl
@[simp]def RC {i:Nat}:kD i a τ S=.ok (τ.set i a) S:=rfl
abbrev Wx (a o:A)(τ:ae)(i:A)(S:jM):R (ae):=(G_ o i a S).bind λ_ S3=>.ok τ S3
abbrev kSb (ci:Ex)(τ:ae)(a o:A)(S:jM):R (ae):=(ci τ S).bind<|Wx a o τ
@[simp]def Lm {o i:A}:Wx a o τ i S=(G_ o i a S).bind λ_ S3=>.ok τ S3:=rfl
@[simp]def Rk {ci:Ex}{o:A}:kSb ci τ a o S=(ci τ S).bind (Wx a o τ):=rfl
@[simp]def Ol {co ci:Ex}:YV co ci a τ S=(co τ S).bind (kSb ci τ a):=rfl
@[simp]def PU {n:Nat}{gs:Sl}{xs:ae}:xD n gs (.tup xs) τ S=gd (xs.length=n) (gs xs τ S):=rfl
@[simp]def Pq:xB [] τ S=.ok τ S:=rfl
@[simp]def Pw {g:Tg}{gs:Sl}{as:ae}:oR g gs (a::as) τ S=(g a τ S).bind (gs as):=rfl
abbrev sPr (i j:Nat)(τ:ae)(as:ae)(S:jM):RS:=match as with
 | [a,b]=>.nx ((τ.set i a).set j b) S
 | _=>.no
@[simp]def QE {i j:Nat}:sPr i j τ [a,b] S=.nx ((τ.set i a).set j b) S:=rfl
@[simp]def KA {i j:Nat}{c:sW}:abO i j c τ S=RS.of (c τ S) (sPr i j τ):=rfl
abbrev O3 (i:Nat)(τ:ae)(c:A)(S:jM):RS:=.nx (τ.set i c) S
abbrev aaX (i:Nat)(f:A->A->jM->R A)(τ:ae)(b:A)(S:jM):RS:=.of (f (τ.getD i .unb) b S)<|O3 i τ
@[simp]def GA {i:Nat}:O3 i τ a S=.nx (τ.set i a) S:=rfl
@[simp]def JO {i:Nat}{f:A->A->jM->R A}:aaX i f τ a S=.of (f (τ.getD i .unb) a S) (O3 i τ):=rfl
@[simp]def Ln {i:Nat}{f:A->A->jM->R A}{e:Ex}:aaA i f e τ S=bif (τ.getD i .unb).qX then .no else .of (e τ S) (aaX i f τ):=by
 unfold aaA;cases(τ.getD i .unb).qX<;>rfl
abbrev kS5 (o i:A)(τ:ae)(z:A)(S:jM):RS:=.of (G_ o i z S) λ_ S6=>.nx τ S6
abbrev kS4 (f:A->A->jM->R A)(o i x:A)(τ:ae)(y:A)(S:jM):RS:=.of (f x y S)<|kS5 o i τ
abbrev kS3 (ce:Ex)(f:A->A->jM->R A)(o i:A)(τ:ae)(x:A)(S:jM):RS:=.of (ce τ S)<|kS4 f o i x τ
abbrev kS2 (ce:Ex)(f:A->A->jM->R A)(o:A)(τ:ae)(i:A)(S:jM):RS:=.of (Ud o i S)<|kS3 ce f o i τ
abbrev kS1 (ci ce:Ex)(f:A->A->jM->R A)(τ:ae)(o:A)(S:jM):RS:=.of (ci τ S)<|kS2 ce f o τ
@[simp]def PM {o i:A}:kS5 o i τ a S=.of (G_ o i a S) λ_ S6=>.nx τ S6:=rfl
@[simp]def Rb {f:A->A->jM->R A}{o i x:A}:kS4 f o i x τ a S=.of (f x a S) (kS5 o i τ):=rfl
@[simp]def Nl {ce:Ex}{f:A->A->jM->R A}{o i:A}:kS3 ce f o i τ a S=.of (ce τ S) (kS4 f o i a τ):=rfl
@[simp]def OX {ce:Ex}{f:A->A->jM->R A}{o:A}:kS2 ce f o τ a S=.of (Ud o a S) (kS3 ce f o a τ):=rfl
@[simp]def Qv {ci ce:Ex}{f:A->A->jM->R A}:kS1 ci ce f τ a S=.of (ci τ S) (kS2 ce f a τ):=rfl
@[simp]def G4 {co ci ce:Ex}{f:A->A->jM->R A}:aaN co ci ce f τ S=RS.of (co τ S) (kS1 ci ce f τ):=rfl
abbrev RS.end (r:RS):R A:=match r with
 | .rt a S'=>.ok a S'
 | .nx _ S'=>.ok .non S'
 | .ex c S'=>.ex c S'
 | _=>.no
@[simp]def RS.Pj:RS.end (.rt a S)=.ok a S:=rfl
@[simp]def RS.Rc:RS.end (.nx τ S)=.ok .non S:=rfl
@[simp]def RS.OH {c:Str}:RS.end (.ex c S)=.ex c S:=rfl
theorem AK {N:ar}{m:Sm}{as:ae}:mz N m as S=RS.end (m (as++List.replicate (N.length-as.length) .unb) S):=by
 unfold mz RS.end;cases m (as++List.replicate (N.length-as.length) .unb) S<;>rfl
@[simp]def RU {i j:Int}:lK (.int i) (.int j) S=.ok (.int<|i+j) S:=rfl
@[simp]def OU {i j:Int}:aSub (.int i) (.int j) S=.ok (.int<|i-j) S:=rfl
@[simp]def PC {i j:Int}:abB (.int i) (.int j) S=.ok (.int<|i+j) S:=rfl
theorem Ox{i j:Int}(h:-18446744073709551616<i)(h':i<18446744073709551616):ET (.int i) (.int j) S=.ok (.int<|i * j) S:=m7<|by unfold JW;simp;left;exact⟨by omega,by omega⟩
def NG{i j:Int}(h:0<j)(h':j<1073741824):Lp (.int i) (.int j) S=.ok (.int<|i / j) S:=m7 ⟨h,()⟩
def GC{i j:Int}(h:0<j):ER (.int i) (.int j) S=.ok (.int<|i % j) S:=m7 h
@[simp]def V0 {i j:Int}:X5 (.int i) (.int j) S=.ok (.bl<|decide<|i<j) S:=rfl
@[simp]def Wn {i j:Int}:aLe (.int i) (.int j) S=.ok (.bl<|decide<|i<=j) S:=rfl
@[simp]def VB {i j:Int}:Mu (.int i) (.int j) S=.ok (.bl<|decide<|j<i) S:=rfl
@[simp]def V3 {i j:Int}:aGe (.int i) (.int j) S=.ok (.bl<|decide<|j<=i) S:=rfl
@[simp]def Vx {i j:Bool}:VJ false (.bl i) (.bl j) S=.ok (.bl<|i == j) S:=rfl
@[simp]def Pa {i j:Bool}:VJ true (.bl i) (.bl j) S=.ok (.bl<|i != j) S:=rfl
@[simp]def O6 {i:Int}:xm (.int i) S=.ok (.int<|-i) S:=rfl
@[simp]def NY {xs:ae}:qP (.tup xs) S=.ok (.int xs.length) S:=rfl
@[simp]def OL {xs:ae}:qP (.frz xs) S=.ok (.int xs.length) S:=rfl
@[simp]def Qy {n:Nat}:qP (.ref n) S=opt (jK S n) λxs=>.ok (.int xs.length) S:=rfl
@[simp]def Q9 {i:Int}:abq (.int i) S=.ok (.int<|if i<0 then -i else i) S:=rfl
@[simp]def JE {i j:Int}:Sf (.int i) (.int j) S=.ok (.int<|if j>i then j else i) S:=rfl
@[simp]def LZ {i j:Int}:N4 (.int i) (.int j) S=.ok (.int<|if j<i then j else i) S:=rfl
@[simp]def KZ {i:Int}:J_ (.int i) S=.ok (.int i) S:=rfl
@[simp]def Jp {i:Bool}:J_ (.bl i) S=.ok (.int<|if i then 1 else 0) S:=rfl
@[simp]def CZ {i j:Int}:AY (.int i) (.int j) S=.ok (.rng i j) S:=rfl
@[simp]def VO {xs:ae}{i:Int}:p_ (.tup xs) (.int i) S=opt (rW xs i) λx=>.ok x S:=rfl
@[simp]def Wl {xs:ae}{i:Int}:p_ (.frz xs) (.int i) S=opt (rW xs i) λx=>.ok x S:=rfl
@[simp]def Vz {n:Nat}{i:Int}:p_ (.ref n) (.int i) S=opt (jK S n) λxs=>opt (rW xs i) λx=>.ok x S:=rfl
@[simp]def NQ {n:Nat}{k:Int}:G_ (.ref n) (.int k) a S=opt (jK S n) λxs=>opt (DJ xs.length k) λj=>.ok Unit.unit (S.set n<|.lst<|xs.set j a):=rfl
@[simp]def Of {n:Nat}{i:Int}:Ud (.ref n) (.int i) S=opt (jK S n) λxs=>gd (0<=i) (opt (xs[i.toNat]?) λx=>.ok x S):=rfl
theorem Nj{i j:Int}(h:BW i j):yv (.rng i j) S=.ok (.ref S.length) (S++[.lst<|(kK i j).map .int]):=m7 h
def IB{i j:Int}(h:BW i j):ux (.rng i j) S=.ok (.tup<|(kK i j).map .int) S:=m7 h
@[simp]def J7 {xs:ae}:yv (.tup xs) S=.ok (.ref S.length) (S++[.lst xs]):=rfl
@[simp]def JL {xs:ae}:yv (.frz xs) S=.ok (.ref S.length) (S++[.lst xs]):=rfl
@[simp]def LQ {n:Nat}:yv (.ref n) S=opt (jK S n) λxs=>.ok (.ref S.length) (S++[.lst xs]):=rfl
@[simp]def F8 {xs:ae}:ux (.tup xs) S=.ok (.tup xs) S:=rfl
@[simp]def FO {n:Nat}:ux (.ref n) S=opt (jK S n) λxs=>.ok (.tup xs) S:=rfl
@[simp]def NZ {xs:ae}:ZU (.tup xs) S=.ok (.tup xs.reverse) S:=rfl
@[simp]def Rm {n:Nat}:ZU (.ref n) S=opt (jK S n) λxs=>.ok (.ref S.length) (S++[.lst xs.reverse]):=rfl
@[simp]def Vv {n:Nat}{l u:bi}:Ni (.ref n) l u S=opt (jK S n) λxs=>.ok (.ref S.length) (S++[.lst<|wJ xs l u]):=rfl
@[simp]def B4 {n:Nat}:AH (.ref n) [a] S=opt (jK S n) λxs=>gd (xs.length<sizeLine) (.ok .non<|S.set n<|.lst<|xs++[a]):=rfl
@[simp]def Q_ {b:Bool}:A.VY (.bl b) S=some b:=rfl
@[simp]def KN {i:Int}:A.VY (.int i) S=some (i != 0):=rfl
theorem Jg{o:O}:(S++[o])[S.length]?=some o:=by simp
@[simp]def jX {xs:ae}:jK (S++[.lst xs]) S.length=some xs:=yj Jg
theorem j8{o:O}{n:Nat}(h:jK S n=some xs):jK (S++[o]) n=some xs:=by
 have h':=j0 h;exact yj<|by rw[bG (aK.mp h').1];exact h'
def oG{n:Nat}(h:jK S n=some xs):n<S.length:=(aK.mp<|j0 h).1
def pW{n:Nat}(h:n<S.length):jK (S.set n<|.lst ys) n=some ys:=yj<|bW h
def ow{n:Nat}(h:n≠m):jK (S.set n<|.lst ys) m=jK S m:=by unfold jK;rw[cB h]
def D6{xs:ae}{i:Int}{k:Nat}{x:A}(h:i=k)(hx:xs[k]?=some x):rW xs i=some x:=by rw[h];exact Tu hx
def Bp{n:Nat}{i:Int}{k:Nat}(h:i=k)(hk:k<n):DJ n i=some k:=by
 subst h;unfold DJ;rw[aL (),aL ()];simp
end
structure Kp (b:Nat->Prop)(S S':jM):Prop where
 len:S.length<=S'.length
 obj:∀(n:Nat) (o:O),¬b n->S[n]?=some o->S'[n]?=some o
meta abbrev lA:=Kp λ_=>False
def Kp.lst{b:Nat->Prop}(h:Kp b S S')(n:Nat)(xs:ae)(hb:¬b n)(e:jK S n=some xs):jK S' n=some xs:=yj<|h.obj n _ hb<|j0 e
def Kp.dct{b:Nat->Prop}(h:Kp b S S')(n:Nat)(xs:List<|ag×A)(hb:¬b n)(e:ko S n=some xs):ko S' n=some xs:=yx<|h.obj n _ hb<|pF e
def Kp.refl{b:Nat->Prop}:Kp b S S:=⟨aO _,λ_ _ _ h=>h⟩
def Kp.trans{b:Nat->Prop}(h:Kp b S S1)(h':Kp b S1 S2):Kp b S S2:=⟨bB h.len h'.len,λn xs hb e=>h'.obj n xs hb<|h.obj n xs hb e⟩
def EE{S:jM}{n:Nat}(e:S[n]?=some o):n<S.length:=(aK.mp e).1
def Kp.lay{b:Nat->Prop}{o:O}(h:Kp b S S1):Kp b S (S1++[o]):=⟨bB h.len<|by simp,λn xs hb e=>by
 have:=h.obj n xs hb e;rw[bG<|EE this];exact this⟩
def Kp.GL{b:Nat->Prop}{S S1:jM}(h:Kp b S S1)(hm:b m\/S.length<=m):Kp b S (S1.set m o):=⟨by rw[bZ];exact h.len,λn xs hb e=>by
 have:m≠n:=λz=>by
  subst z
  rcases hm with z|z
  ·exact hb z
  ·exact absurd (EE e) ()
 rw[cB this];exact h.obj n xs hb e⟩
def Kp.set{b:Nat->Prop}{S S1:jM}(h:Kp b S S1)(hm:b m\/S.length<=m):Kp b S (S1.set m<|.lst ys):=h.GL hm
def Kp.mono{b c:Nat->Prop}{S:jM}(h:Kp b S S1)(hb:∀n,n<S.length->b n->c n):Kp c S S1:=⟨h.len,λn xs hc e=>h.obj n xs (λz=>hc<|hb n (EE e) z) e⟩
def Kp.of0{b:Nat->Prop}(h:lA S S1):Kp b S S1:=h.mono λ_ _ z=>z.elim
def Kp.old{b c:Nat->Prop}{S:jM}(h:Kp b S S1)(h':Kp c S1 S2)(hc:∀n,n<S.length->¬b n->¬c n):Kp b S S2:=⟨bB h.len h'.len,λn xs hb e=>h'.obj n xs (hc n (EE e) hb)<|h.obj n xs hb e⟩
theorem vf{t:Te}{c:Sm}(Inv:ae->jM->Prop)(μ:ae->jM->Nat)(Post:RS->Prop)
  (h:∀τ S,Inv τ S->(∃S1,t τ S=.ok false S1/\Post (.nx τ S1))\/(∃S1,t τ S=.ok true S1/\((∃τ' S',c τ S1=.nx τ' S'/\Inv τ' S'/\μ τ' S'<μ τ S)\/(∃a S',c τ S1=.rt a S'/\Post (.rt a S'))))) :
  ∀n τ S,Inv τ S->μ τ S<n->Post (nL t c n τ S)
 | 0,_,_,_,hn=>absurd hn (e_ _)
 | n+1,τ,S,hi,hn=>by
  unfold nL
  rcases h τ S hi with⟨S1,e,q⟩|⟨S1,e,⟨τ',S',e2,hi',hm⟩|⟨a,S',e2,q⟩⟩
  ·rw[e];exact q
  ·rw[e];show Post (match c τ S1 with
    | .nx τ' S'=>nL t c n τ' S'
    | .ct τ' S'=>nL t c n τ' S'
    | .bk τ' S'=>.nx τ' S'
    | r=>r)
   rw[e2];exact vf Inv μ Post h n τ' S' hi' ()
  ·rw[e];show Post (match c τ S1 with
    | .nx τ' S'=>nL t c n τ' S'
    | .ct τ' S'=>nL t c n τ' S'
    | .bk τ' S'=>.nx τ' S'
    | r=>r)
   rw[e2];exact q
theorem yN{s:Src}{g:Tg}{c:Sm}(Inv:Nat->ae->jM->Prop)(Post:RS->Prop)
  (step:∀i τ S,i<s.k->Inv i τ S->∃x τ1 S1,s.get i S=some x/\g x τ S=.ok τ1 S1/\((∃τ' S',c τ1 S1=.nx τ' S'/\Inv (i+1) τ' S')\/(∃a S',c τ1 S1=.rt a S'/\Post (.rt a S'))))
  (fin:∀τ S,Inv s.k τ S->s.fin S=true/\Post (.nx τ S)):∀k i τ S,k+i=s.k->Inv i τ S->Post (se s g c k i τ S)
 | 0,i,τ,S,hk,hi=>by
  have:i=s.k:=()
  subst this;obtain⟨hf,q⟩:=fin τ S hi;unfold se;rw[aL hf];exact q
 | k+1,i,τ,S,hk,hi=>by
  obtain⟨x,τ1,S1,hx,hg,h⟩:=step i τ S () hi;unfold se;rw[hx];show Post (RS.of (g x τ S) λτ1 S1=>match c τ1 S1 with
   | .nx τ' S'=>se s g c k (i+1) τ' S'
   | .ct τ' S'=>se s g c k (i+1) τ' S'
   | .bk τ' S'=>.nx τ' S'
   | r=>r)
  rw[hg];show Post (match c τ1 S1 with
   | .nx τ' S'=>se s g c k (i+1) τ' S'
   | .ct τ' S'=>se s g c k (i+1) τ' S'
   | .bk τ' S'=>.nx τ' S'
   | r=>r)
  rcases h with⟨τ',S',e,hi'⟩|⟨a,S',e,q⟩
  ·rw[e];exact yN Inv Post step fin k (i+1) τ' S' () hi'
  ·rw[e];exact q
def EZ{lo hi:Int}{c:Sm}{src:Ic}{τ:ae}(hs:src τ S=.ok (vh lo hi) S1)(Inv:Nat->ae->jM->Prop)(Post:RS->Prop)(h0:Inv 0 τ S1)
  (step:∀(i:Nat) τ S,(i:Int)<hi-lo->Inv i τ S->(∃τ' S',c (τ.set j<|.int<|lo+i) S=.nx τ' S'/\Inv (i+1) τ' S')\/(∃a S',c (τ.set j<|.int<|lo+i) S=.rt a S'/\Post (.rt a S')))
  (fin:∀τ S,Inv (hi-lo).toNat τ S->Post (.nx τ S)):Post (kX src (kD j) c τ S):=by
 unfold kX;rw[hs];refine yN (s:=vh lo hi) Inv Post (λi τ S hi' h=>?_) (λτ S h=>⟨rfl,fin τ S h⟩) _ 0 τ S1 rfl h0;have hi':i<(hi-lo).toNat:=hi';exact⟨.int<|lo+i,_,S,aL hi',rfl,step i τ S () h⟩
def Jy{xs:ae}{g:Tg}{c:Sm}{src:Ic}(hs:src τ S=.ok (uA xs) S1)(Inv:Nat->ae->jM->Prop)(Post:RS->Prop)(h0:Inv 0 τ S1)
  (step:∀(i:Nat) x τ S,xs[i]?=some x->Inv i τ S->∃τ1 S1,g x τ S=.ok τ1 S1/\((∃τ' S',c τ1 S1=.nx τ' S'/\Inv (i+1) τ' S')\/(∃a S',c τ1 S1=.rt a S'/\Post (.rt a S'))))
  (fin:∀τ S,Inv xs.length τ S->Post (.nx τ S)):Post (kX src g c τ S):=by
 unfold kX;rw[hs];refine yN (s:=uA xs) Inv Post (λi τ S hi' h=>?_) (λτ S h=>⟨rfl,fin τ S h⟩) _ 0 τ S1 rfl h0;have hi':i<xs.length:=hi';obtain⟨τ1,S1,e,q⟩:=step i xs[i] τ S (aF hi') h;exact⟨xs[i],τ1,S1,aF hi',e,q⟩
def YH{xs:ae}{g:Tg}{c:Sm}{src:Ic}(hs:src τ S=.ok (GV xs) S1)(Inv:Nat->ae->jM->Prop)(Post:RS->Prop)(h0:Inv 0 τ S1)
  (step:∀(i:Nat) x τ S,xs[i]?=some x->Inv i τ S->∃τ1 S1,g (.tup [.int i,x]) τ S=.ok τ1 S1/\((∃τ' S',c τ1 S1=.nx τ' S'/\Inv (i+1) τ' S')\/(∃a S',c τ1 S1=.rt a S'/\Post (.rt a S'))))
  (fin:∀τ S,Inv xs.length τ S->Post (.nx τ S)):Post (kX src g c τ S):=by
 unfold kX;rw[hs];refine yN (s:=GV xs) Inv Post (λi τ S hi' h=>?_) (λτ S h=>⟨rfl,fin τ S h⟩) _ 0 τ S1 rfl h0;have hi':i<xs.length:=hi';obtain⟨τ1,S1,e,q⟩:=step i xs[i] τ S (aF hi') h;exact⟨.tup [.int i,xs[i]],τ1,S1,by show(xs[i]?).map _=_;rw[aF hi'];rfl,e,q⟩
def p5{n:Nat}{xs:ae}{g:Tg}{c:Sm}{src:Ic}(hs:src τ S=.ok (kY n xs.length) S1)(Inv:Nat->ae->jM->Prop)(Post:RS->Prop)(h0:Inv 0 τ S1)(hl:∀i τ S,Inv i τ S->jK S n=some xs)
  (step:∀(i:Nat) x τ S,xs[i]?=some x->Inv i τ S->∃τ1 S1,g x τ S=.ok τ1 S1/\((∃τ' S',c τ1 S1=.nx τ' S'/\Inv (i+1) τ' S')\/(∃a S',c τ1 S1=.rt a S'/\Post (.rt a S'))))
  (fin:∀τ S,Inv xs.length τ S->Post (.nx τ S)):Post (kX src g c τ S):=by
 unfold kX;rw[hs];refine yN (s:=kY n xs.length) Inv Post (λi τ S hi' h=>?_) (λτ S h=>⟨?_,fin τ S h⟩) _ 0 τ S1 rfl h0
 ·have hi':i<xs.length:=hi';obtain⟨τ1,S1,e,q⟩:=step i xs[i] τ S (aF hi') h;exact⟨xs[i],τ1,S1,by show(jK S n).bind _=_;rw[hl i τ S h];exact aF hi',e,q⟩
 ·show(match jK S n with
   | some ys=>decide (ys.length<=xs.length)
   | none=>false)=true
  rw[hl _ τ S h];exact bg<|aO _
@[simp]def Bo {c:Ex}{τ:ae}{S S1:jM}{j:Int}(h:c τ S=.ok (.int j) S1)(hb:bnd j):yw c τ S=.ok (vh 0 j) S1:=by
 unfold yw;rw[h];exact m7 hb
def yJ{c d:Ex}{i j:Int}(h:c τ S=.ok (.int i) S1)(h':d τ S1=.ok (.int j) S2)(hb:bnd i)(hb':bnd j):sj c d τ S=.ok (vh i j) S2:=by
 unfold sj;rw[h];show(d τ S1).bind _=_;rw[h'];exact m7 ⟨hb,hb'⟩
def Y5{c:Ex}(h:c τ S=.ok (.tup xs) S1):mH c τ S=.ok (uA xs) S1:=by unfold mH;rw[h];rfl
def mD{c:Ex}{n:Nat}{xs:ae}(h:c τ S=.ok (.ref n) S1)(hl:jK S1 n=some xs):mH c τ S=.ok (kY n xs.length) S1:=by
 unfold mH;rw[h];show opt (jK S1 n) _=_;rw[hl];rfl
def Zd{c:Ex}(h:c τ S=.ok (.tup xs) S1):TV c τ S=.ok (GV xs) S1:=by unfold TV;rw[h];rfl
theorem wI{s:Src}{g:Tg}{t:Te}{e:Ex}{P:jM->Prop}{T:ae->Prop}(it:Nat->A)(p:Nat->Bool)(f:Nat->A)
  (hget:∀i S,i<s.k->P S->s.get i S=some (it i)) (hfin:∀S,P S->s.fin S=true)
  (step:∀i τ S,i<s.k->T τ->P S->∃τ1 S1 S2,g (it i) τ S=.ok τ1 S1/\t τ1 S1=.ok (p i) S2/\T τ1/\(p i=false->P S2)/\(p i=true->∃S3,e τ1 S2=.ok (f i) S3/\P S3)) :
  ∀k i τ S,k+i=s.k->T τ->P S->∃S',nH s g t e k i τ S=.ok (((List.range' i k).filter p).map f) S'/\P S'
 | 0,i,τ,S,hk,hT,hP=>⟨S,by unfold nH;rw[aL<|hfin S hP];rfl,hP⟩
 | k+1,i,τ,S,hk,hT,hP=>by
  obtain⟨τ1,S1,S2,hg,ht,hT1,hF,hTr⟩:=step i τ S (by omega) hT hP;unfold nH;rw[hget i S (by omega) hP,kL,hg,R.l9,ht,R.l9,List.range'_succ,jk]
  cases hp:p i with
  | false=>
   obtain⟨S',h1,h2⟩:=wI it p f hget hfin step k (i+1) τ1 S2 (by omega) hT1<|hF hp;exact⟨S',by simpa using h1,h2⟩
  | true=>
   obtain⟨S3,he,hP3⟩:=hTr hp;obtain⟨S',h1,h2⟩:=wI it p f hget hfin step k (i+1) τ1 S3 (by omega) hT1 hP3;refine⟨S',?_,h2⟩
   skip
   rw[he,R.l9,h1];rfl
def Dy{s:Src}{src:Ic}{t:Te}{e:Ex}{S1:jM}(hs:src τ S=.ok s S1)(it:Nat->A)(p:Nat->Bool)(f:Nat->A)(hget:∀i,i<s.k->s.get i S1=some (it i))(hfin:s.fin S1=true)
  (ht:∀i,i<s.k->t (it i::mO cap τ) S1=.ok (p i) S1) (he:∀i,i<s.k->p i=true->e (it i::mO cap τ) S1=.ok (f i) S1) (hl:s.k<=16777216) :
  kJ (none::cap) src (kD 0) t e τ S=.ok (.ref S1.length) (S1++[.lst<|((List.range s.k).filter p).map f]):=by
 unfold kJ;rw[hs,R.pX];obtain⟨S',h1,h2⟩:=wI (s:=s) (g:=kD 0) (t:=t) (e:=e) (P:=λS=>S=S1) (T:=λτ'=>∃y,τ'=y::mO cap τ) it p f (λi S hi h=>by subst h;exact hget i hi) (λS h=>by subst h;exact hfin)
  (λi τ' S hi ⟨y,hy⟩ h=>by
   subst h hy;exact⟨it i::mO cap τ,S,S,rfl,ht i hi,⟨_,rfl⟩,λ_=>rfl,λhp=>⟨S,he i hi hp,rfl⟩⟩) s.k 0 (mO (none::cap) τ) S1 rfl ⟨_,rfl⟩ rfl
 subst h2;rw[h1,R.l9,fm];refine kM ?_;rw[aG];refine bB (cN _ _) ?_;rw[List.length_range'];exact hl
def tQ{α β:Type}(xs:List α)(p:α->Bool)(f:α->β):∀(d:α) ,(((List.range xs.length).filter λi=>p<|xs.getD i d).map λi=>f<|xs.getD i d)=(xs.filter p).map f:=by
 intro d
 induction xs with
 | nil=>rfl
 | cons x xs ih=>
  rw[bz,List.range_succ_eq_map,jk,jk];have e:((List.filter (λi=>p<|(x::xs).getD i d)<|List.map Nat.succ<|List.range xs.length).map λi=>f<|(x::xs).getD i d)=(xs.filter p).map f:=by
   rw[iO,bD];rw[<- ih];rfl
  show List.map _ (if p x=true then _ else _)=List.map f (if p x=true then _ else _);by_cases hp:p x=true
  ·rw[aL hp,aL hp,bJ,bJ,e];rfl
  ·rw[aJ hp,aJ hp,e]
def yC{lo hi:Int}{src:Ic}{t:Te}{e:Ex}{S1:jM}(hs:src τ S=.ok (vh lo hi) S1)(p:Int->Bool)(f:Int->A)
  (ht:∀k,lo<=k->k<hi->t (.int k::mO cap τ) S1=.ok (p k) S1) (he:∀k,lo<=k->k<hi->p k=true->e (.int k::mO cap τ) S1=.ok (f k) S1) (hl:(hi-lo).toNat<=16777216) :
  kJ (none::cap) src (kD 0) t e τ S=.ok (.ref S1.length) (S1++[.lst<|((kK lo hi).filter p).map f]):=by
 rw[Dy hs (λi=>.int<|lo+i) (λi=>p<|lo+i) (λi=>f<|lo+i) (λi hi'=>aL hi') rfl (λi hi'=>ht _ () (by have:i<(hi-lo).toNat:=hi';lia)) (λi hi'=>he _ () (by have:i<(hi-lo).toNat:=hi';lia)) hl];unfold kK;rw[iO,bD];rfl
@[simp]def Q5 {cap:List<|bn}{τ:ae}:mO (none::cap) τ=.unb::mO cap τ:=rfl
@[simp]def Qn {cap:List<|bn}{τ:ae}{j:Nat}:mO (some j::cap) τ=τ.getD j .unb::mO cap τ:=rfl
@[simp]def FH {τ:ae}:mO [] τ=[]:=rfl
theorem Du{x:A}:rW (x::xs) 0=some x:=D6 (k:=0) rfl rfl
def LW{x:A}:rW (x::y::xs) 1=some y:=D6 (k:=1) rfl rfl
def EB{ns:ag}{i:Int}{k:Nat}{x:Int}(h:i=k)(hx:ns[k]?=some x):rW (ns.map A.int) i=some (.int x):=D6 h<|by rw[aV,hx];rfl
def pQ{j:Int}(h:-4611686018427387904<=j)(h':j<4611686018427387904):bnd j:=⟨(),()⟩
def Gf{i j:Int}(h1:-1000000<=i)(h2:i<=1000000)(h3:-1000000<=j)(h4:j<=1000000)(h5:j-i<=1000):BW i j:=⟨⟨(),(),(),()⟩,()⟩
theorem ints_map:∀(ns:ag),A.ints (ns.map .int)=some ns
 | []=>rfl
 | n::ns=>by show(A.ints<|ns.map .int).map (n::·)=_;rw[ints_map ns];rfl
theorem ug{n:Nat}:∀(xs ys:ag),oX (qK S<|n+1) (xs.map .int) (ys.map .int)=some (decide<|xs=ys)
 | [],[]=>rfl
 | [],_::_=>rfl
 | _::_,[]=>rfl
 | x::xs,y::ys=>by
  skip
  skip
  show Option.map _ (oX (qK S<|n+1) (xs.map .int)<|ys.map .int)=_;rw[ug xs ys]
  skip
  by_cases h1:x=y<;>by_cases h2:xs=ys<;>simp[h1,h2]
@[simp]def Vr {S:jM}{x y:Bool}:wM false (.bl x) (.bl y) S=.ok (.bl<|x == y) S:=rfl
@[simp]def Wa {S:jM}{x y:Bool}:wM true (.bl x) (.bl y) S=.ok (.bl<|!(x == y)) S:=rfl
@[simp]def VU {S:jM}{x y:Int}:wM false (.int x) (.int y) S=.ok (.bl<|x == y) S:=rfl
@[simp]def VM {S:jM}{x y:Int}:wM true (.int x) (.int y) S=.ok (.bl<|!(x == y)) S:=rfl
@[simp]def Js {S:jM}:VJ false .non .non S=.ok (.bl true) S:=rfl
@[simp]def KR {S:jM}{xs:ae}:VJ false (.tup xs) .non S=.ok (.bl false) S:=rfl
@[simp]def K8 {S:jM}{n:Nat}:VJ false (.ref n) .non S=.ok (.bl false) S:=rfl
@[simp]def G7 {S:jM}:VJ true .non .non S=.ok (.bl false) S:=rfl
@[simp]def Gs {S:jM}{xs:ae}:VJ true (.tup xs) .non S=.ok (.bl true) S:=rfl
@[simp]def Fv {S:jM}{n:Nat}:VJ true (.ref n) .non S=.ok (.bl true) S:=rfl
@[simp]def Ks {S:jM}{x:A}{c:String}:Bb x (.ty c) S=opt (x.kd S) λk=>opt (z_ k c) λb=>.ok (.bl b) S:=rfl
@[simp]def V1 {S:jM}{b:Bool}:A.kd (.bl b) S=some .bl:=rfl
@[simp]def Qm {S:jM}{b:Int}:A.kd (.int b) S=some .int:=rfl
@[simp]def RO {S:jM}{b:ae}:A.kd (.tup b) S=some .tup:=rfl
@[simp]def QA {S:jM}:A.kd .non S=some .non:=rfl
@[simp]def RQ {S:jM}{b:Str}:A.kd (.str b) S=some .str:=rfl
@[simp]def R9 {S:jM}{n:Nat}:A.kd (.ref n) S=(jK S n).map λ_=>.lst:=rfl
@[simp]def PR {S:jM}:newL [] S=.ok (.ref S.length) (S++[.lst []]):=kM<|by simp
@[simp]def OW {S:jM}{x0:A}:newL [x0] S=.ok (.ref S.length) (S++[.lst [x0]]):=kM<|by simp
@[simp]def Rx {S:jM}{x0 x1:A}:newL [x0,x1] S=.ok (.ref S.length) (S++[.lst [x0,x1]]):=kM<|by simp
@[simp]def Nx {S:jM}{x0 x1 x2:A}:newL [x0,x1,x2] S=.ok (.ref S.length) (S++[.lst [x0,x1,x2]]):=kM<|by simp
@[simp]def Rr {S:jM}{x0 x1 x2 x3:A}:newL [x0,x1,x2,x3] S=.ok (.ref S.length) (S++[.lst [x0,x1,x2,x3]]):=kM<|by simp
@[simp]def Px {S:jM}{x0 x1 x2 x3 x4:A}:newL [x0,x1,x2,x3,x4] S=.ok (.ref S.length) (S++[.lst [x0,x1,x2,x3,x4]]):=kM<|by simp
@[simp]def Ou {S:jM}{x0 x1 x2 x3 x4 x5:A}:newL [x0,x1,x2,x3,x4,x5] S=.ok (.ref S.length) (S++[.lst [x0,x1,x2,x3,x4,x5]]):=kM<|by simp
@[simp]def Rf {S:jM}{x0 x1 x2 x3 x4 x5 x6:A}:newL [x0,x1,x2,x3,x4,x5,x6] S=.ok (.ref S.length) (S++[.lst [x0,x1,x2,x3,x4,x5,x6]]):=kM<|by simp
@[simp]def RJ {S:jM}{x0 x1 x2 x3 x4 x5 x6 x7:A}:newL [x0,x1,x2,x3,x4,x5,x6,x7] S=.ok (.ref S.length) (S++[.lst [x0,x1,x2,x3,x4,x5,x6,x7]]):=kM<|by simp
@[simp]def QC {S:jM}{x0 x1 x2 x3 x4 x5 x6 x7 x8:A}:newL [x0,x1,x2,x3,x4,x5,x6,x7,x8] S=.ok (.ref S.length) (S++[.lst [x0,x1,x2,x3,x4,x5,x6,x7,x8]]):=kM<|by simp
@[simp]def JV {S:jM}{x0 x1 x2 x3 x4 x5 x6 x7 x8 x9:A}:newL [x0,x1,x2,x3,x4,x5,x6,x7,x8,x9] S=.ok (.ref S.length) (S++[.lst [x0,x1,x2,x3,x4,x5,x6,x7,x8,x9]]):=kM<|by simp
theorem nI{α:Type}{n:Nat}{r:R α}(h:n<=16777216):gd (n<=sizeLine) r=r:=m7<|by rw[dw];exact h
def BP{α:Type}{n:Nat}{r:R α}(h:n<16777216):gd (n<sizeLine) r=r:=m7<|by rw[dw];exact h
def Wj {x:A}{xs:ae}:(x::xs).getD 0 .unb=x:=rfl
def VF {x:A}{xs:ae}{n:Nat}:(x::xs).getD (n+1) .unb=xs.getD n .unb:=rfl
def aa0 {x y:A}{xs:ae}:(x::xs).set 0 y=y::xs:=rfl
def sets {x y:A}{xs:ae}{n:Nat}:(x::xs).set (n+1) y=x::xs.set n y:=rfl
def rep0 {x:A}:List.replicate 0 x=[]:=rfl
def reps {x:A}{n:Nat}:List.replicate (n+1) x=x::List.replicate n x:=rfl
def ZK {x:A}{xs ys:ae}:(x::xs)++ys=x::(xs++ys):=rfl
def aag {ys:ae}:[]++ys=ys:=rfl
def Qk{S:jM}{n:Nat}{xs ys:ae}(h:jK S n=some xs)(h':jK S m=some ys)(hl:xs.length+ys.length<=16777216):lK (.ref n) (.ref m) S=.ok (.ref S.length) (S++[.lst<|xs++ys]):=by
 show opt (jK S n) _=_;rw[h,kL,h',kL];exact m7<|by rw[dw];exact hl
def kh:type_of% (anI @R.pX<|anI @R.KY<|anI @R.l9<|anI @RS.of_ok<|anI @RS.V7<|anI @kL<|anI @LF<|anI @JY<|anI @JS<|anI @Lk<|anI @Lq<|anI @Rw<|anI @Ly<|anI @J5<|anI @Jw<|anI @K5<|anI @Jq<|anI @VZ<|anI @Ll<|anI @OM<|anI @LY<|anI @VD<|anI @Ri<|anI @JK<|anI @JF<|anI @QI<|anI @JC<|anI @LJ<|anI @Lb<|anI @QV<|anI @NC<|anI @Jv<|anI @Py<|anI @Hu<|anI @La<|anI @Og<|anI @KP<|anI @Ht<|anI @K7<|anI @KO<|anI @Fq<|anI @RB<|anI @Ro<|anI @VS<|anI @V9<|anI @RE<|anI @GB<|anI @KD<|anI @Gm<|anI @P7<|anI @Jz<|anI @lst?_ref<|anI @RS.NK<|anI @RS.Oj<|anI @RS.Ny<|anI @RS.NS<|anI @RS.OB<|anI @Lx<|anI @KJ<|anI @DG<|anI @G1<|anI @Ft<|anI @KS<|anI @F9<|anI @Od<|anI @J0<|anI @RC<|anI @Ol<|anI @PU<|anI @Pq<|anI @Pw<|anI @QE<|anI @KA<|anI @Ln<|anI @G4<|anI @RS.Pj<|anI @RS.Rc<|anI @RS.OH<|anI @RU<|anI @OU<|anI @PC<|anI @V0<|anI @Wn<|anI @VB<|anI @V3<|anI @Vx<|anI @Pa<|anI @O6<|anI @NY<|anI @OL<|anI @Qy<|anI @Q9<|anI @JE<|anI @LZ<|anI @KZ<|anI @Jp<|anI @CZ<|anI @VO<|anI @Wl<|anI @Vz<|anI @NQ<|anI @Of<|anI @J7<|anI @JL<|anI @LQ<|anI @F8<|anI @FO<|anI @NZ<|anI @Rm<|anI @Vv<|anI @B4<|anI @Q_<|anI @KN<|anI @jX<|anI @Q5<|anI @Qn<|anI @FH<|anI @Vr<|anI @Wa<|anI @VU<|anI @VM<|anI @Js<|anI @KR<|anI @K8<|anI @G7<|anI @Gs<|anI @Fv<|anI @Ks<|anI @V1<|anI @Qm<|anI @RO<|anI @QA<|anI @RQ<|anI @R9<|anI @PR<|anI @OW<|anI @Rx<|anI @Nx<|anI @Rr<|anI @Px<|anI @Ou<|anI @Rf<|anI @RJ<|anI @QC<|anI @JV<|anI @Wj<|anI @VF<|anI @aa0<|anI @sets<|anI @rep0<|anI @reps<|anI @ZK<|anI @aag<|anI @AK<|anI @LO<|anI @Sb<|anI @PK<|anI @V_<|anI @Wf<|anI @Om<|anI @Qc<|anI @C9<|anI @GU<|anI @Ot<|anI @Li<|anI @OV<|anI @J3<|anI @Pz<|anI @Wm<|anI @VC<|anI @KH<|anI @Lm<|anI @Rk<|anI @GA<|anI @JO<|anI @Qv<|anI @OX<|anI @Nl<|anI @Rb<|@PM):=anI @R.pX<|anI @R.KY<|anI @R.l9<|anI @RS.of_ok<|anI @RS.V7<|anI @kL<|anI @LF<|anI @JY<|anI @JS<|anI @Lk<|anI @Lq<|anI @Rw<|anI @Ly<|anI @J5<|anI @Jw<|anI @K5<|anI @Jq<|anI @VZ<|anI @Ll<|anI @OM<|anI @LY<|anI @VD<|anI @Ri<|anI @JK<|anI @JF<|anI @QI<|anI @JC<|anI @LJ<|anI @Lb<|anI @QV<|anI @NC<|anI @Jv<|anI @Py<|anI @Hu<|anI @La<|anI @Og<|anI @KP<|anI @Ht<|anI @K7<|anI @KO<|anI @Fq<|anI @RB<|anI @Ro<|anI @VS<|anI @V9<|anI @RE<|anI @GB<|anI @KD<|anI @Gm<|anI @P7<|anI @Jz<|anI @lst?_ref<|anI @RS.NK<|anI @RS.Oj<|anI @RS.Ny<|anI @RS.NS<|anI @RS.OB<|anI @Lx<|anI @KJ<|anI @DG<|anI @G1<|anI @Ft<|anI @KS<|anI @F9<|anI @Od<|anI @J0<|anI @RC<|anI @Ol<|anI @PU<|anI @Pq<|anI @Pw<|anI @QE<|anI @KA<|anI @Ln<|anI @G4<|anI @RS.Pj<|anI @RS.Rc<|anI @RS.OH<|anI @RU<|anI @OU<|anI @PC<|anI @V0<|anI @Wn<|anI @VB<|anI @V3<|anI @Vx<|anI @Pa<|anI @O6<|anI @NY<|anI @OL<|anI @Qy<|anI @Q9<|anI @JE<|anI @LZ<|anI @KZ<|anI @Jp<|anI @CZ<|anI @VO<|anI @Wl<|anI @Vz<|anI @NQ<|anI @Of<|anI @J7<|anI @JL<|anI @LQ<|anI @F8<|anI @FO<|anI @NZ<|anI @Rm<|anI @Vv<|anI @B4<|anI @Q_<|anI @KN<|anI @jX<|anI @Q5<|anI @Qn<|anI @FH<|anI @Vr<|anI @Wa<|anI @VU<|anI @VM<|anI @Js<|anI @KR<|anI @K8<|anI @G7<|anI @Gs<|anI @Fv<|anI @Ks<|anI @V1<|anI @Qm<|anI @RO<|anI @QA<|anI @RQ<|anI @R9<|anI @PR<|anI @OW<|anI @Rx<|anI @Nx<|anI @Rr<|anI @Px<|anI @Ou<|anI @Rf<|anI @RJ<|anI @QC<|anI @JV<|anI @Wj<|anI @VF<|anI @aa0<|anI @sets<|anI @rep0<|anI @reps<|anI @ZK<|anI @aag<|anI @AK<|anI @LO<|anI @Sb<|anI @PK<|anI @V_<|anI @Wf<|anI @Om<|anI @Qc<|anI @C9<|anI @GU<|anI @Ot<|anI @Li<|anI @OV<|anI @J3<|anI @Pz<|anI @Wm<|anI @VC<|anI @KH<|anI @Lm<|anI @Rk<|anI @GA<|anI @JO<|anI @Qv<|anI @OX<|anI @Nl<|anI @Rb<|@PM
def bools:(∀b:Bool,cond false b b=b)/\(∀(α:Type) (x y:α),cond false x y=y)/\(∀(α:Type) (x y:α),cond true x y=x):=⟨λ_=>rfl,λ_ _ _=>rfl,λ_ _ _=>rfl⟩
def mP:(∀(x:Str) (xs:ar),(x::xs).length=xs.length+1)/\([]:ar).length=0/\(∀(x:A) (xs:ae),(x::xs).length=xs.length+1)/\([]:ae).length=0:=⟨λ_ _=>rfl,rfl,λ_ _=>rfl,rfl⟩
section
variable {τ:ae}{S:jM}
def K9 {f:ae->jM->R A}{d:sW}:acy f d τ S=(d τ S).bind f:=rfl
abbrev kRz (c:Str):Unit->jM->RS:=λ_ S1=>.ex c S1
def NR {c:Str}{u:Unit}:kRz c u S=.ex c S:=rfl
def CP {c:Str}{ps:List<|Str ⊕ Ex}:Ys c ps τ S=RS.of (U_ ps τ S) (kRz c):=rfl
def Jo:U_ [] τ S=.ok Unit.unit S:=rfl
def Kv {x:Str}{ps:List<|Str ⊕ Ex}:U_ (.inl x::ps) τ S=U_ ps τ S:=rfl
abbrev kFs (ps:List<|Str ⊕ Ex)(τ:ae):A->jM->R Unit:=λv S1=>match v with
 | .int i=>gd (i.natAbs.log2<64) (U_ ps τ S1)
 | _=>.no
def Kw {e:Ex}{ps:List<|Str ⊕ Ex}:U_ (.inr e::ps) τ S=(e τ S).bind (kFs ps τ):=rfl
abbrev RS.try (i n:Nat)(cs:ar)(d:Sm):RS->RS
 | .ex x S1=>if x∈cs then V8 i (d ((List.replicate n .unb).set i<|.exn x) S1)else .no
 | r=>r
def KU {i n:Nat}{cs:ar}{c d:Sm}:aap i n cs c d τ S=RS.try i n cs d (c τ S):=by
 unfold aap RS.try;cases c τ S<;>rfl
def Rq {i n:Nat}{cs:ar}{d:Sm}:RS.try i n cs d (.nx τ S)=.nx τ S:=rfl
def NF {i n:Nat}{cs:ar}{d:Sm}{a:A}:RS.try i n cs d (.rt a S)=.rt a S:=rfl
def PZ {i n:Nat}{x:Str}{cs:ar}{d:Sm}:RS.try i n (x::cs) d (.ex x S)=V8 i (d ((List.replicate n .unb).set i<|.exn x) S):=aL<|.head _
def RN {i:Nat}{a:A}:V8 i (.rt a S)=.rt a S:=rfl
def P5 {i:Nat}:V8 i (.nx τ S)=.nx (τ.set i .unb) S:=rfl
abbrev Zx (f:Str->bj):A->jM->R A:=λv S1=>match v with
 | .exn x=>opt (f x) λb=>.ok (.bl b) S1
 | _=>.no
def Kx {f:Str->bj}{c:Ex}:abG f c τ S=(c τ S).bind (Zx f):=rfl
def PY {x:Str}{b:Bool}{tb:List<|Str×Bool}:Zx (tbX ((x,b)::tb)) (.exn x) S=.ok (.bl b) S:=by
 show opt (List.lookup x ((x,b)::tb)) _=_;rw[gu,bV];rfl
abbrev R.Pk {α β:Type}(r:R α)(f:α->jM->R β):R β:=match r with
 | .ok a S=>f a S
 | _=>.no
def Gk {α β:Type}{a:α}{f:α->jM->R β}:R.Pk (.ok a S) f=f a S:=rfl
def KI {f:ae->jM->R A}{d:sW}:Zu f d τ S=R.Pk (d τ S) f:=by unfold Zu R.Pk;cases d τ S<;>rfl
abbrev RS.ofK {α:Type}(r:R α)(f:α->jM->RS):RS:=match r with
 | .ok a S=>f a S
 | _=>.no
def Pd {α:Type}{a:α}{f:α->jM->RS}:RS.ofK (.ok a S) f=f a S:=rfl
def J8 {t:Te}{c d:Sm}:ZM t c d τ S=RS.ofK (t τ S) (kIf c d τ):=by
 unfold ZM RS.ofK
 cases t τ S with
 | ok b S1=>cases b<;>rfl
 | ex _ _=>rfl
 | no=>rfl
abbrev RS.Rz (i:Nat)(cs:ar)(d:Sm)(τ:ae):RS->RS
 | .ex x S1=>if x∈cs then V8 i (d (τ.set i<|.exn x) S1)else .no
 | r=>r
def Gj {i:Nat}{cs:ar}{c d:Sm}:VE i cs c d τ S=RS.Rz i cs d τ (c τ S):=by
 unfold VE RS.Rz;cases c τ S<;>rfl
def K2 {i:Nat}{cs:ar}{d:Sm}{τ':ae}:RS.Rz i cs d τ (.nx τ' S)=.nx τ' S:=rfl
def L0 {i:Nat}{cs:ar}{d:Sm}{a:A}:RS.Rz i cs d τ (.rt a S)=.rt a S:=rfl
def Ko {i:Nat}{x:Str}{cs:ar}{d:Sm}:RS.Rz i (x::cs) d τ (.ex x S)=V8 i (d (τ.set i<|.exn x) S):=aL<|.head _
def Gi:A.Vd []=some []:=rfl
def yP {b:Bool}{xs:ae}:A.Vd (.bl b::xs)=(A.Vd xs).map (b::·):=rfl
end
def wU:type_of% (anI @K9<|anI @CP<|anI @NR<|anI @Jo<|anI @Kv<|anI @Kw<|anI @KU<|anI @Rq<|anI @NF<|anI @PZ<|anI @RN<|anI @P5<|anI @Kx<|anI @PY<|anI @Gi<|anI @yP<|anI @Gk<|anI @KI<|anI @Pd<|anI @J8<|anI @Gj<|anI @K2<|anI @L0<|anI @Ko<|trivial):=anI @K9<|anI @CP<|anI @NR<|anI @Jo<|anI @Kv<|anI @Kw<|anI @KU<|anI @Rq<|anI @NF<|anI @PZ<|anI @RN<|anI @P5<|anI @Kx<|anI @PY<|anI @Gi<|anI @yP<|anI @Gk<|anI @KI<|anI @Pd<|anI @J8<|anI @Gj<|anI @K2<|anI @L0<|anI @Ko<|trivial
end Am
namespace Am
open PySem PySem.Spec PyProof.Rows L2
abbrev Df (K:au)(x:Str)(st:aE):Prop:=∃(f:ak) (fd:FuncData),PySem.W.nsIn K mainGlobals x=some (some<|.ref f)/\Fun K x x st f fd
inductive En (P:aj) (w:ah) (K:au) (mg:Str->bd) (base:aq):Prop
 | mk (h:aq) (X:K.In h) (G:h.Ns mainGlobals mg)
section
variable {P:aj}{w:ah}{K:au}{mg:Str->bd}{base:aq}{x:Str}{st:aE}{ps:ar}{k:Nat}{F:ae->jM->R A}
def En.at(E:En P w K mg base){f:ak}(h:PySem.W.nsIn K mainGlobals x=some (some<|.ref f)):mg x=some (.ref f):=by
 obtain⟨_,X,G⟩:=E;exact je X G h
def Df.of{f:ak}{kV pm ct:af}(a:PySem.W.nsIn K mainGlobals x=some (some<|.ref f))(l:K.lookup f=some ⟨oc,od,.func<|PySem.W.fnOf x x (wD st) (su st) (jW st) .none kV doc pm an cdv ct,osl⟩)(c:PySem.W.codeIn K cdv x=true)(k:PySem.W.keepIn K (.ref f)=true):Df K x st:=⟨f,_,a,X0 l c k⟩
meta abbrev Bi (x:Str)(st:aE)(ps:ar):Prop:=∀us:ba,us.length=ps.length->∀(kV doc pm:af) (an:Option ak) (cdv ct:af),bindArgs (PySem.W.fnOf x x (wD st) (su st) (jW st) .none kV doc pm an cdv ct) ⟨us,[]⟩=pure (ps.zip us)
def Df.get(d:Df K x st)(E:En P w K mg base)(b:Bi x st ps):∃f fd,Fun K x x st f fd/\mg x=some (.ref f)/\PySem.W.keepIn K (.ref f)=true/\Binds K fd ps []:=by
 obtain⟨f,fd,a,F⟩:=d;exact⟨f,fd,F,E.at a,F.kp,F.binds λkV doc pm an cdv ct us hl=>b us hl kV doc pm an cdv ct⟩
def Df.kA(d:Df K x st)(E:En P w K mg base)(h:∀{f fd},Fun K x x st f fd->FnOk P w K mg base qm k f fd ps (qR K ps.length F))(b:Bi x st ps):nF P w K mg base k x ps F:=by
 obtain⟨f,fd,a,c,e,g⟩:=d.get E b;exact⟨f,fd,h a,c,e,g⟩
def Df.rA(d:Df K x st)(E:En P w K mg base)(h:∀{f fd},Fun K x x st f fd->mg x=some (.ref f)->PySem.W.keepIn K (.ref f)=true->Binds K fd ps []->FnOk P w K mg base qm k f fd ps (qR K ps.length F))(b:Bi x st ps):nF P w K mg base k x ps F:=by
 obtain⟨f,fd,a,c,e,g⟩:=d.get E b;exact⟨f,fd,h a c e g,c,e,g⟩
end
section
variable {X:Cx}{pos p:Pos}{e1 e2 e3:aC}{x p1 p2 p3:Str}{k K0:Nat}{F:ae->jM->R A}{c1 c2 c3:Ex}
def CM(G:nF X.prog X.w X.K X.mg X.base k x [p1] F)(hr:Room K0 X.A)(h1:AE X e1 c1)(hk:k<=K0:=by decide)(hg:Gl X x:=by rfl)(hdb:(x == ("__debug__" : Str))=false:=by decide)(s1:starEach [e1] X.env=(false,eval e1 X.env)::starEach [] X.env:=by rfl)(hp:(backTo pos<|starEach [] X.env).any (·.1)=false:=by rfl):AE X (.Call (.Name x p) [e1] [] pos) (eFn F<|jH c1 jR):=yq G (hr.mono hk) (jJ h1 jN s1) (k_ qH) hg hdb s1 hp
def yh(G:nF X.prog X.w X.K X.mg X.base k x [p1,p2] F)(hr:Room K0 X.A)(h1:AE X e1 c1)(h2:AE X e2 c2)(hk:k<=K0:=by decide)(hg:Gl X x:=by rfl)(hdb:(x == ("__debug__" : Str))=false:=by decide)(s1:starEach [e1,e2] X.env=(false,eval e1 X.env)::starEach [e2] X.env:=by rfl)(s2:starEach [e2] X.env=(false,eval e2 X.env)::starEach [] X.env:=by rfl)(hp:(backTo pos<|starEach [e2] X.env).any (·.1)=false:=by rfl):AE X (.Call (.Name x p) [e1,e2] [] pos) (eFn F<|jH c1<|jH c2 jR):=yq G (hr.mono hk) (jJ h1 (jJ h2 jN s2) s1) (k_<|k_ qH) hg hdb s1 hp
def Tj(G:nF X.prog X.w X.K X.mg X.base k x [p1,p2,p3] F)(hr:Room K0 X.A)(h1:AE X e1 c1)(h2:AE X e2 c2)(h3:AE X e3 c3)(hk:k<=K0:=by decide)(hg:Gl X x:=by rfl)(hdb:(x == ("__debug__" : Str))=false:=by decide)(s1:starEach [e1,e2,e3] X.env=(false,eval e1 X.env)::starEach [e2,e3] X.env:=by rfl)(s2:starEach [e2,e3] X.env=(false,eval e2 X.env)::starEach [e3] X.env:=by rfl)(s3:starEach [e3] X.env=(false,eval e3 X.env)::starEach [] X.env:=by rfl)(hp:(backTo pos<|starEach [e2,e3] X.env).any (·.1)=false:=by rfl):AE X (.Call (.Name x p) [e1,e2,e3] [] pos) (eFn F<|jH c1<|jH c2<|jH c3 jR):=yq G (hr.mono hk) (jJ h1 (jJ h2 (jJ h3 jN s3) s2) s1) (k_<|k_<|k_ qH) hg hdb s1 hp
def uQ{N P:ar}{sc:Scope}(a:sc.kind=.function)(b:sc.isCoroutine=false)(c:sc.isGenerator=false)(h:N.Nodup/\N.take P.length=P/\(∀x∈P,sc.names.lookup x=some .local\/sc.names.lookup x=some .cell)/\∀y∈sc.names,y.2≠.free):FnScope N P sc:=⟨a,b,c,h.1,h.2.1,h.2.2.1,h.2.2.2⟩
end
abbrev lX (S:jM)(n:Nat):Option (List<|Int×A):=match S[n]? with
 | some (.pU xs)=>some xs
 | _=>none
def qJ{n:Nat}(h:lX S n=some xs):S[n]?=some (.pU xs):=by
 unfold lX at h;split at h
 ·rename_i e;cases h;exact e
 ·cases h
def EU{S:jM}{n:Nat}(h:S[n]?=some (.pU xs)):lX S n=some xs:=by
 unfold lX;rw[h]
abbrev nW (kvs:List<|Int×A)(k:Int):Option A:=(kvs.find? λkv=>decide<|kv.1=k).map (·.2)
abbrev zE (kvs:List<|Int×A)(k:Int)(v:A):List (Int×A):=
 if (nW kvs k).isSome=true then kvs.map (λkv=>if kv.1=k then(kv.1,v)else kv)else kvs++[(k,v)]
section
variable {K:au}{ρ:bb}{H:Hp}
def MB{p:Int×A}{r:List<|Int×A}{k:Int}(e:p.1=k):nW (p::r) k=some p.2:=by simp[nW,cR,e]
def Mr{p:Int×A}{r:List<|Int×A}{k:Int}(e:¬p.1=k):nW (p::r) k=nW r k:=by simp[nW,cR,e]
def ZX{a b:Int}(e:(Sum.inl a:Key)=Sum.inl b):a=b:=by injection e
theorem DI.look:∀{kvs:List<|Int×A}{ks:List<|Key×V}(k:Int),DI K ρ H kvs ks->(nW kvs k).isSome=(qY ks (Sum.inl k:Key)).isSome/\∀x,nW kvs k=some x->∃v,qY ks (Sum.inl k:Key)=some v/\AV K ρ H x v
 | [],[],k,_=>⟨rfl,λx h=>nomatch h⟩
 | p::r,q::r',k,⟨⟨e,a⟩,t⟩=>by
  by_cases c:p.1=k
  ·have c':q.1=(Sum.inl k:Key):=by rw[e,c]
   rw[MB c,vU c'];exact⟨rfl,λx h=>by cases h;exact⟨_,rfl,a⟩⟩
  ·have c':¬q.1=(Sum.inl k:Key):=λz=>c<|ZX<|e.symm.trans z;rw[Mr c,vF c'];exact DI.look k t
theorem DI.repl{x:A}{v:V}(h:AV K ρ H x v)(k:Int):∀{kvs:List<|Int×A}{ks:List<|Key×V},DI K ρ H kvs ks->DI K ρ H (kvs.map λkv=>if kv.1=k then(kv.1,x)else kv) (ks.map λkv=>if kv.1=(Sum.inl k:Key)then(kv.1,v)else kv)
 | [],[],_=>trivial
 | p::r,q::r',⟨⟨e,a⟩,t⟩=>by
  refine⟨?_,DI.repl h k t⟩;dsimp only;by_cases c:p.1=k
  ·rw[aL c,aL<|by rw[e,c]];exact⟨e,h⟩
  ·rw[aJ c,aJ λz=>c<|ZX<|e.symm.trans z];exact⟨e,a⟩
theorem DI.snoc{x:A}{v:V}(h:AV K ρ H x v)(k:Int):∀{kvs:List<|Int×A}{ks:List<|Key×V},DI K ρ H kvs ks->DI K ρ H (kvs++[(k,x)]) (ks++[(Sum.inl k,v)])
 | [],[],_=>⟨⟨rfl,h⟩,trivial⟩
 | p::r,q::r',⟨a,t⟩=>⟨a,DI.snoc h k t⟩
def DI.put{x:A}{v:V}(h:AV K ρ H x v)(k:Int)(d:DI K ρ H kvs ks):DI K ρ H (zE kvs k x) (putK ks (Sum.inl k:Key) v):=by
 unfold zE putK;rw[yo,<- (d.look k).1];by_cases c:(nW kvs k).isSome=true
 ·rw[aL c,aL c];exact DI.repl h k d
 ·rw[aJ c,aJ c];exact DI.snoc h k d
def DI.length:∀{kvs:List<|Int×A}{ks:List<|Key×V},DI K ρ H kvs ks->kvs.length=ks.length
 | [],[],_=>rfl
 | _::_,_::_,⟨_,t⟩=>dO (·+1) t.length
theorem DI.keys:∀{kvs:List<|Int×A}{ks:List<|Key×V},DI K ρ H kvs ks->ks.map (·.1)=kvs.map λkv=>(Sum.inl kv.1:Key)
 | [],[],_=>rfl
 | _::_,_::_,⟨⟨e,_⟩,t⟩=>by rw[bJ,bJ,e,DI.keys t]
def Rel.pU{n:Nat}{a:ak}(R:Rel K ρ H S)(ha:ρ[n]?=some a)(hS:S[n]?=some (.pU xs)):∃vs,H a=some (.dK vs)/\DI K ρ H xs vs:=R.at n a _ ha hS
def Rel.aaG{S:jM}{p:ak}(R:Rel K ρ H S)(hp:H p=none)(r:DI K ρ H xs vs):Ext ρ (ρ++[p]) H (upd H p<|.dK vs)/\Rel K (ρ++[p]) (upd H p<|.dK vs) (S++[.pU xs])/\(ρ++[p])[S.length]?=some p:=by
 have ex:Ext ρ (ρ++[p]) H (upd H p<|.dK vs):=⟨⟨fX _ _,λa u _ h=>by rw[jV<|j5 h hp];exact h⟩,λa u h _=>by rw[jV<|j5 h hp];exact h,λa h=>by
  rcases bE.mp h with z|z
  ·exact .inl z
  ·have e:a=p:=by simpa using z
   rw[e];exact .inr hp⟩
 have np:p∉ρ:=R.RY hp;have last:(ρ++[p])[S.length]?=some p:=by rw[<- R.len];simp
 refine⟨ex,⟨by simp[R.len],?_,?_⟩,last⟩
 ·rw[dz];refine⟨R.nd,by simp,λa ha b hb e=>?_⟩;have:b=p:=by simpa using hb
  exact np<|by rw[<- this,<- e];exact ha
 ·intro n a o h1 h2;by_cases hn:n<S.length
  ·rw[bG<|by rw[R.len];exact hn]at h1;rw[bG hn]at h2;have na:a≠p:=λz=>np (by rw[<- z];exact aW h1);have:=R.at n a o h1 h2
   cases o with
   | lst ys=>obtain⟨ws,e,q⟩:=this;exact⟨ws,by rw[jV na];exact e,q.ext ex⟩
   | dct _|pU _|dcp _=>obtain⟨ws,e,q⟩:=this;exact⟨ws,by rw[jV na];exact e,q.ext ex⟩
   | ins _ _=>obtain⟨oo,uu,e⟩:=this;exact⟨oo,uu,by rw[jV na];exact e⟩
  ·have e:n=S.length:=by
    have:=(aK.mp h2).1;simp at this
    lia
   subst e;rw[last]at h1
   cases h1
   simp at h2;subst h2;exact⟨vs,kZ,r.ext ex⟩
def Rel.zE{S:jM}{n:Nat}{a:ak}(R:Rel K ρ H S)(ha:ρ[n]?=some a)(hS:S[n]?=some (.pU xs))(r:DI K ρ H ys ws):Ext ρ ρ H (upd H a<|.dK ws)/\Rel K ρ (upd H a<|.dK ws) (S.set n<|.pU ys):=by
 obtain⟨vs,e,_⟩:=R.at n a _ ha hS;have ex:Ext ρ ρ H (upd H a<|.dK ws):=⟨⟨fQ _,λb u i h=>by
  have:b≠a:=by
   intro z;subst z;rw[e]at h;cases h;exact i
  rw[jV this];exact h⟩,λb u h n=>by
  rw[jV λz=>n<|by rw[z];exact aW ha];exact h,λ_ h=>.inl h⟩
 refine⟨ex,by rw[bZ];exact R.len,R.nd,λm b o h1 h2=>?_⟩;by_cases hm:m=n
 ·subst hm;rw[ha]at h1;cases h1;rw[bW (aK.mp hS).1]at h2
  cases h2
  exact⟨ws,kZ,r.ext ex⟩
 ·rw[cB<|cO hm]at h2;have nb:b≠a:=λz=>by
   subst z;obtain⟨l1,e1⟩:=aK.mp ha;obtain⟨l2,e2⟩:=aK.mp h1;exact hm<|(dJ R.nd).mp<|e2.trans e1.symm
  have:=R.at m b o h1 h2
  cases o with
  | lst ys=>obtain⟨ws',e',q⟩:=this;exact⟨ws',by rw[jV nb];exact e',q.ext ex⟩
  | dct _|pU _|dcp _=>obtain⟨ws',e',q⟩:=this;exact⟨ws',by rw[jV nb];exact e',q.ext ex⟩
  | ins _ _=>obtain⟨oo,uu,e'⟩:=this;exact⟨oo,uu,by rw[jV nb];exact e'⟩
end
section
variable {X:Cx}{pos:Pos}{a b:aC}
abbrev zz (x y:A)(S:jM):R A:=match x,y with
 | .ref n,.int k=>opt (lX S n) λkvs=>opt (nW kvs k) λv=>.ok v S
 | _,_=>.no
def MF{x:A}{P:A->jM->Prop}{E:Str->jM->Prop}(h:(zz x y S).post P E):∃n k kvs v,x=.ref n/\y=.int k/\lX S n=some kvs/\nW kvs k=some v/\P v S:=by
 unfold zz at h;split at h
 ·obtain⟨kvs,h1,h⟩:=jU h;obtain⟨v,h2,h⟩:=jU h;exact⟨_,_,kvs,v,rfl,rfl,h1,h2,h⟩
 ·exact h.elim
def ZZ(hu:X.A.units+64<cLine):Wk X (r2 X zz):=λvalue slice pins s σ H x y v u Q I rx ry ⟨ρ,S,a,b,R,va,vb,h⟩ hs=>by
 obtain⟨n,k,kvs,z,ha,hb,hn,hz,hP⟩:=MF h;subst ha hb
 cases vb
 cases va with
 | @ref p _ hp=>
  obtain⟨ks,e,d⟩:=R.pU hp<|qJ hn;obtain⟨w,hw,aw⟩:=(d.look k).2 z hz;have g:xJ H p (kV<|Sum.inl k) (qY ks<|Sum.inl k):=xJ.k e;rw[hw]at g;exact Lh () value slice pins s σ H _ _ v u Q I rx ry ⟨p,w,rfl,g,hP _ _ _ .refl R aw⟩ hs
def Fe(hu:X.A.units+64<cLine){ca cb:Ex}(ha:AE X a ca)(hb:AE X b cb)(hs:Ak b:=by exact λ_ _=>rfl):AE X (.Subscript a b pos) (jT zz ca cb):=PE.imp (Pn (ZZ hu) ha hb hs) λσ H Q h=>wg h
abbrev De (o i v:A)(S:jM):R Unit:=match o,i with
 | .ref n,.int k=>opt (lX S n) λkvs=>gd (kvs.length<sizeLine) (.ok Unit.unit<|S.set n<|.pU<|zE kvs k v)
 | _,_=>.no
def Iw{x v:A}{S:jM}{P:Unit->jM->Prop}{E:Str->jM->Prop}(h:(De x y v S).post P E):∃n k kvs,x=.ref n/\y=.int k/\lX S n=some kvs/\kvs.length<sizeLine/\P Unit.unit (S.set n<|.pU<|zE kvs k v):=by
 unfold De at h;split at h
 ·obtain⟨kvs,h1,h⟩:=jU h;obtain⟨h2,h⟩:=ki h;exact⟨_,_,kvs,rfl,rfl,h1,h2,h⟩
 ·exact h.elim
abbrev abt (X:Cx):Mp:=λo i v H Q=>∃ρ S ao ai av,Rel X.K ρ H S/\AV X.K ρ H ao o/\AV X.K ρ H ai i/\AV X.K ρ H av v/\(De ao ai av S).post (λ_ S'=>∀ρ' H',Ext ρ ρ' H H'->Rel X.K ρ' H' S'->Q H') (XE X ρ H)
def SS(hu:X.A.units+64<cLine):MS X (abt X):=λpins s σ H o i v ov iv u Q I ro ri rv h9=>by
 obtain⟨ρ,S,ao,ai,av,R,h1,h2,h3,h⟩:=h9;obtain⟨n,k,kvs,ha,hb,hn,hl,hP⟩:=Iw h;subst ha hb
 cases h2
 cases h1 with
 | @ref p _ hp=>
  obtain⟨ks,e,d⟩:=R.pU hp<|qJ hn;obtain⟨ex,R'⟩:=R.zE hp (qJ hn)<|d.put h3 k;exact set_dict (by omega) pins s σ H _ _ v ov iv u Q I ro ri rv ⟨p,_,rfl,F2.k (k:=Sum.inl k) e<|by rw[<- d.length];exact hl,hP _ _ ex R'⟩
abbrev GR (co ci:Ex):Tg:=λa τ S=>(co τ S).bind λo S1=>(ci τ S1).bind λi S2=>(De o i a S2).bind λ_ S3=>.ok τ S3
def AN(hu:X.A.units+64<cLine){co ci:Ex}(ho:AE X o co)(hi:AE X i ci)
  (ha:∀v,assign (.Subscript o i pos) X.env v=(do
   let ov <- holding [v] (eval o X.env)
   let iv <- holding [v,ov] (eval i X.env)
   standAt pos
   holding [v,ov,iv] (setItem ov iv v)
   release [v,ov,iv] []):=by intro _;rfl):AG X (.Subscript o i pos) (GR co ci):=PG.imp (Ii ho hi (SS hu) ha) λv σ H Q h9=>by
 obtain⟨ρ,S,τ,a,R,r,va,h⟩:=h9;kd_p;kcj_m;cb_eq
abbrev Cd:Ex:=λ_ S=>.ok (.ref S.length)<|S++[.pU []]
def A6:AE X (.Dict [] [] pos) Cd:=PE.imp Q7 λσ H Q ⟨ρ,S,τ,R,r,h⟩ p hp=>by
 obtain⟨ex,R',hl⟩:=R.aaG (xs:=[]) (vs:=[]) hp trivial;exact h _ _ _ ex R'<|.ref hl
abbrev dk? (a:A)(S:jM):Option Unit:=match a with
 | .ref n=>(lX S n).map λ_=>Unit.unit
 | _=>none
abbrev Gx (f:A->ae->jM->R A)(co:Ex)(d:sW):Ex:=λτ S=>(co τ S).bind λx S1=>opt (dk? x S1) λ_=>(d τ S1).bind λas S2=>f x as S2
def dk?_ty{K:au}{H:Hp}{x:A}{v:V}(R:Rel K ρ H S)(a:AV K ρ H x v)(e:dk? x S=some u):Zn K "dict" v H:=by
 cases a with
 | @ref p n h=>
  obtain⟨xs,hx,_⟩:=aY.mp e;obtain⟨vs,h1,_⟩:=R.pU h<|qJ hx;exact .inr<|.inr<|.inl ⟨rfl,.inl ⟨vs,h1⟩⟩
 | _=>cases e
def E6{e:aC}{id:String}{apos cpos:Pos}{f:A->ae->jM->R A}{co:Ex}{d:sW}(slot:Slot "dict" name id)(hty:typeOf (.builtin id)=pure (.type "method_descriptor"))(hm:UJ X id<|rM X f)(ho:AE X o co)(ha:AL X (e::es) d)
  (hbase:attributeBase o name X.env (eval o X.env)=eval o X.env:=by rfl)
  (hfew:((backTo cpos<|starEach (e::es) X.env).all (λx=>!x.1) && (backToKw cpos<|keywordEach [] X.env).all (λx=>x.1.isSome)
   && decide ((e::es).length+([]:List Keyword).length+(if ([]:List Keyword).isEmpty then 0 else 1)<30))=true:=by rfl)
  (hline:(apos.endLine == cpos.line)=true:=by rfl) (hs:starEach (e::es) X.env=(false,eval e X.env)::starEach es X.env:=by rfl) (hplain:(backTo cpos<|starEach es X.env).any (·.1)=false:=by rfl) :
  AE X (.Call (.Attribute o name apos) (e::es) [] cpos) (Gx f co d):=PE.imp (R0 PySem.F.plainAttrs_dict slot hty hm ho ha hbase hfew hline hs hplain) λσ H Q h9=>by
 room;refine⟨ρ,S,τ,R,r,jO (jS h) .refl λx S1 h1 ρ1 H1 v e1 R1 v1=>?_⟩;obtain⟨xs,hx,h1⟩:=jU h1;refine⟨dk?_ty R1 v1 hx,ρ1,S1,τ,R1,r.ext e1,jO (jS h1) e1 λas S2 h2 ρ2 H2 vs e2 R2 v2=>?_⟩;kst_p
abbrev wR (o:A)(as:ae)(S:jM):R A:=match o,as with
 | .ref n,[.int k,y]=>opt (lX S n) λkvs=>.ok ((nW kvs k).getD y) S
 | _,_=>.no
def IE{x:A}{P:A->jM->Prop}{E:Str->jM->Prop}(h:(wR x as S).post P E):∃n k y kvs,x=.ref n/\as=[.int k,y]/\lX S n=some kvs/\P ((nW kvs k).getD y) S:=by
 unfold wR at h;split at h
 ·obtain⟨kvs,h1,h⟩:=jU h;exact⟨_,_,_,kvs,rfl,rfl,h1,h⟩
 ·exact h.elim
def DW(hu:X.A.units+64<cLine):UJ X "dict.get" (rM X wR):=λpins s σ H x vs v us Q I rx rv h9=>by
 obtain⟨ρ,S,o,as,R,vo,va,h⟩:=h9;obtain⟨n,k,y,kvs,ho,has,hn,hP⟩:=IE h;subst ho has;obtain⟨w1,w2,rfl,hz,hy⟩:=Y4 va
 cases hz
 cases vo with
 | @ref p _ hp=>
  obtain⟨ks,h1,dv⟩:=R.pU hp (qJ hn)
  cases rx
  obtain⟨u1,u2,rfl,r1,r2⟩:=vals2 rv;refine Wv () I (xJ.k (k:=Sum.inl k) h1) r1 r2 λw' s' I' rw'=>⟨_,H,I',rw',hP _ _ _ .refl R ?_⟩;obtain⟨l1,l2⟩:=dv.look k
  cases e1:nW kvs k with
  | none=>
   rw[e1]at l1
   cases e2:qY ks (Sum.inl k:Key)with
   | none=>exact hy
   | some _=>rw[e2]at l1;cases l1
  | some x1=>
   obtain⟨v1,e2,a1⟩:=l2 x1 e1;rw[e2];exact a1
end
end Am
namespace L2
open PySem PySem.Spec PyProof.Rows
section
variable {P:aj}{w:ah}{A:az}{E:af->aA->Prop}{s:aA}{it d:ak}{i ep:Nat}{es:Array DictEntry}{o:Obj}
def Yl{Q:bd->aA->Prop}(hi:s.heap.IsKeyIter it d i es.size ep)(ho:s.heap.get? d=some o)(hd:o.data=.dict es ep)(lt:i<es.size)
  (q:∀h',h'.IsKeyIter it d (i+1) es.size ep->Heap.SameBut it s.heap h'->Q (some es[i].key) { s with heap:=h' }):wpAny (model P w) A (pyNext<|.ref it) Q E s:=by
 have ty:=hi.typeIs;obtain⟨oi,hoi,hci,hdi⟩:=id hi;have own:Builtin.Dict_items.ownsTuple "dict_keyiterator" = false:=by decide
 have nn:¬((Value.ref d == Value.none)=true):=bM;have n0:¬((i:Int)<0):=by omega
 unfold pyNext;refine aH<|iE<|cU (name:=Str.ofString "__next__") ty cX<|cH cX ty gE ?_<|gA _;refine aH (aR<|aH<|aH ?_)
 first
  | refine aH (d_ ty<|aR<|aH<|iX hoi hdi ?_)
  | refine aH<|fC ty<|aR<|aH<|iX hoi hdi ?_
 dsimp[own,cj,bF];show wpAny (model P w) _ (if (Value.ref d == Value.none)=true then _ else _) _ _ s;rw[aJ nn];refine aH<|aR<|aH<|i_ ho hd ?_;rw[aJ<|show ¬_ by simp];refine aH<|aR<|aH<|wpAny_dictEpoch ho hd ?_;rw[aJ<|show ¬_ by simp];refine aR ?_;dsimp[n0,cj,c9,Array.getElem?_eq_getElem lt];refine aH ?_
 first
  | refine aH (d_ ty<|aR<|aH<|iy ty ?_)
  | refine aH<|fC ty<|aR<|aH<|iy ty ?_
 show wpAny (model P w) _ (setField (.ref it) 1 (rawInt<|(i:Int)+1) >>= _) _ _ s;refine aH (gT hoi hdi (show _ by simp) ?_);have hi':(s.heap.update it<|Obj.mapFields λfs=>fs.setIfInBounds 1<|rawInt<|(i:Int)+1).IsKeyIter it d (i+1) es.size ep:=
  ⟨_,f6 _ hoi<|iu<|eS hdi _,(i9 ..).trans hci,by
   rw[eS hdi];simp[rawInt]⟩
 have ty':Shared.TypeIs { s with heap:=s.heap.update it<|Obj.mapFields λfs=>fs.setIfInBounds 1<|rawInt<|(i:Int)+1} (.ref it) "dict_keyiterator" := Heap.IsKeyIter.typeIs (s:={ s with heap:=_ }) hi';refine aH (dF<|aH<|iy ty' ?_)
 skip
 exact aR<|aR ⟨_,rfl,aR<|q _ hi'<|fH ..⟩
def T8{Q:bd->aA->Prop}(hh:A.handled=none)(hi:s.heap.IsKeyIter it d i es.size ep)(ho:s.heap.get? d=some o)(hd:o.data=.dict es ep)(ge:es.size<=i)
  (q:∀h',Heap.ExtBut it s.heap h'->Q none { s with heap:=h' }):wpAny (model P w) A (pyNext<|.ref it) Q E s:=by
 have ty:=hi.typeIs;obtain⟨oi,hoi,hci,hdi⟩:=id hi;have own:Builtin.Dict_items.ownsTuple "dict_keyiterator" = false:=by decide
 have nn:¬((Value.ref d == Value.none)=true):=bM;have n0:¬((i:Int)<0):=by omega
 unfold pyNext;refine aH<|iE<|cU (name:=Str.ofString "__next__") ty cX<|cH cX ty gE ?_<|gA _;refine aH (aR<|aH<|aH ?_)
 first
  | refine aH (d_ ty<|aR<|aH<|iX hoi hdi ?_)
  | refine aH<|fC ty<|aR<|aH<|iX hoi hdi ?_
 dsimp[own,cj,bF];show wpAny (model P w) _ (if (Value.ref d == Value.none)=true then _ else _) _ _ s;rw[aJ nn];refine aH<|aR<|aH<|i_ ho hd ?_;rw[aJ<|show ¬_ by simp];refine aH<|aR<|aH<|wpAny_dictEpoch ho hd ?_;rw[aJ<|show ¬_ by simp];refine aR ?_;dsimp[n0,cj,c9,h_ ge];refine aH ?_
 first
  | refine aH (d_ ty<|aR ?_)
  | refine aH<|fC ty<|aR ?_
 show wpAny (model P w) _ (setField (.ref it) 0 .none >>= _) _ _ s;refine aH (gT hoi hdi (show _ by simp) ?_)
 skip
 refine aH ?_;dsimp[newExc,newTuple];refine aH (b9 (aH (m:=firstArgMember _ _)<|iI (a:=Value.none) (by first|rfl|(dsimp[firstArgMember];rfl))<|b9 ?_<|by size_fits)<|by size_fits);dsimp[raiseNew];have hn:A.in1.handled=none:=hh;refine aH<|wpAny_handled<|?_;rw[hn];refine aH<|aR<|wpAny_throw<|?_;refine aH<|wpAny_isInstance (b:=true) (T := "StopIteration") ⟨_,bq _ rfl,rfl⟩ isSubtype_stop<|aR<|q _<|((fH ..).extBut.push _).push _
def Ir{Q:af->aA->Prop}(ty:s.TypeIs (.ref d) "dict")(hs:(d == sysModules)=false)(ho:s.heap.get? d=some o)(hd:o.data=.dict es ep)
  (q:Q (.ref s.heap.objs.size) { s with heap:=s.heap.push { cls:=.type "dict_keyiterator",data:=.fields #[.ref d,.int 0 0,.int es.size 0,.int ep 0]}}):wpAny (model P w) A (pyIter<|.ref d) Q E s:=by
 refine wpAny_pyIter_slot ty PySem.F.slot_dict_iter<|cH PySem.F.slot_dict_iter ty PySem.F.entry_dict_iter ?_<|PySem.F.args_dict_iter_1 _;delta Builtin.«dict.__iter__»;refine aH ?_;delta Builtin.Dict.dictSlotNone;refine aH (wpAny_notOrdered_dict ty ?_)
 skip
 refine aR ?_;show wpAny (model P w) _ (Builtin.Dict.showsAll d >>= _) _ _ s;delta Builtin.Dict.showsAll;have nd:¬((d == sysModules)=true):=by rw[hs];exact bM
 rw[aJ nd];refine aH<|aR<|aH<|i_ ho hd<|aH<|wpAny_dictEpoch ho hd ?_;refine aH<|b9<|aR ⟨_,rfl, "dict_keyiterator",_,⟨_,bq _ rfl,rfl⟩,cX.lookup,?_⟩;simpa[rawInt]using q
end
section
variable {P:aj}{w:ah}
def Ng{A:az}(hh:A.handled=none)(it d:ak)(ne:d≠it){es:Array DictEntry}{o:Obj}(hd:o.data=.dict es ep) :
  Walks P w A it [it,d] [it] es.size (λi v=>(es[i]?).map (λe=>e.key)=some v) (λi h=>h.IsKeyIter it d i es.size ep/\h.get? d=some o) where
 sub:=λb hb=>by
  rw[aP.mp hb];exact aM ..
 frame:=λ_ _ _ st hk=>⟨st.1.at λx e=>hk it (aM ..) x e,hk d (aN _<|aM ..) o st.2⟩
 item:=λi s Q E lt st q=>Yl st.1 st.2 hd lt λh' k1 k2=>q _ h' s.toks (by rw[Array.getElem?_eq_getElem lt];rfl) ⟨k1,k2.extBut d o ne st.2⟩ λb x nb e=>k2.extBut b x (λz=>nb<|aP.mpr z) e
 done:=λs Q E st q=>T8 hh st.1 st.2 hd (aO _) λh' k=>q h' s.toks λb x nb e=>k b x (λz=>nb<|aP.mpr z) e
 self:=λ_ _ _ _ st q=>wpAny_pyIter_keyiter st.1 q
def Uq{es:Array DictEntry}{o:Obj}(hs:(d == sysModules)=false)(hc:o.cls=.type "dict")(hd:o.data=.dict es ep) :
  PySem.W.KdlSrc P w "dict" d d es.size (λi v=>(es[i]?).map (λe=>e.key)=some v) (λh=>h.get? d=some o) where
 type:=λ_ hm=>⟨o,hm,hc⟩
 there:=λ_ hm=>⟨a_ hm,a_ hm⟩
 keep:=λ_ _ hm hk=>hk d (.inl rfl) o hm
 notList:=by decide
 notTuple:=by decide
 hint:=λ_ _ _ _ hm hq=>PySem.W.kdl_hint_dict ⟨o,hm,hc⟩ hq
 iter:=λ_ s hh hm=>⟨_,_,(λ_ _ hq=>Ir ⟨o,hm,hc⟩ hs hm hd hq),Ng hh _ d (bC<|a_ hm) hd,⟨⟨_,bq _ rfl,rfl,rfl⟩,aQ _ hm⟩⟩
end
section
variable {X:Cx}
def Ye{H:Hp}{s:aA}{kvs:List<|List Key×V}(I:Inv X pins σ H s)(ed:H d=some (.dT kvs)) :
  ∃(ob:Obj) (es:Array DictEntry) (ep:Nat) (rs:bb),s.heap.get? d=some ob/\ob.cls=.type "dict" /\ ob.data=.dict es ep/\(d == sysModules)=false/\kvs.length<=sizeLine/\rs.length=kvs.length/\es.size=kvs.length /\
   (∀i:Nat,(es[i]?).map (λe:DictEntry=>e.key)=(rs[i]?).map Value.ref)/\∀(i:Nat) r p,rs[i]?=some r->kvs[i]?=some p->H r=some (.tup<|p.1.map kV):=by
 obtain⟨z,hd,xs,rel,dd⟩:=NI I.hok ed;obtain⟨ob,es,ep,g1,g2,g3,g4,g5,g6⟩:=id dd;obtain⟨kl,kt⟩:=kt_at rel;have hes:es.size=xs.length:=by have:=dO List.length g4;simpa using this
 refine⟨ob,es,ep,xs.map λy=>y.2.1,g1,g2.1,g3,hd,z,by rw[aG,kl],by rw[hes,kl],λi=>?_,λi r p e1 e2=>?_⟩
 ·rw[<- dU,g4,aV,aV,ie,ie]
  cases xs[i]?<;>rfl
 ·obtain⟨y,h1,h2,h3,h4⟩:=kt i p e2;rw[aV,h1]at e1
  cases e1
  exact h3
def Ew(hc:X.calm=true):kF X (.builtin "sorted") (λxs H Q=>∃(d:ak) (kvs:List<|List Key×V) (kss:List<|ag),xs=[.ref d]/\H d=some (.dT kvs)/\kvs.map (λp=>p.1)=kss.map (λks=>ks.map Sum.inl)/\(∀ks∈kss,ks≠[]) /\
  ∀(rs:bb) l g,rs.length=kss.length->(∀(i:Nat) (r:ak) (ks:ag),rs[i]?=some r->kss[i]?=some ks->H r=some (.tup<|ks.map V.int))->H l=none->Sx.Cl g 0 kss.length->Sx.So (Sx.N5 kss) g 0 kss.length ->
   Q (.ref l) (upd H l<|.lst<|((List.range kss.length).map λi=>rs.getD (g i) 0).map V.ref)):=by
 w_up;obtain⟨d,kvs,kss,rfl,ed,ek,hne,q⟩:=h;kj_on
 cases rx
 obtain⟨ob,es,ep,rs,g1,g2,g3,g4,g5,g6,g7,g8,g9⟩:=Ye I ed;have kl:kvs.length=kss.length:=by have:=dO List.length ek;simpa using this
 have tp:∀(i:Nat) (r:ak) (ks:ag),rs[i]?=some r->kss[i]?=some ks->H r=some (.tup<|ks.map V.int):=λi r ks e1 e2=>by
  have lt:i<kvs.length:=by rw[kl];exact(aK.mp e2).1
  have h1:=g9 i r kvs[i] e1 (aF lt);have h2:(kvs.map λp=>p.1)[i]?=(kss.map λks=>ks.map Sum.inl)[i]?:=by rw[ek]
  rw[aV,aV,e2,aF lt]at h2;have h3:kvs[i].1=ks.map Sum.inl:=bh h2;rw[h3,bD]at h1;exact h1
 refine gz kind_sorted plain_sorted entry_sorted (args_sorted1 _) ?_;unfold Builtin.«sorted»;refine aH (m:=checkCount "sorted" 1 1 _)<|aR ?_;refine aH (PySem.W.kdu_collect (Uq g4 g2 g3) (show X.A.in1.handled=none from I.ok.hd hc) g1 (by rw[g7];exact g5) λh' tk acc hk hacc=>?_);have ea:acc.toList=rs.map Value.ref:=by
  refine cW λj=>?_;rw[dU,aV,<- g8 j]
  cases e:acc[j]? with
  | some v=>exact(hacc.2 j v e).symm
  | none=>
   have:acc.size<=j:=Array.getElem?_eq_none_iff.mp e;rw[h_<|by rw[<- hacc.1];exact this];rfl
 rw[ea];exact MC (s:=s) (I.kept (t':=tk) hk) (by rw[g6,kl]) (by rw[g6];exact g5) (λi r ks e1 e2=>⟨nO.of<|tp i r ks e1 e2,hne ks<|aW e2⟩) λl g h1 h2 h3=>q rs l g (by rw[g6,kl]) tp h1 h2 h3
end
section
variable {P:aj}{w:ah}{A:az}{E:af->aA->Prop}{s:aA}
def Ml:typeLookup (.type "list") "keys" = pure none:=am_miss_of_fast<|by kernel_rfl
def MQ{a:ak}{o:Obj}{k:Nat}{Q:bd->aA->Prop}(hx:s.heap.get? a=some o)(hc:o.cls=.type "list")(hdat:o.data=.seq xs k)(hd:o.dict=none)(hA:A.handled=none)
  (h:∀h' tk,(∀b ob,s.heap.get? b=some ob->h'.get? b=some ob)->Q none { s with heap:=h',toks:=tk }):wpAny (model P w) A (getAttr? (.ref a) "keys") Q E s:=by
 obtain⟨c,dct,dat,sl⟩:=o;simp only at hc hdat hd;subst hc hdat hd;obtain⟨hp,g,d,tk,os⟩:=s;have hT:∀tk',(⟨hp,g,d,tk',os⟩:aA).TypeIs (.ref a) "list" := λ_=>⟨_,hx,rfl⟩;have f1:=sub_AttributeError;have f3:=gF.lookup;have f4:=gF.bind<|.ref a;have f5:=am_list_getattr_none;unfold getAttr? getAttrBy? getAttrBy
 repeat (any_goals (first|assumption|exact hT _|((with_reducible show wpAny _ _ (call (Value.builtin "list.__getattribute__") _ _) _ _ _);refine iA gF (hT _) am_entry_list_getattribute (F.args_list_getattribute_2 _ _) (meets_getattribute_miss_list a xs k sl "keys" _ Ml ⋯ (by size_fits)) ⟨hx,hA,λh' tk' e hx'=>?_⟩)|wp_step))
 obtain⟨t',u',he⟩:=hx'.there
 skip
 unfold getattributeRaised
 repeat (any_goals (first|assumption|wp_step))
 exact h _ _ hx'.keeps
def DB:entryFor table "dict.update.loop" = some Builtin.«dict.update.loop»:=entryFor_of_tree<|by kernel_rfl
def wB:plainId "dict.update.loop" = true:=by decide +kernel
abbrev Nq (h:aq)(d I:ak)(its:ba)(ps:List<|Int×af):Prop:=∀(i:Nat) (v:af),its[i]?=some v->∃(b:ak) (p:Int×af) (t:Tok),v=.ref b/\b≠d/\b≠I/\ps[i]?=some p/\IsTup h b #[.int p.1 t,p.2]
def Nq.mono{h h':aq}(x:Nq h d I its ps)(k:∀b o,b≠d->b≠I->h.get? b=some o->h'.get? b=some o):Nq h' d I its ps:=λi v hv=>by
 obtain⟨b,p,t,h1,h2,h3,h4,o,h5,h6⟩:=x i v hv;exact⟨b,p,t,h1,h2,h3,h4,o,k b o h2 h3 h5,h6⟩
abbrev Yv (ps:List<|Int×af):List (Key×af):=ps.foldl (λacc p=>stored acc (Sum.inl p.1) p.2) []
def Qi(ps:List<|Int×af)(i:Nat)(p:Int×af)(h:ps[i]?=some p):Yv (ps.take<|i+1)=stored (Yv<|ps.take i) (Sum.inl p.1) p.2:=by
 unfold Yv;rw[dB,h,dc];rfl
theorem Lr:∀(ps:List<|Int×af) (acc:List<|Key×af),(ps.foldl (λacc p=>stored acc (Sum.inl p.1) p.2) acc).length<=acc.length+ps.length
 | [],acc=>aO _
 | p::ps,acc=>by
  have:=Lr ps<|stored acc (Sum.inl p.1) p.2;have h:(stored acc (Sum.inl p.1) p.2).length<=acc.length+1:=by
   unfold stored;split
   ·rw[aG];lia
   ·rw[aS];exact aO _
  rw[e8,bz]
  lia
def O_{R:Result->aA->Prop}{I l:ak}{St:Nat->aq->Prop}{its:ba}{ps:List<|Int×af}(W:Walks P w A.in1 I [I,l] [I] its.length (λi v=>its[i]?=some v) St)(hdI:d≠I)(hdl:d≠l)(hl:ps.length=its.length)(hz:ps.length<=sizeLine) :
  ∀(k i:Nat) (s:aA),its.length-i=k->i<=its.length->St i s.heap->s.heap.DictOf (kN P w) d (Yv<|ps.take i)->Nq s.heap d I its ps ->
   (∀h' tk,h'.DictOf (kN P w) d (Yv ps)->(∀b o,b≠d->b≠I->s.heap.get? b=some o->h'.get? b=some o)->R (.ok<|.ret .none) { s with heap:=h',toks:=tk }) ->
   codeAny (model P w) A (.builtin "dict.update.loop" ⟨[.ref d,.ref I,rawInt i,.none],[]⟩) R s:=by
 intro k
 induction k with
 | zero=>
  intro i s hk hi hst hD hP hR;have hin:i=its.length:=()
  subst hin;refine gI DB ?_;rw[gc wB _]
  skip
  refine aH (W.done s _ _ hst λh' tk hm=>?_)
  skip
  refine aH (aR<|aR<|hR h' tk ?_ λb o _ h2 e=>hm b o (by simpa using h2) e);rw[<- hl,c6]at hD;obtain⟨o,es,ep,ho,rest⟩:=hD;exact⟨o,es,ep,hm d o (by simpa using hdI) ho,rest⟩
 | succ k ih=>
  intro i s hk hi hst hD hP hR;have hlt:i<its.length:=()
  refine gI DB ?_;rw[gc wB _]
  skip
  refine aH<|W.item i s _ _ hlt hst λv h' tk hv hst' hm=>?_;have hP':Nq h' d I its ps:=hP.mono λb o h1 h2 e=>hm b o (by simpa using h2) e;obtain⟨b,p,t,rfl,hbd,hbI,hp,o,ho,hc,n,hd⟩:=hP' i v hv;have hD':h'.DictOf (kN P w) d (Yv<|ps.take i):=by
   obtain⟨o,es,ep,ho,rest⟩:=hD;exact⟨o,es,ep,hm d o (by simpa using hdI) ho,rest⟩
  have hT:Shared.TypeIs { s with heap:=h',toks:=tk } (.ref b) "tuple" := ⟨o,ho,hc⟩;have hpair:∀(A:az) (E:af->aA->Prop) (Q:ba->aA->Prop),Q [.int p.1 t,p.2] { s with heap:=h',toks:=tk }->wpAny (model P w) A (Builtin.Dict.pairItems<|.ref b) Q E { s with heap:=h',toks:=tk }:=λA E Q q=>by
   unfold Builtin.Dict.pairItems;refine aH<|fS hT ?_;rw[aL ⋯];refine aH<|iW ho hd<|aR q
  have hlen:(Yv<|ps.take i).length<=sizeLine:=by
   refine bB (Lr (ps.take i) []) ?_;rw[bI,cg]
   lia
  refine aH (dF<|aH<|wpAny_tryCatch<|hpair _ _ _ ?_)
  skip
  refine dF (wpAny_dictSet_pairs (hsz:=hlen) (knd:=kN P w) (k:=Sum.inl p.1) (s:={ s with heap:=h',toks:=tk }) (show Value.isInt p.1 (.int p.1 t)=true by simp[Value.isInt]) hD' λh2 hD2 hs=>?_);refine aR ⟨plainId_quiet wB _,?_⟩;have hsame:∀b o,b≠d->b≠I->s.heap.get? b=some o->h2.get? b=some o:=λb o h3 h4 e=>by rw[hs.2 b h3];exact hm b o (by simpa using h4) e
  refine ih (i+1) _ () hlt (W.frame _ _ _ hst' λb hb o e=>?_) (by rw[Qi ps i p hp];exact hD2) (hP.mono hsame) λh3 tk3 hD3 hs3=>hR h3 tk3 hD3 λb o h4 h5 e=>hs3 b o h4 h5<|hsame b o h4 h5 e;have hne:b≠d:=by
   intro z;subst z
   rcases bu.mp hb with z|z
   ·exact hdI z
   ·exact hdl<|by simpa using z
  skip
  rw[hs.2 b hne];exact e
theorem Dl{H:Hp}{X:Cx}(I:Inv X pins σ H s):∀(rs:bb) (ps:List<|Int×V),rs.length=ps.length->(∀(i:Nat) (r:ak) (q:Int×V),rs[i]?=some r->ps[i]?=some q->nO X.K H r [.int q.1,q.2]) ->
  ∃qs:List<|Int×af,KV ps qs/\∀(i:Nat) (r:ak),rs[i]?=some r->∃q t,qs[i]?=some q/\IsTup s.heap r #[.int q.1 t,q.2]
 | [],[],_,_=>⟨[],.nil,λi r h=>by simp at h⟩
 | [],_::_,h,_=>nomatch h
 | _::_,[],h,_=>nomatch h
 | r::rs,p::ps,hl,hh=>by
  obtain⟨qs,h1,h2⟩:=Dl I rs ps (by simpa using hl) λi r q e1 e2=>hh (i+1) r q (by simpa using e1) (by simpa using e2);obtain⟨its,rv,tp,_⟩:=I.tuple<|hh 0 r p rfl rfl;obtain⟨u1,u2,rfl,r1,r2⟩:=vals2 rv;obtain⟨t,rfl⟩:∃t,u1=Value.int p.1 t:=r1;refine⟨(p.1,u2)::qs,.cons ⟨rfl,r2⟩ h1,λi r' e=>?_⟩
  cases i with
  | zero=>cases e;exact⟨(p.1,u2),t,rfl,tp⟩
  | succ i=>exact h2 i r'<|by simpa using e
abbrev ptP (ps:List<|Int×V):List (Key×V):=ps.foldl (λacc p=>putK acc (Sum.inl p.1) p.2) []
def Z9:∀{ps:List<|Int×V}{qs:List<|Int×af},KV ps qs->∀{as:List<|Key×V}{bs:List<|Key×af},KV as bs->KV (ps.foldl (λacc p=>putK acc (Sum.inl p.1) p.2) as) (qs.foldl (λacc p=>stored acc (Sum.inl p.1) p.2) bs):=by
 intro ps qs h;unfold KV at h
 induction h with
 | nil=>exact λh=>h
 | @cons p q ps qs h t ih=>
  intro as bs h2;rw[e8,e8];obtain⟨e,r⟩:=h;rw[e];exact ih<|h2.put _ r
theorem Kf:∀(ps:List<|Int×V) (acc:List<|Key×V),(ps.foldl (λacc p=>putK acc (Sum.inl p.1) p.2) acc).length<=acc.length+ps.length
 | [],acc=>aO _
 | p::ps,acc=>by
  have:=Kf ps<|putK acc (Sum.inl p.1) p.2;have:=u7 acc (Sum.inl p.1) p.2;rw[e8,bz]
  lia
end
section
variable {X:Cx}
def IL(hc:X.calm=true):kF X (.type "dict") (λxs H Q=>∃(p:ak) (rs:bb) (ps:List<|Int×V),xs=[.ref p]/\nJ X.K H p (rs.map V.ref)/\rs.length=ps.length /\
  (∀(i:Nat) (r:ak) (q:Int×V),rs[i]?=some r->ps[i]?=some q->nO X.K H r [.int q.1,q.2])/\∀l,H l=none->Q (.ref l) (upd H l<|.dK<|ptP ps)):=by
 w_up;obtain⟨p,rs,ps,rfl,hq,hlen,hT,q⟩:=h;kj_on
 cases rx
 obtain⟨its,rv,pl,hz⟩:=I.list hq;have ei:=C4 rv;subst ei;rw[aG]at hz;obtain⟨qs,kv,tp⟩:=Dl I rs ps hlen hT;have ql:ps.length=qs.length:=kv.length;obtain⟨o,n,ho,hcl,hdn,hd⟩:=pl;have lp:p<s.heap.objs.size:=a_ ho;refine callType_codes (Q₁:=λobj s₁=>obj=.ref s.heap.objs.size/\s₁={ s with heap:=s.heap.push { cls:=.type "dict",data:=.dict #[]}}) F.kt_called_dict (F.kt_typeCall_dict_1 _) F.entry_dict_init (kt_code_dict_new _ ⟨rfl,rfl⟩) ?_;rintro obj s₁ ⟨rfl,rfl⟩;have hnew:(s.heap.push { cls:=.type "dict",data:=.dict #[]}).DictOf (kN X.prog X.w) s.heap.objs.size []:=Heap.DictOf.new s.heap;have ho':(s.heap.push { cls:=.type "dict",data:=.dict #[]}).get? p=some o:=aQ _ ho;have hTy:Shared.TypeIs { s with heap:=s.heap.push { cls:=.type "dict",data:=.dict #[]}} (.ref p) "list" := ⟨o,ho',hcl⟩;refine⟨hnew.typeIs,F.args_dict_init_2 _ _,?_⟩;unfold Builtin.«dict.__init__»;refine aH ?_;unfold Builtin.Dict.selfAndRest;refine aH (wpAny_notOrdered_dict hnew.typeIs ?_)
 skip
 refine aR ?_;show wpAny _ _ (Builtin.Dict.updateFrom "dict.__init__" s.heap.objs.size (.ref p) [] .none) _ _ _;unfold Builtin.Dict.updateFrom;refine aH<|fS hTy ?_;rw[aL ⋯];refine aH<|MQ ho' hcl hd hdn (show X.A.in1.in1.handled=none from I.ok.hd hc) λh' tk hk=>?_;rw[aL<|by rfl];refine aH<|eT ?_;have hl2:h'.IsList p (rs.map Value.ref).toArray:=⟨o,hk p o ho',hcl,n,hd⟩;refine aH<|i8 (s:={ s with heap:=h',toks:=tk }) hl2 ?_;refine aR ⟨plainId_quiet wB _,?_⟩;have sz:s.heap.objs.size<h'.objs.size:=a_<|hk _ _<|bq _ rfl;have W:Walks X.prog X.w X.A.in1.in1 h'.objs.size [h'.objs.size,p] [h'.objs.size] (rs.map Value.ref).length (λi v=>(rs.map Value.ref)[i]?=some v) (λi h=>h.IsListIter h'.objs.size p i/\h.IsList p (rs.map Value.ref).toArray):=by
  have W:=Walks.list (prog:=X.prog) (w:=X.w) (A:=X.A.in1.in1) (I.ok.hd hc) h'.objs.size p (bC<|a_<|hk p o ho') (rs.map Value.ref).toArray;rw[aX]at W;dsimp[eW]at W;exact W
 refine O_ (d:=s.heap.objs.size) (its:=rs.map Value.ref) (ps:=qs) W (bC sz) (cO<|bC lp) (by rw[aG];lia) () (rs.map Value.ref).length 0 _ () (bP _)
  ⟨⟨_,bq _ rfl,rfl,rfl⟩,hl2.push _⟩ ?_ (λi v hv=>?_) λh2 tk2 hD hs=>⟨rfl,.ref s.heap.objs.size,_,I.laid (t':=tk2) (o:=.dK<|ptP ps) (λb ob eb=>?_) (aO _) ?_,rfl,q _<|I.hok.fresh<|aO _⟩
 ·obtain⟨o,es,ep,e,rest⟩:=hnew;exact⟨o,es,ep,aQ _<|hk _ _ e,rest⟩
 ·rw[aV]at hv;obtain⟨r,hr,rfl⟩:=aY.mp hv;obtain⟨q,t,h1,o2,h2,h3⟩:=tp i r hr;have lr:=a_ h2;exact⟨r,q,t,rfl,bC lr,bC<|lt_trans lr sz,h1,o2,aQ _<|hk _ _<|aQ _ h2,h3⟩
 ·have lb:=a_ eb;exact hs b ob (bC lb) (bC<|lt_trans lb sz) (aQ _<|hk _ _<|aQ _ eb)
 ·refine QS (bB (Kf ps [])<|by rw[cg];lia) ?_ (Z9 kv .nil) hD;exact eG.mpr<|cO<|bC I.big
abbrev To (ns:ag):Sx.Ord where
 lt i j:=decide (ns.getD i 0<ns.getD j 0)
 Np i:=bH ()
 tr i j k h1 h2:=bg (by have:=bO h1;have:=bO h2;lia)
 neg i j k h:=by
  have:=bO h;by_cases c:ns.getD i 0<ns.getD j 0
  ·exact .inl (bg c)
  ·exact .inr<|bg ()
theorem Ao:∀{vs:ba}{ns:ag},IntsAre vs ns->vs.length=ns.length/\∀i,i<vs.length->∃t,vs.getD i .none=.int (ns.getD i 0) t
 | _,_,.nil=>⟨rfl,λi h=>absurd h<|e_ _⟩
 | _,_,.cons n t h=>by
  obtain⟨h1,h2⟩:=Ao h;refine⟨dO (·+1) h1,λi hi=>?_⟩
  cases i with
  | zero=>exact⟨t,rfl⟩
  | succ i=>exact h2 i<|by simpa using hi
theorem B3{f:Nat->Int}{h:Nat->af}:∀(l:am),(∀i∈l,∃t,h i=.int (f i) t)->Vals (l.map λi=>V.int<|f i) (l.map h)
 | [],_=>.nil
 | i::l,e=>.cons (e i<|aM ..)<|B3 l λj hj=>e j<|aN _ hj
def HY{s:aA}{H:Hp}{Q:VK}{h':aq}{tk:Nat}{vs:ba}{ns:ag}(I1:Inv X pins σ H { s with heap:=h',toks:=tk })(hi:IntsAre vs ns)(hz:vs.length<=sizeLine)
  (q:∀l g,H l=none->Sx.Cl g 0 ns.length->Sx.So (To ns) g 0 ns.length->Q (.ref l) (upd H l<|.lst<|(List.range ns.length).map λi=>V.int<|ns.getD (g i) 0)) :
  wpAny (model X.prog X.w) X.A.in1 (do
   let l <- newList vs
   let _ <- holding [l] (call (Value.builtin "list.sort") [l] [])
   ret l) (λfin s'=>∃v,fin=Fin.done (Flow.ret v)/\EP X pins σ Q v s') X.xe { s with heap:=h',toks:=tk }:=by
 obtain⟨hN,at_⟩:=Ao hi;refine aH<|jd ?_;have hoL:(h'.push<|seqObj "list" vs.toArray 0).get? h'.objs.size=some (seqObj "list" vs.toArray 0):=bq _ rfl
 skip
 refine aH (dF<|cH slot_list_sort ⟨_,hoL,rfl⟩ entry_list_sort (Sx.C3 (o:=To ns) (kd:=oneType') hoL hz (λh2 Q' q'=>?_) (λh2 i j hi' hj E' Q' q'=>?_) λg hc hs=>⟨_,rfl,?_⟩)<|args_list_sort _)
 ·obtain⟨a,b,r,rfl⟩:∃a b r,vs=a::b::r:=by
   cases vs with
   | nil=>simp at h2
   | cons a vs=>cases vs with
    | nil=>simp at h2
    | cons b r=>exact⟨a,b,r,rfl⟩
  exact iI (keyKind_ints hi) q'
 ·obtain⟨t,e1⟩:=at_ i hi';obtain⟨u,e2⟩:=at_ j hj;show wpAny _ _ (keyLt' oneType' (vs.getD i .none)<|vs.getD j .none) Q' E' _;rw[e1,e2,keyLt'_oneType];exact Sx.JG true q'
 ·rw[hN]at hc hs ⊢;obtain⟨e,he⟩:=sortedHeap_at (out:=((List.range ns.length).map λi=>vs.getD (g i) .none).toArray) hoL;have old:∀b ob,h'.get? b=some ob->(sortedHeap (h'.push<|seqObj "list" vs.toArray 0) h'.objs.size vs ((List.range ns.length).map λi=>vs.getD (g i) .none).toArray).get? b=some ob:=λb ob eb=>by
   rw[sortedHeap_old (bC<|a_ eb)<|by rw[fN];exact fj<|a_ eb];exact aQ _ eb
  refine aR ⟨_,rfl,.ref h'.objs.size,_,I1.laid (t':=tk) (o:=.lst<|(List.range ns.length).map λi=>V.int<|ns.getD (g i) 0) old (aO _) ?_,rfl,q _ g (I1.hok.fresh<|aO _) hc hs⟩;refine⟨by rw[aG,cF];omega,(List.range ns.length).map λi=>vs.getD (g i) .none,e,B3 _ λi hi=>at_ _ (by have:=(hc i (bP _)<|dD.mp hi).2;omega),he⟩
def MD{P:aj}{w:ah}{vs:List<|Key×af}:∀{acc:ba}{ns:ag},vs.map (·.1)=ns.map Sum.inl->acc.length=vs.length->(∀(j:Nat) v,acc[j]?=some v->∃k x,vs[j]?=some (k,x)/\(kN P w).is k v=true)->IntsAre acc ns:=by
 intro acc ns hk hl h
 induction acc generalizing vs ns with
 | nil=>cases vs with
  | nil=>cases ns with
   | nil=>exact .nil
   | cons=>cases hk
  | cons=>cases hl
 | cons a acc ih=>cases vs with
  | nil=>cases hl
  | cons v vs=>cases ns with
   | nil=>cases hk
   | cons n ns=>
    rw[bJ,bJ,List.cons.injEq]at hk;obtain⟨k,x,e1,e2⟩:=h 0 a rfl
    cases e1
    obtain⟨e3,e4⟩:=hk;have e3:k=Sum.inl n:=e3;subst e3;obtain⟨t,rfl⟩:=Value.isInt_shape (k:=n) (v:=a) e2;exact .cons n t<|ih e4 (by simpa using hl) λj v e=>h (j+1) v<|by simpa using e
def E9(hc:X.calm=true):kF X (.builtin "sorted") (λxs H Q=>∃(d:ak) (kvs:List<|Key×V) (ns:ag),xs=[.ref d]/\H d=some (.dK kvs)/\kvs.map (λp=>p.1)=ns.map Sum.inl /\
  ∀l g,H l=none->Sx.Cl g 0 ns.length->Sx.So (To ns) g 0 ns.length->Q (.ref l) (upd H l<|.lst<|(List.range ns.length).map λi=>V.int<|ns.getD (g i) 0)):=by
 w_up;obtain⟨d,kvs,ns,rfl,ed,ek,q⟩:=h;kj_on
 cases rx
 obtain⟨z,hd,vs,rel,dd⟩:=V5 I.hok ed;obtain⟨ep,da⟩:=dd.dictAt;have kl:kvs.length=vs.length:=rel.length;have ke:vs.map (·.1)=kvs.map (·.1):=by
  clear ek z dd da kl ed;unfold KV at rel
  induction rel with
  | nil=>rfl
  | cons h _ ih=>rw[bJ,bJ,ih,h.1]
 refine gz kind_sorted plain_sorted entry_sorted (args_sorted1 _) ?_;unfold Builtin.«sorted»;refine aH (m:=checkCount "sorted" 1 1 _)<|aR ?_;refine aH<|PySem.W.kdu_collect (PySem.W.kdl_dict hd) (show X.A.in1.handled=none from I.ok.hd hc) da () λh' tk acc hk hacc=>?_;have al:acc.toList.length=vs.length:=by rw[dR];exact hacc.1
 exact HY (s:=s) (I.kept (t':=tk) hk) (MD (P:=X.prog) (w:=X.w) (ke.trans ek) al λj v e=>hacc.2 j v<|by rw[dU]at e;exact e) () q
end
end L2
namespace Am
open PySem PySem.Spec PyProof.Rows L2
abbrev T4:ae->Option (List<|Int×A)
 | []=>some []
 | .tup [.int k,x]::r=>(T4 r).map λps=>(k,x)::ps
 | _=>none
abbrev UI (ps:List<|Int×A):List (Int×A):=ps.foldl (λacc p=>zE acc p.1 p.2) []
section
variable {K:au}{ρ:bb}{H:Hp}
def Uc{x:A}(r:AVs K ρ H [x,y] vs):∃v w,vs=[v,w]/\AV K ρ H x v/\AV K ρ H y w:=by
 cases r with
 | cons h t=>cases t with
  | cons h' t'=>cases t';exact⟨_,_,rfl,h,h'⟩
def OP{x:A}(e:T4 (x::xs)=some ps):∃k y ps',x=.tup [.int k,y]/\T4 xs=some ps'/\ps=(k,y)::ps':=by
 unfold T4 at e;split at e
 ·rename_i e2;cases e2
 ·rename_i k y r e2
  cases e2
  obtain⟨ps',h1,h2⟩:=aY.mp e;exact⟨_,_,_,rfl,h1,h2.symm⟩
 ·cases e
def Zp:∀{xs:ae}{vs:List V}{ps:List<|Int×A},AVs K ρ H xs vs->T4 xs=some ps ->
  ∃(rs:bb) (qs:List<|Int×V),vs=rs.map V.ref/\rs.length=qs.length/\(∀(i:Nat) (r:ak) (q:Int×V),rs[i]?=some r->qs[i]?=some q->nO K H r [.int q.1,q.2]) /\
   ∀as bs,DI K ρ H as bs->DI K ρ H (ps.foldl (λacc p=>zE acc p.1 p.2) as) (qs.foldl (λacc p=>putK acc (Sum.inl p.1) p.2) bs):=by
 intro xs
 induction xs with
 | nil=>intro vs ps r e;cases r;cases e;exact⟨[],[],rfl,rfl,λi r q h=>by simp at h,λas bs h=>h⟩
 | cons x xs ih=>
  intro vs ps r e;obtain⟨k,y,ps',rfl,e1,rfl⟩:=OP e
  cases r with
  | cons h t=>
   obtain⟨rs,qs,rfl,hl,hh,hd⟩:=ih t e1
   cases h with
   | @tup a _ us h r=>
    obtain⟨v,w,rfl,h1,h2⟩:=Uc r
    cases h1
    refine⟨a::rs,(k,w)::qs,rfl,by rw[bz,bz,hl],λi r q e1 e2=>?_,λas bs d=>hd _ _<|d.put h2 k⟩
    cases i with
    | zero=>cases e1;cases e2;exact nO.of h
    | succ i=>exact hh i r q (by simpa using e1)<|by simpa using e2
end
section
variable {X:Cx}
abbrev Iu (x:A)(S:jM):R A:=match x with
 | .ref n=>opt (jK S n) λxs=>opt (T4 xs) λps=>.ok (.ref S.length) (S++[.pU<|UI ps])
 | _=>.no
def UK(hc:X.calm=true):kF X (.type "dict") (rN X<|f1 Iu):=kF.imp (IL hc) λvs H Q h0=>by
 gn_on;clear h0
 cases hv with
 | ref hp=>
  rename_i p n;gp_on;obtain⟨ps,hb,h⟩:=jU h;obtain⟨us,h1,r⟩:=R.lst hp<|j0 hn;obtain⟨rs,qs,rfl,hl,hh,hd⟩:=Zp r hb;refine⟨p,rs,qs,rfl,nJ.of h1,hl,hh,λl hl'=>?_⟩;obtain⟨ex,R',hl⟩:=R.aaG (xs:=UI ps) (vs:=ptP qs) hl'<|hd [] [] trivial;exact h _ _ _ ex R'<|.ref hl
 | _=>exact h.elim
abbrev yZ (x:A)(S:jM):R A:=match x with
 | .ref n=>opt (lX S n) λkvs=>.ok (.ref S.length) (S++[.lst<|(sortI<|kvs.map Prod.fst).map .int])
 | _=>.no
def TM{ns:ag}{g:Nat->Nat}(c:Sx.Cl g 0 ns.length)(so:Sx.So (To ns) g 0 ns.length):(List.range ns.length).map (λi=>ns.getD (g i) 0)=sortI ns:=by
 refine Kq ?_ ?_ (tU ns)
 ·refine List.Perm.trans ?_ (sortI_perm ns).symm;have p:=xj (N:=ns.length) (g:=g) (λi hi=>(c i (bP _) hi).2) λi j hij hj z=>by
   have:=so i j (bP _) hij hj;rw[z]at this;exact this.Np
  have:=p.map λi=>ns.getD i 0;rw[bD,range_getD]at this;exact this
 ·rw[cA];intro i j hi hj hij;rw[aG,cF]at hi hj;rw[cZ,cZ,dZ,dZ];have:=dY (so i j (bP _) hij hj).ge
  lia
def JI(hc:X.calm=true):kF X (.builtin "sorted") (rN X<|f1 yZ):=kF.imp (E9 hc) λvs H Q h0=>by
 gn_on;clear h0
 cases hv with
 | ref hp=>
  rename_i p n;obtain⟨kvs,hn,h⟩:=jU h;obtain⟨ks,g1,dv⟩:=R.pU hp<|qJ hn;refine⟨p,ks,kvs.map Prod.fst,rfl,g1,by rw[dv.keys,bD];rfl,λl g hl' hc hs=>?_⟩;have av:AVs X.K ρ H ((sortI<|kvs.map Prod.fst).map .int) ((List.range (kvs.map Prod.fst).length).map λi=>V.int<|(kvs.map Prod.fst).getD (g i) 0):=by
   rw[<- TM hc hs,bD];exact Je λi _=>.int _
  exact nY R av .refl h l hl'
 | _=>exact h.elim
@[irreducible] noncomputable def big:Nat:=2 ^ 4096
theorem sC:big=2 ^ 4096:=by unfold big;rfl
def GS{i:Int}(h:i.natAbs<big):Builtin.Int.intBits i<=2 ^ 20:=by
 rw[sC]at h;exact bB (intBits_le h) ⋯
abbrev Hr (a b:A)(S:jM):R A:=match a,b with
 | .int i,.int j=>gd (i.natAbs<big/\j.natAbs<big) (.ok (.int<|i * j) S)
 | _,_=>.no
def Pg:pV X (binaryOp .Mult) (r2 X Hr):=λpins s σ H x y v u Q I rx ry h9=>by
 x_go
 cases va with
 | int i=>cases vb with
  | int j=>
   obtain⟨⟨h1,h2⟩,h⟩:=ki h;obtain⟨t,rfl⟩:∃t,v=Value.int i t:=rx;obtain⟨t',rfl⟩:∃t,u=Value.int j t:=ry;exact mul_int ⟨.int _,H,I.tok _,⟨_,rfl⟩,h _ _ _ .refl R<|.int _⟩<|IntMulOk.of_bits (GS h1)<|GS h2
  | _=>exact h.elim
 | _=>exact h.elim
end
def Uw:bootBuiltins "dict" = some (.type "dict"):=by decide +kernel
abbrev kA (p:Int×Int):A:=.ktu [.int p.1,.int p.2]
abbrev OS (K:au):af->Option (Int×Int)
 | .ref b=>match K.lookup b with
  | some ⟨.type "tuple",none,.seq its _,_⟩=>match its.toList with
   | [.int i _,.int j _]=>some (i,j)
   | _=>none
  | _=>none
 | _=>none
abbrev Ih (K:au):ba->Option (List<|Int×Int)
 | []=>some []
 | v::vs=>(OS K v).bind λp=>(Ih K vs).map λps=>p::ps
abbrev Sj (K:au)(a:ak):Option (List<|Int×Int):=match K.lookup a with
 | some ⟨.type "list",none,.seq its _,_⟩=>if its.size<=sizeLine then Ih K its.toList else none
 | _=>none
def RI{K:au}{v:af}{p:Int×Int}(h:OS K v=some p):∃b,v=.ref b/\KTp K b [.int p.1,.int p.2]:=by
 unfold OS at h;split at h
 ·rename_i b;refine⟨b,rfl,?_⟩;split at h
  ·rename_i its n sl e;split at h
   ·rename_i i t j u e2
    cases h
    refine⟨_,its,n,e,rfl,rfl,rfl,?_,?_⟩
    ·rw[<- dR,e2];show 2<=sizeLine;decide
    ·rw[e2];exact .cons ⟨t,rfl⟩<|.cons ⟨u,rfl⟩ .nil
   ·cases h
  ·cases h
 ·cases h
def Mt{K:au}{H:Hp}:∀{vs:ba}{ps:List<|Int×Int},Ih K vs=some ps->∃us:List V,Vals us vs/\AVs K ρ H (ps.map kA) us:=by
 intro vs
 induction vs with
 | nil=>intro ps h;cases h;exact⟨[],.nil,.nil⟩
 | cons v vs ih=>
  intro ps h;obtain⟨p,h1,h⟩:=bX.mp h;obtain⟨qs,h2,rfl⟩:=aY.mp h;obtain⟨us,h3,h4⟩:=ih h2;obtain⟨b,rfl,h5⟩:=RI h1;exact⟨.ref b::us,.cons rfl h3,.cons (.ktu h5<|.cons (.int _)<|.cons (.int _) .nil) h4⟩
def W3{K:au}{H:Hp}{a:ak}{ps:List<|Int×Int}(h:Sj K a=some ps):AV K ρ H (.frz<|ps.map kA) (.ref a):=by
 unfold Sj at h;split at h
 ·rename_i its n sl e;split at h
  ·rename_i hz;obtain⟨us,h1,h2⟩:=Mt (ρ:=ρ) (H:=H) h;exact .frz (.inr ⟨_,its,n,e,rfl,rfl,rfl,hz,h1⟩) h2
  ·cases h
 ·cases h
def FF{X:Cx}{x:Str}{a:ak}{ps:List<|Int×Int}(hm:X.mg x=some (.ref a))(hk:Sj X.K a=some ps)(hg:Gl X x:=by rfl)(hd:(x == ("__debug__" : Str))=false:=by decide):AE X (.Name x pos) (eC<|.frz<|ps.map kA):=
 PE.imp (Up (v:=.ref a) hg hm rfl hd) λσ H Q h9=>by
  room;exact h ρ H _ .refl R<|W3 hk
section
variable {X:Cx}
abbrev Wu (n:Nat)(S:jM):R A:=opt (ko S n) λkvs=>match (kvs.map Prod.fst).all (λks=>!ks.isEmpty)with
 | true=>.ok (.ref S.length) (S++[.lst<|(mF<|kvs.map Prod.fst).map λks=>.tup<|ks.map .int])
 | false=>.no
abbrev yO (x:A)(S:jM):R A:=match x with
 | .ref n=>Wu n S
 | _=>.no
theorem Le{K:au}{H:Hp}:∀{kvs:List<|ag×A}{ks:List<|List Key×V},DV K ρ H kvs ks->ks.map (λp=>p.1)=(kvs.map Prod.fst).map (λks=>ks.map Sum.inl)
 | [],[],_=>rfl
 | a::kvs,b::ks,⟨z,t⟩=>by
  have:=Le t;show b.1::ks.map _=a.1.map Sum.inl::_;rw[this,z.1]
def Kl(hc:X.calm=true):kF X (.builtin "sorted") (rN X<|f1 yO):=kF.imp (Ew hc) λvs H Q h0=>by
 gn_on;clear h0
 cases hv with
 | ref hp=>
  rename_i p n;obtain⟨kvs,hn,h⟩:=jU h;obtain⟨ks,g1,dv⟩:=R.dct hp (pF hn)
  cases hb:(kvs.map Prod.fst).all (λks=>!ks.isEmpty)with
  | false=>rw[hb]at h;exact h.elim
  | true=>
   rw[hb]at h;refine⟨p,ks,kvs.map Prod.fst,rfl,g1,Le dv,λk hk z=>?_,λrs l g hl hh hl' hc hs=>?_⟩
   ·have:=ji.mp hb k hk;rw[z]at this
    cases this
   have av:AVs X.K ρ H ((mF<|kvs.map Prod.fst).map λks=>.tup<|ks.map .int) (((List.range (kvs.map Prod.fst).length).map λi=>rs.getD (g i) 0).map V.ref):=by
    rw[<- YW hc hs,bD,bD];refine Je λi hi=>?_;have lt:=(hc i (bP _)<|dD.mp hi).2;have e1:rs[g i]?=some (rs.getD (g i) 0):=by rw[aI,aF<|by rw[hl];exact lt];rfl
    have e2:(kvs.map Prod.fst)[g i]?=some ((kvs.map Prod.fst).getD (g i) []):=by rw[aI,aF lt];rfl
    exact .tup (hh _ _ _ e1 e2)<|q_ _
   exact nY R av .refl h l hl'
 | _=>exact h.elim
end
end Am
namespace L2
open PySem PySem.Spec PyProof.Rows
section
variable {X:Cx}
abbrev Uz (i j:Int):ag:=(List.range (i-j).toNat).map λk:Nat=>i-(k:Int)
def TH(i j:Int):(Uz i j).length=(i-j).toNat:=by unfold Uz;rw[aG,cF]
theorem Bg{f:Nat->Int}{h:Nat->af}:∀(l:am),(∀i∈l,∃t,h i=.int (f i) t)->Vals (l.map λi=>V.int<|f i) (l.map h)
 | [],_=>.nil
 | i::l,e=>.cons (e i<|aM ..)<|Bg l λj hj=>e j<|aN _ hj
def OO{i:Int}{n:Nat}{acc:Array af}(h:ItemsOf (λk v=>∃t,v=Value.int (i+(k:Int) * (-1)) t) acc n):Vals (((List.range n).map λk:Nat=>i-(k:Int)).map V.int) acc.toList:=by
 obtain⟨hs,h⟩:=h;have e:acc.toList=(List.range n).map λk=>acc.toList.getD k .none:=by
  refine gv (by simp[hs]) λk h1 h2=>?_;rw[cZ,dZ,aI,aF h1];rfl
 rw[e,bD];refine Bg _ λk hk=>?_;have hk:=dD.mp hk;obtain⟨t,ht⟩:=h k (acc.toList.getD k .none) (by rw[<- dU,aI,aF<|by simp[hs];exact hk];rfl);exact⟨t,by rw[ht];congr 1;lia⟩
def Cp(l:ak){a b:Int}{t v:Tok}{n:Nat}(hsmall:Builtin.Range.small a b (-1)=true)(hn:Builtin.Range.rangeSize a b (-1)=n)(hlen:n<=1000) :
  Meets (Builtin.«tuple.__new__» ⟨[.type "tuple",.ref l],[]⟩)
   (λA R s=>A.handled=none/\IsRange s.heap l a b (-1) t u v/\∀(h':aq) (tk:Nat) (acc':Array af),(∀b o',s.heap.get? b=some o'->h'.get? b=some o')->ItemsOf (λi v=>∃t,v=.int (a+i * (-1)) t) acc' n->R (.ok<|.ret<|.ref h'.objs.size) { s with heap:=h'.push { cls:=.type "tuple",data:=.seq acc' },toks:=tk }):=
 .of_wp λprog w A R s h=>by
  obtain⟨hp,g,d,tk,os⟩:=s;obtain⟨hh,ht,h⟩:=h;have hsub:=sub_tuple_self;have hinit:=init_tuple_lookup;have hmh:=madeHere_tuple;have hT:Shared.TypeIs ⟨hp,g,d,tk,os⟩ (.ref l) "range" := ⟨_,ht,rfl⟩;have hh':A.in1.handled=none:=hh
  wp_walk using cJ ht,fS hT,zT (A:=A.in1) hh' ht hsmall hn ()
  intro h' tk' acc' hk hacc;show wpAny _ _ (Builtin.Tuple.tupleExact acc'.toList.toArray >>= λv=>ret v) _ _ _;unfold Builtin.Tuple.tupleExact;have e:acc'.toList.toArray=acc':=by simp
  refine aH (b9 ?_<|by show acc'.toList.toArray.size<=sizeLine;rw[e,hacc.1,dw];lia);refine aR ⟨_,rfl,?_⟩;rw[e];exact h h' tk' acc' hk hacc
abbrev DnO (o:Obj)(i j:Int):Prop:=∃t u v:Tok,o={ cls:=.type "range",data:=.fields #[.int i t,.int j u,.int (-1) v]}
def IK:kF X (.type "range") (λxs H Q=>∃i j,xs=[.int i,.int j,.int<|-1]/\∀r o,DnO o i j->H r=none->Q (.ref r) (upd H r<|.frz o<|.own r)):=by
 w_up;obtain⟨i,j,rfl,q⟩:=h
 cases r with
 | cons r rr=>cases rr with
  | cons r' rr=>cases rr with
   | cons r'' rr=>
    cases rr
    obtain⟨t,rfl⟩:=r;obtain⟨t',rfl⟩:=r';obtain⟨t'',rfl⟩:=r'';have hn:(s.heap.push { cls:=.type "range",data:=.fields #[.int i t,.int j t',.int (-1) t'']}).get? s.heap.objs.size=some { cls:=.type "range",data:=.fields #[.int i t,.int j t',.int (-1) t'']}:=bq _ rfl;exact call_range_3 ⋯ ⟨.ref s.heap.objs.size,_,I.laid (o:=.frz _<|.own s.heap.objs.size) (t':=s.toks) (λb o e=>aQ _ e) (aO _) ⟨hn,_,hn⟩,rfl,q _ _ ⟨_,_,_,rfl⟩ I.fresh⟩
def Jb(hc:X.calm=true):kF X (.type "tuple") (λxs H Q=>∃p i j o u,xs=[.ref p]/\H p=some (.frz o u)/\DnO o i j/\(-(2 ^ 62)<=i/\i<2 ^ 62/\-(2 ^ 62)<=j/\j<2 ^ 62)/\(i-j).toNat<=1000/\∀l,H l=none->Q (.ref l) (upd H l<|.tup<|(Uz i j).map V.int)):=by
 w_up;obtain⟨p,i,j,o,u0,rfl,hp,⟨t,u',v,rfl⟩,⟨b1,b2,b3,b4⟩,hn,q⟩:=h;kj_on
 cases rx
 have e:=(show mj _ _ H s.heap p (.frz _ u0)from I.hok p _ hp).1;have sz:Builtin.Range.rangeSize i j (-1)=(((i-j).toNat:Nat):Int):=by rw[Dp];split<;>lia
 refine callType_new F.called_tuple ⋯ (F.typeCall_tuple_1 _) (F.newCall_tuple_1 _) (λobj=>iH obj _) F.entry_tuple_new
  (Cp (n:=(i-j).toNat) p (small_down b1 b2 b3 b4) sz hn) ⟨I.ok.hd hc,e,λh' tk acc' hk hacc=>⟨⟨_,bq _ rfl,rfl⟩,?_⟩⟩
 have I1:Inv X pins σ H { s with heap:=h',toks:=tk }:=I.kept hk;refine⟨.ref h'.objs.size,_,I1.laid (t':=tk) (o:=.tup<|(Uz i j).map V.int) (λb o e=>aQ _ e) (aO _) ⟨?_,acc'.toList,OO hacc,?_⟩,rfl,q _<|I1.hok.fresh<|aO _⟩
 ·rw[aG,TH,dw];lia
 ·have e:acc'.toList.toArray=acc':=by simp
  rw[e];exact pN.new _ _
end
end L2
namespace Am
open PySem PySem.Spec PyProof.Rows L2
section
variable {X:Cx}{a b c0:aC}{pos:Pos}
abbrev tdF (a b k:A)(S3:jM):R A:=match a,b,k with
 | .int i,.int j,.int m=>gd (m=-1/\bnd i/\bnd j/\(i-j).toNat<=1000) (.ok (.tup<|(Uz i j).map .int) S3)
 | _,_,_=>.no
def Sd{a b k:A}{P:A->jM->Prop}{E:Str->jM->Prop}(h:(tdF a b k S3).post P E):∃i j,a=.int i/\b=.int j/\k=.int (-1)/\bnd i/\bnd j/\(i-j).toNat<=1000/\P (.tup<|(Uz i j).map .int) S3:=by
 unfold tdF at h;split at h
 ·obtain⟨⟨z,h1,h2,h3⟩,h⟩:=ki h;exact⟨_,_,rfl,rfl,by rw[z],h1,h2,h3,h⟩
 ·exact h.elim
abbrev ON (c d e:Ex):Ex:=λτ S=>(c τ S).bind λa S1=>(d τ S1).bind λb S2=>(e τ S2).bind λk S3=>tdF a b k S3
def Sa{x:Str}{p pos:Pos}{c d e:Ex}(hcl:X.calm=true)(hm:X.mg x=none)(hv:bootBuiltins x=some (.type "tuple"))(hm':X.mg y=none)(hv':bootBuiltins y=some (.type "range"))(ha:AE X a c)(hb:AE X b d)(hc:AE X c0 e)
  (hg:Gl X x:=by rfl) (hn:x ≠ "__name__" := by decide) (hdb:(x == ("__debug__" : Str))=false:=by decide) (hg':Gl X y:=by rfl) (hn':y ≠ "__name__" := by decide) (hdb':(y == ("__debug__" : Str))=false:=by decide)
  (hs:starEach [a,b,c0] X.env=(false,eval a X.env)::starEach [b,c0] X.env:=by rfl) (hs2:starEach [b,c0] X.env=(false,eval b X.env)::starEach [c0] X.env:=by rfl) (hs3:starEach [c0] X.env=(false,eval c0 X.env)::starEach [] X.env:=by rfl) (hpl':(backTo cpos<|starEach [b,c0] X.env).any (·.1)=false:=by rfl)
  (he:starEach [.Call (.Name y p') [a,b,c0] [] cpos] X.env=(false,eval (.Call (.Name y p') [a,b,c0] [] cpos) X.env)::starEach [] X.env:=by rfl) (hpl:(backTo pos<|starEach [] X.env).any (·.1)=false:=by rfl) :
  AE X (.Call (.Name x p) [.Call (.Name y p') [a,b,c0] [] cpos] [] pos) (ON c d e):=
 PE.imp (zw (Jb hcl) hg hm hv (n6 (zw IK hg' hm' hv' (n6 ha (n6 hb (n6 hc vc hs3) hs2) hs) hn' hdb' hs hpl') vc he) hn hdb he hpl) λσ H Q h9=>by
  room;refine⟨ρ,S,τ,R,r,jO (jS h) .refl λx S1 h1 ρ1 H1 v e1 R1 v1=>⟨ρ1,S1,τ,R1,r.ext e1,jO (jS h1) e1 λy S2 h2 ρ2 H2 w e2 R2 v2=>⟨ρ2,S2,τ,R2,(r.ext e1).ext e2,jO (jS h2) (e1.trans e2) λz S3 h3 ρ3 H3 u e3 R3 v3=>?_⟩⟩⟩;obtain⟨i,j,hx,hy,hz,hk1,hk2,hk3,h4⟩:=Sd h3;subst hx hy hz
  cases v1
  cases v2
  cases v3
  refine⟨_,_,rfl,λr' o hO hr=>?_⟩;obtain⟨ex,R4⟩:=R3.im (u:=.frz o<|.own r') hr;exact⟨r',_,_,o,_,rfl,kZ,hO,⟨hk1.1,hk1.2,hk2.1,hk2.2⟩,hk3,rY R4 (q_ _) (((e1.trans e2).trans e3).trans ex) h4⟩
def UM{c d e:Ex}{i j:Int}(h:c τ S=.ok (.int i) S1)(h':d τ S1=.ok (.int j) S2)(h'':e τ S2=.ok (.int<|-1) S3)(hb:bnd i)(hb':bnd j)(hl:(i-j).toNat<=1000):ON c d e τ S=.ok (.tup<|(Uz i j).map .int) S3:=by
 unfold ON;rw[h];show(d τ S1).bind _=_;rw[h'];show(e τ S2).bind _=_;rw[h''];exact aL ⟨rfl,hb,hb',hl⟩
end
end Am
namespace HT
open PySem PySem.Spec PyProof.Rows L2
variable {prog:aj}{w:ah}{A:az}{E:af->aA->Prop}{s:aA}
def wL{t:ak}{items:Array af}{lo:bi}{Q:af->aA->Prop}(ht:IsTup s.heap t items)(hs:s.heap.IsSliceOf sl vl vu .none)(pl:IsPart vl lo)(pu:IsPart vu hi)
  (hw:mY items.size 0 lo=0/\mY items.size items.size hi=items.size) (h:Q (.ref t) s):wpAny (model prog w) A (getItem (.ref t)<|.ref sl) Q E s:=by
 obtain⟨os,hos,hcs,hds⟩:=id hs;have hTs:s.TypeIs (.ref sl) "slice" := ⟨os,hos,hcs⟩;unfold getItem
 try with_reducible refine dF ?_
 first|refine aH (aR ?_)|skip
 refine aH<|wpAny_sequenceKey ht.typeIs ⋯ ?_;refine aH (cU (name:=Str.ofString "__getitem__") ht.typeIs cL
  (cH cL ht.typeIs entry_tuple_getitem ?_<|args_tuple_getitem _ _))
 show wpAny _ _ (Builtin.Tuple.tupleItemsOf (.ref t) >>= _) _ _ s;refine aH<|tupleItemsOf_ ht ?_;refine aH<|fS hTs ?_;rw[aL ⋯];refine aH<|tF hs pl pu ?_;show wpAny _ _ (if (((mY items.size 0 lo:Nat):Int) == 0 && (1:Int) == 1 && (mY items.size items.size hi-mY items.size 0 lo) == items.size)=true then _ else _) _ _ s;rw[aL<|by rw[hw.1,hw.2];simp];refine aH ?_;unfold Builtin.Tuple.tupleIsExact;refine aH<|fS ht.typeIs<|aR ?_;rw[aL ⋯];exact aH<|eT<|aR ⟨_,rfl,aR h⟩
end HT
namespace L2
open PySem PySem.Spec PyProof.Rows
section
variable {X:Cx}
abbrev abR (K:au):V->bi->bi->Hp->VK->Prop:=λx lo hi H Q=>∃a xs,x=.ref a/\nO K H a xs/\(HT.mY xs.length 0 lo=0/\HT.mY xs.length xs.length hi=xs.length)/\Q (.ref a) H
def Oa:Zj X (abR X.K):=by
 intro pins s σ H x v vl vu lo hi sl Q I rx hs pl pu h;obtain⟨a,xs,rfl,hx,hw,q⟩:=h
 cases rx
 obtain⟨its,r,ht,hz⟩:=I.tuple hx;have hlen:its.toArray.size=xs.length:=by rw[aX];exact r.length.symm
 refine⟨"tuple",_,cL.lookup,ht.typeIs,?_⟩;exact HT.wL ht hs pl pu (by rw[hlen];exact hw) ⟨.ref a,H,I,rfl,q⟩
end
end L2
namespace Am
open PySem PySem.Spec PyProof.Rows L2
section
variable {X:Cx}{pos:Pos}
abbrev OT (a:A)(lo hi:bi)(S:jM):R A:=match a with
 | .tup xs=>.ok (.tup<|wJ xs lo hi) S
 | _=>.no
abbrev IT (c:Ex)(lo hi:Pt):Ex:=λτ S=>(c τ S).bind λa S1=>(lo τ S1).bind λl S2=>(hi τ S2).bind λu S3=>OT a l u S3
abbrev rSW (X:Cx):V->bi->bi->Hp->VK->Prop:=λx lo hi H Q=>∃ρ S a,Rel X.K ρ H S/\AV X.K ρ H a x/\(OT a lo hi S).post (CA X ρ H Q) (XE X ρ H)
def M7{xs:ae}{lo:bi}(h:HT.mY xs.length 0 lo=0/\HT.mY xs.length xs.length hi=xs.length):wJ xs lo hi=xs:=by
 unfold wJ;rw[h.1,h.2,jC,Nat.sub_zero,c6]
def SK:Zj X (rSW X):=λpins s σ H x v vl vu lo hi sl Q I rx hs pl pu h9=>by
 obtain⟨ρ,S,a,R,va,h⟩:=h9
 cases va with
 | @tup p xs vs h1 r1=>
  by_cases c:HT.mY xs.length 0 lo=0/\HT.mY xs.length xs.length hi=xs.length
  ·have h:CA X ρ H Q (.tup<|wJ xs lo hi) S:=h;rw[M7 c]at h;exact Oa pins s σ H _ v vl vu lo hi sl Q I rx hs pl pu ⟨p,vs,rfl,nO.of h1,by rw[<- r1.length];exact c,h _ _ _ .refl R<|.tup h1 r1⟩
  ·exact Nv pins s σ H _ v vl vu lo hi sl Q I rx hs pl pu ⟨p,vs,rfl,(nO.of h1),by rw[<- r1.length];exact c,rY R (r1.cut lo hi) .refl h⟩
 | _=>exact h.elim
def PX{e:aC}{lo:Option aC}{c:Ex}{cl ch:Pt}(he:AE X e c)(hl:AO X lo cl)(hh:AO X hi ch):AE X (.Subscript e (.Slice lo hi none p2) pos) (IT c cl ch):=PE.imp (G9 SK he hl hh) λσ H Q h9=>by
 room;refine⟨ρ,S,τ,R,r,jO (jS h) .refl λa S1 h1 ρ1 H1 x e1 R1 v1=>⟨ρ1,S1,τ,R1,r.ext e1,jO (jS h1) e1 λl S2 h2 ρ2 H2 e2 R2=>⟨ρ2,S2,τ,R2,r.ext<|e1.trans e2,jO (jS h2) (e1.trans e2) λu S3 h3 ρ3 H3 e3 R3=>?_⟩⟩⟩;exact⟨ρ3,S3,a,R3,v1.ext<|e2.trans e3,jO h3 (e1.trans<|e2.trans e3) λ_ _ z=>z.ext<|e1.trans<|e2.trans e3⟩
end
end Am
namespace K31
open PySem L2 Am
abbrev top (i:Nat):aE:=PySem.Challenge.pw_undercells_k31_turning_by_any_word.main.body.getD i<|.Pass ⟨0,0,0,0⟩
meta abbrev xr:aE:=top 5
meta abbrev w_:ar:=["thing"]
meta abbrev xE:ar:=["thing"]
abbrev w9:Sm:=
 lN (Rv (j9 (f2 Bb)<|jH (jI 0)<|jH (eC<|.ty "int") jR)<|Zc<|j9 (f2 Bb)<|jH (jI 0)<|jH (eC<|.ty "bool") jR)
abbrev rD:ae->jM->R A:=mz w_ w9
meta abbrev vC:aE:=top 6
meta abbrev vW:ar:=["one", "other"]
meta abbrev vE:ar:=["one", "other"]
abbrev vP:Sm:=
 Aj (uW<|jT (wM true) (j9 (f1 qP)<|jH (jI 0) jR)<|j9 (f1 qP)<|jH (jI 1) jR)
 (sNo)
 qM
abbrev qk:ae->jM->R A:=mz vW vP
meta abbrev Ji:aE:=top 7
meta abbrev HR:ar:=["order", "places", "at", "thing"]
meta abbrev ID:ar:=["order"]
abbrev Pp:Ic:=
 TV (jI 0)
abbrev FP:Sm:=
 kG (jT lK (jI 2)<|eC<|.int 1) (YV (jI 1)<|jT aSub (jI 3)<|eC<|.int 1)
abbrev IX:Sm:=
 kg (kG (jT ET (pC<|jH (eC<|.int 0) jR)<|j9 (f1 qP)<|jH (jI 0) jR)<|kD 1)
 (kg (kX Pp (xD 2<|oR (kD 2)<|oR (kD 3) xB)
 FP)
 (lN<|j9 (f1 ux)<|jH (jI 1) jR))
abbrev Ct:ae->jM->R A:=mz HR IX
meta abbrev sL:aE:=top 8
meta abbrev sI:ar:=["n", "thing"]
meta abbrev sQ:ar:=["n", "thing"]
abbrev sS:Sm:=
 lN (Rv (eFn rD<|jH (jI 1) jR)<|Zk aLe X5 (eC<|.int 1) (jI 1)<|jI 0)
abbrev nS:ae->jM->R A:=mz sI sS
meta abbrev oO:aE:=top 9
meta abbrev oB:ar:=["order", "i", "j", "things"]
meta abbrev oA:ar:=["order", "i", "j"]
abbrev oM:Sm:=
 kg (kG (j9 (f1 yv)<|jH (jI 0) jR)<|kD 3)
 (kg (kG (mW<|jH (jT p_ (jI 3)<|jT aSub (jI 2)<|eC<|.int 1)<|jH (jT p_ (jI 3)<|jT aSub (jI 1)<|eC<|.int 1) jR)<|xD 2<|oR (YV (jI 3)<|jT aSub (jI 1)<|eC<|.int 1)<|oR (YV (jI 3)<|jT aSub (jI 2)<|eC<|.int 1) xB)
 (lN<|j9 (f1 ux)<|jH (jI 3) jR))
abbrev lZ:ae->jM->R A:=mz oB oM
meta abbrev vd:aE:=top 10
meta abbrev vm:ar:=["order", "k"]
meta abbrev oQ:ar:=["order", "k"]
abbrev u_:Sm:=
 kg (Aj (Br<|tX<|eFn nS<|jH (j9 (f1 qP)<|jH (jI 0) jR)<|jH (jI 1) jR)
 (sNo)
 qM)
 (lN<|eFn lZ<|jH (jI 0)<|jH (jI 1)<|jH (jT lK (jI 1)<|eC<|.int 1) jR)
abbrev lQ:ae->jM->R A:=mz vm u_
meta abbrev Fi:aE:=top 11
meta abbrev Ey:ar:=["order"]
meta abbrev AX:ar:=["order"]
abbrev E8:Sm:=
 lN (kJ [none,some 0] (sj (eC<|.int 1)<|j9 (f1 qP)<|jH (jI 0) jR) (kD 0) (uW<|jT Mu (jT p_ (jI 1)<|jT aSub (jI 0)<|eC<|.int 1)<|jT p_ (jI 1)<|jI 0)<|jI 0)
abbrev r6:ae->jM->R A:=mz Ey E8
meta abbrev qE:aE:=top 14
meta abbrev qC:ar:=["numbers"]
meta abbrev n5:ar:=["numbers"]
abbrev qq:Sm:=
 lN (kJ [none,some 0] (mH<|j9 (f1 yZ)<|jH (jI 0) jR) (kD 0) (uW<|jT (wM true) (jT zz (jI 1)<|jI 0)<|eC<|.int 0)<|mW<|jH (jI 0)<|jH (jT zz (jI 1)<|jI 0) jR)
abbrev lH:ae->jM->R A:=mz qC qq
meta abbrev HG:aE:=top 15
meta abbrev Ij:ar:=["one", "other", "numbers", "power", "number"]
meta abbrev IQ:ar:=["one", "other"]
abbrev xV:Ic:=
 mH (jI 1)
abbrev GI:Sm:=
 kG (jT lK (Gx wR (jI 2)<|jH (jI 3)<|jH (eC<|.int 0) jR)<|jI 4) (GR (jI 2)<|jI 3)
abbrev Jd:Sm:=
 kg (kG (j9 (f1 Iu)<|jH (jI 0) jR)<|kD 2)
 (kg (kX xV (xD 2<|oR (kD 3)<|oR (kD 4) xB)
 GI)
 (lN<|eFn lH<|jH (jI 2) jR))
abbrev Ci:ae->jM->R A:=mz Ij Jd
meta abbrev Ed:aE:=top 16
meta abbrev Eb:ar:=["one", "other", "numbers", "power", "number", "high", "many"]
meta abbrev xY:ar:=["one", "other"]
abbrev MT:Ic:=
 mH (jI 1)
abbrev M6:Sm:=
 kG (jT lK (Gx wR (jI 2)<|jH (jT lK (jI 3)<|jI 5)<|jH (eC<|.int 0) jR)<|jT Hr (jI 4)<|jI 6) (GR (jI 2)<|jT lK (jI 3)<|jI 5)
abbrev CO:Ic:=
 mH (jI 0)
abbrev CU:Sm:=
 kX MT (xD 2<|oR (kD 5)<|oR (kD 6) xB)
 M6
abbrev DX:Sm:=
 kg (kG Cd<|kD 2)
 (kg (kX CO (xD 2<|oR (kD 3)<|oR (kD 4) xB)
 CU)
 (lN<|eFn lH<|jH (jI 2) jR))
abbrev oU:ae->jM->R A:=mz Eb DX
meta abbrev Cv:aE:=top 17
meta abbrev B0:ar:=["one"]
meta abbrev BQ:ar:=["one"]
abbrev Bx:Sm:=
 lN (kJ [none,none] (VN<|jI 0) (xD 2<|oR (kD 0)<|oR (kD 1) xB) xC<|mW<|jH (Hz xm<|jI 0)<|jH (jI 1) jR)
abbrev vR:ae->jM->R A:=mz B0 Bx
meta abbrev uI:aE:=top 20
meta abbrev ur:ar:=["found", "order", "poly"]
meta abbrev nv:ar:=["found", "order", "poly"]
abbrev uL:Sm:=
 kG (eFn Ci<|jH (UU Ve (jI 0)<|jH (jI 1)<|jH (pC jR) jR)<|jH (jI 2) jR) (Mf (jI 0)<|jI 1)
abbrev kH:ae->jM->R A:=mz ur uL
meta abbrev Cs:aE:=top 21
meta abbrev Bh:ar:=["found"]
meta abbrev ud:ar:=["found"]
abbrev B_:Sm:=
 lN (kJ [none,some 0] (mH<|j9 (f1 yO)<|jH (jI 0) jR) (kD 0) (tX<|jT xU (jI 1)<|jI 0)<|mW<|jH (jI 0)<|jH (jT xU (jI 1)<|jI 0) jR)
abbrev nh:ae->jM->R A:=mz Bh B_
meta abbrev vg:aE:=top 22
meta abbrev vN:ar:=["one", "other"]
meta abbrev vG:ar:=["one", "other"]
abbrev vQ:Sm:=
 Aj (Vj (tX<|jI 0)<|tX<|jI 1)
 (p8<|eFn qk<|jH (jT p_ (jT p_ (jI 0)<|eC<|.int 0)<|eC<|.int 0)<|jH (jT p_ (jT p_ (jI 1)<|eC<|.int 0)<|eC<|.int 0) jR)
 qM
abbrev qj:ae->jM->R A:=mz vN vQ
meta abbrev EH:aE:=top 23
meta abbrev DL:ar:=["one", "other", "found", "order", "poly"]
meta abbrev Au:ar:=["one", "other"]
abbrev wG:Ic:=
 mH (jT lK (jI 0)<|jI 1)
abbrev CS:Sm:=
 p8 (eFn kH<|jH (jI 2)<|jH (jI 3)<|jH (jI 4) jR)
abbrev E_:Sm:=
 kg (p8<|eFn qj<|jH (jI 0)<|jH (jI 1) jR)
 (kg (kG ya<|kD 2)
 (kg (kX wG (xD 2<|oR (kD 3)<|oR (kD 4) xB)
 CS)
 (lN<|eFn nh<|jH (jI 2) jR)))
abbrev wm:ae->jM->R A:=mz DL E_
meta abbrev BF:aE:=top 24
meta abbrev Cj:ar:=["poly", "one", "found", "order", "many"]
meta abbrev ym:ar:=["poly", "one"]
abbrev uB:Ic:=
 mH (jI 1)
abbrev uJ:Sm:=
 p8 (eFn kH<|jH (jI 2)<|jH (jI 3)<|jH (eFn oU<|jH (jI 0)<|jH (jI 4) jR) jR)
abbrev Cr:Sm:=
 kg (kG ya<|kD 2)
 (kg (kX uB (xD 2<|oR (kD 3)<|oR (kD 4) xB)
 uJ)
 (lN<|eFn nh<|jH (jI 2) jR))
abbrev tN:ae->jM->R A:=mz Cj Cr
meta abbrev sJ:aE:=top 25
meta abbrev sG:ar:=["one", "k", "found", "order", "poly"]
meta abbrev pY:ar:=["one", "k"]
abbrev oq:Ic:=
 mH (jI 0)
abbrev mR:Sm:=
 kg (p8<|eFn kH<|jH (jI 2)<|jH (eFn lQ<|jH (jI 3)<|jH (jI 1) jR)<|jH (jI 4) jR)
 (Aj (uW<|jT (UT false) (jI 1)<|eFn r6<|jH (jI 3) jR)
 (p8<|eFn kH<|jH (jI 2)<|jH (jI 3)<|jH (eFn oU<|jH (j9 (f1 yv)<|jH (eC<|.frz<|[((-1:Int),(1:Int)),((1:Int),(-1:Int))].map kA) jR)<|jH (jI 4) jR) jR)
 qM)
abbrev tB:Sm:=
 kg (kG ya<|kD 2)
 (kg (kX oq (xD 2<|oR (kD 3)<|oR (kD 4) xB)
 mR)
 (lN<|eFn nh<|jH (jI 2) jR))
abbrev mV:ae->jM->R A:=mz sG tB
meta abbrev uO:aE:=top 27
meta abbrev uF:ar:=["order", "left", "word", "can_begin"]
meta abbrev qI:ar:=["order"]
abbrev qT:Te:=
 tX (jI 3)
abbrev rL:Sm:=
 kg (p8<|Ze AH (jI 2)<|jH (jT p_ (jI 3)<|eC<|.int 0) jR)
 (kg (kG (eFn lQ<|jH (jI 1)<|jH (jT p_ (jI 3)<|eC<|.int 0) jR)<|kD 1)
 (kG (eFn r6<|jH (jI 1) jR)<|kD 3))
abbrev uN:Sm:=
 kg (kG (eFn Ct<|jH (jI 0) jR)<|kD 1)
 (kg (kG (pC jR)<|kD 2)
 (kg (kG (eFn r6<|jH (jI 1) jR)<|kD 3)
 (kg (nL qT
 rL 1000000)
 (lN<|jI 2))))
abbrev nj:ae->jM->R A:=mz uF uN
meta abbrev oS:aE:=top 29
meta abbrev ng:ar:=["order", "known", "word", "ahead"]
meta abbrev mJ:ar:=["order", "known"]
abbrev m_ (Fs:ae->jM->R A):Sm:=
 kg (Aj (uW<|jT (SA true) (jI 0)<|jI 1)
 (kg (kG (eFn nj<|jH (jI 0) jR)<|kD 2)
 (Aj (tX<|jI 2)
 (kg (kG (eFn Fs<|jH (eFn lQ<|jH (jI 0)<|jH (jT p_ (jI 2)<|Hz xm<|eC<|.int 1) jR)<|jH (jI 1) jR)<|kD 3)
 (kG (eFn wm<|jH (eFn mV<|jH (jI 3)<|jH (jT p_ (jI 2)<|Hz xm<|eC<|.int 1) jR)<|jH (eFn tN<|jH (j9 (f1 yv)<|jH (eC<|.frz<|[((-1:Int),(-1:Int)),((1:Int),(1:Int))].map kA) jR)<|jH (jI 3) jR) jR)<|Mf (jI 1)<|jI 0))
 (kG (pC<|jH (mW<|jH (jI 0)<|jH (pC<|jH (mW<|jH (eC<|.int 0)<|jH (eC<|.int 1) jR) jR) jR) jR)<|Mf (jI 1)<|jI 0)))
 qM)
 (lN<|jT xU (jI 1)<|jI 0)
abbrev mS:Nat->ae->jM->R A
 | 0=>λ_ _=>.no
 | k+1=>mz ng<|m_<|mS k
abbrev rB:ae->jM->R A:=mS 26
meta abbrev yV:aE:=top 30
meta abbrev zI:ar:=["one", "found", "known", "order", "poly", "at", "many"]
meta abbrev zq:ar:=["one"]
abbrev vL:Ic:=
 mH (eFn rB<|jH (jI 3)<|jH (jI 2) jR)
abbrev vq:Sm:=
 p8 (eFn kH<|jH (jI 1)<|jH (jI 5)<|jH (eFn oU<|jH (eFn vR<|jH (jI 4) jR)<|jH (jI 6) jR) jR)
abbrev r8:Ic:=
 mH (jI 0)
abbrev rX:Sm:=
 kX vL (xD 2<|oR (kD 5)<|oR (kD 6) xB)
 vq
abbrev zB:Sm:=
 kg (kG ya<|kD 1)
 (kg (kG ya<|kD 2)
 (kg (kX r8 (xD 2<|oR (kD 3)<|oR (kD 4) xB)
 rX)
 (lN<|eFn nh<|jH (jI 1) jR)))
abbrev pL:ae->jM->R A:=mz zI zB
meta abbrev zk:aE:=top 32
meta abbrev zJ:ar:=["_law_script", "_law_at", "_law_cell", "_law_great"]
meta abbrev zo:ar:=["_law_script", "_law_at"]
abbrev zu:Sm:=
 kg (kG (eC<|.int 0)<|kD 2)
 (kg (Aj (uW<|jT X5 (jI 1)<|j9 (f1 qP)<|jH (jI 0) jR)
 (kG (jT p_ (jI 0)<|jI 1)<|kD 2)
 qM)
 (kg (kG (eC<|.int 0)<|kD 3)
 (kg (Aj (uW<|jT aGe (jI 2)<|jT TY (eC<|.int 10)<|eC<|.int 18)
 (kG (jI 2)<|kD 3)
 qM)
 (lN<|pC<|jH (jI 3)<|jH (jT ER (jT lK (jT lK (jI 2)<|jT ET (eC<|.int 7919)<|jI 1)<|eC<|.int 13)<|eC<|.int 2147483647) jR))))
abbrev t6:ae->jM->R A:=mz zJ zu
meta abbrev u5:aE:=top 33
meta abbrev r9:ar:=["_law_bag_here", "_law_many", "_law_found"]
meta abbrev p7:ar:=["_law_bag_here", "_law_many"]
abbrev sD:Sm:=
 kg (Aj (uW<|jT Mu (jT p_ (jI 0)<|eC<|.int 0)<|eC<|.int 0)
 (kg (kG (jT ER (jT p_ (jI 0)<|eC<|.int 0)<|jI 1)<|kD 2)
 (kg (kG (jT Lp (jT p_ (jI 0)<|eC<|.int 0)<|jI 1)<|YV (jI 0)<|eC<|.int 0)
 (lN<|jI 2)))
 qM)
 (kg (kG (jT ER (jT lK (jT ET (jT p_ (jI 0)<|eC<|.int 1)<|eC<|.int 48271)<|eC<|.int 11)<|eC<|.int 2147483647)<|YV (jI 0)<|eC<|.int 1)
 (lN<|jT ER (jT ER (jT ET (jT Lp (jT p_ (jI 0)<|eC<|.int 1)<|eC<|.int 8)<|eC<|.int 69621)<|eC<|.int 2147483629)<|jI 1))
abbrev kj:ae->jM->R A:=mz r9 sD
meta abbrev rE:aE:=top 34
meta abbrev rz:ar:=["_law_held"]
meta abbrev o_:ar:=["_law_held"]
abbrev rV:Sm:=
 lN (kJ [none,some 0] (mH<|j9 (f1 yZ)<|jH (jI 0) jR) (kD 0) (uW<|jT (wM true) (jT zz (jI 1)<|jI 0)<|eC<|.int 0)<|mW<|jH (jI 0)<|jH (jT zz (jI 1)<|jI 0) jR)
abbrev lY:ae->jM->R A:=mz rz rV
meta abbrev rQ:aE:=top 35
meta abbrev rG:ar:=["_law_one", "_law_other", "_law_held", "_law_power", "_law_number"]
meta abbrev rC:ar:=["_law_one", "_law_other"]
abbrev ni:Ic:=
 mH (jT lK (jI 0)<|jI 1)
abbrev tK:Sm:=
 kG (jT lK (Gx wR (jI 2)<|jH (jI 3)<|jH (eC<|.int 0) jR)<|jI 4) (GR (jI 2)<|jI 3)
abbrev rq:Sm:=
 kg (kG Cd<|kD 2)
 (kg (kX ni (xD 2<|oR (kD 3)<|oR (kD 4) xB)
 tK)
 (lN<|eFn lY<|jH (jI 2) jR))
abbrev nc:ae->jM->R A:=mz rG rq
meta abbrev qB:aE:=top 36
meta abbrev qt:ar:=["_law_one", "_law_other", "_law_held", "_law_power", "_law_number", "_law_more", "_law_many"]
meta abbrev n9:ar:=["_law_one", "_law_other"]
abbrev yF:Ic:=
 mH (jI 1)
abbrev yI:Sm:=
 kG (jT lK (Gx wR (jI 2)<|jH (jT lK (jI 3)<|jI 5)<|jH (eC<|.int 0) jR)<|jT Hr (jI 4)<|jI 6) (GR (jI 2)<|jT lK (jI 3)<|jI 5)
abbrev rZ:Ic:=
 mH (jI 0)
abbrev sE:Sm:=
 kX yF (xD 2<|oR (kD 5)<|oR (kD 6) xB)
 yI
abbrev qp:Sm:=
 kg (kG Cd<|kD 2)
 (kg (kX rZ (xD 2<|oR (kD 3)<|oR (kD 4) xB)
 sE)
 (lN<|eFn lY<|jH (jI 2) jR))
abbrev kP:ae->jM->R A:=mz qt qp
meta abbrev vJ:aE:=top 37
meta abbrev ve:ar:=["_law_bag_here", "_law_n", "_law_left", "_law_made"]
meta abbrev vH:ar:=["_law_bag_here", "_law_n"]
abbrev sM:Te:=
 uW (jT Mu (j9 (f1 qP)<|jH (jI 2) jR)<|eC<|.int 0)
abbrev sN:Sm:=
 p8 (Ze AH (jI 3)<|jH (Ze HQ (jI 2)<|jH (eFn kj<|jH (jI 0)<|jH (j9 (f1 qP)<|jH (jI 2) jR) jR) jR) jR)
abbrev vn:Sm:=
 kg (kG (j9 (f1 yv)<|jH (j9 (f2 AY)<|jH (eC<|.int 1)<|jH (jT lK (jI 1)<|eC<|.int 1) jR) jR)<|kD 2)
 (kg (kG (pC jR)<|kD 3)
 (kg (nL sM
 sN 1000000)
 (lN<|j9 (f1 ux)<|jH (jI 3) jR)))
abbrev qc:ae->jM->R A:=mz ve vn
meta abbrev sX:aE:=top 38
meta abbrev sP:ar:=["_law_found", "_law_one", "_law_number"]
meta abbrev sO:ar:=["_law_found"]
abbrev uV:Ic:=
 mH (jI 1)
abbrev uR:Sm:=
 Aj (OQ (Br<|tX<|j9 (f2 Bb)<|jH (jI 2)<|jH (eC<|.ty "int") jR)<|tX<|j9 (f2 Bb)<|jH (jI 2)<|jH (eC<|.ty "bool") jR)
 (lN<|eC<|.bl false)
 qM
abbrev uP:Ic:=
 mH (jI 0)
abbrev uU:Sm:=
 kg (Aj (OQ (Br<|tX<|j9 (f2 Bb)<|jH (jI 1)<|jH (eC<|.ty "tuple") jR)<|OQ (uW<|jT (wM true) (j9 (f1 qP)<|jH (jI 1) jR)<|eC<|.int 2)<|uW<|jT (wM false) (jT p_ (jI 1)<|eC<|.int 1)<|eC<|.int 0)
 (lN<|eC<|.bl false)
 qM)
 (kX uV (kD 2)
 uR)
abbrev sZ:Sm:=
 kg (Aj (Br<|tX<|j9 (f2 Bb)<|jH (jI 0)<|jH (eC<|.ty "list") jR)
 (lN<|eC<|.bl false)
 qM)
 (kg (kX uP (kD 1)
 uU)
 (lN<|j9 (f1 YM)<|jH (kJ [none,some 0] (yw<|jT aSub (j9 (f1 qP)<|jH (jI 0) jR)<|eC<|.int 1) (kD 0) xC<|jT X5 (jT p_ (jT p_ (jI 1)<|jI 0)<|eC<|.int 0)<|jT p_ (jT p_ (jI 1)<|jT lK (jI 0)<|eC<|.int 1)<|eC<|.int 0) jR))
abbrev nQ:ae->jM->R A:=mz sP sZ
meta abbrev uK:aE:=top 39
meta abbrev um:ar:=["_law_found", "_law_one"]
meta abbrev uH:ar:=["_law_found"]
abbrev vj:Ic:=
 mH (jI 0)
abbrev vp:Sm:=
 kg (Aj (OQ (Br<|tX<|j9 (f2 Bb)<|jH (jI 1)<|jH (eC<|.ty "tuple") jR)<|OQ (uW<|jT (wM true) (j9 (f1 qP)<|jH (jI 1) jR)<|eC<|.int 2)<|Br<|tX<|j9 (f2 Bb)<|jH (jT p_ (jI 1)<|eC<|.int 0)<|jH (eC<|.ty "tuple") jR)
 (lN<|eC<|.bl false)
 qM)
 (Aj (OQ (Br<|tX<|eFn nQ<|jH (jT p_ (jI 1)<|eC<|.int 1) jR)<|uW<|jT (wM false) (jT p_ (jI 1)<|eC<|.int 1)<|pC jR)
 (lN<|eC<|.bl false)
 qM)
abbrev uy:Sm:=
 kg (Aj (Br<|tX<|j9 (f2 Bb)<|jH (jI 0)<|jH (eC<|.ty "list") jR)
 (lN<|eC<|.bl false)
 qM)
 (kg (kX vj (kD 1)
 vp)
 (lN<|eC<|.bl true))
abbrev pB:ae->jM->R A:=mz um uy
meta abbrev qu:aE:=top 41
meta abbrev qv:ar:=["_law_held", "_law_one", "_law_own", "_law_made"]
meta abbrev n8:ar:=["_law_held", "_law_one", "_law_own"]
abbrev qx:Sm:=
 kg (kG (eFn nc<|jH (UU Ve (jI 0)<|jH (jI 1)<|jH (pC jR) jR)<|jH (jI 2) jR)<|kD 3)
 (kG (jI 3)<|Mf (jI 0)<|jI 1)
abbrev kI:ae->jM->R A:=mz qv qx
meta abbrev sV:aE:=top 42
meta abbrev sR:ar:=["_law_held"]
meta abbrev pZ:ar:=["_law_held"]
abbrev tD:Sm:=
 lN (kJ [none,some 0] (mH<|j9 (f1 yO)<|jH (jI 0) jR) (kD 0) (uW<|jT (wM true) (jT xU (jI 1)<|jI 0)<|pC jR)<|mW<|jH (jI 0)<|jH (jT xU (jI 1)<|jI 0) jR)
abbrev mE:ae->jM->R A:=mz sR tD
meta abbrev oK:aE:=top 43
meta abbrev oJ:ar:=["_law_some", "_law_k", "_law_held", "_law_one", "_law_own", "_law_other"]
meta abbrev oE:ar:=["_law_some", "_law_k"]
abbrev mq:Ic:=
 mH (jI 0)
abbrev lg:Sm:=
 kg (kG (jT lK (jT lK (Zh (jI 3) wY<|wQ<|jT aSub (jI 1)<|eC<|.int 1)<|mW<|jH (jT p_ (jI 3)<|jI 1)<|jH (jT p_ (jI 3)<|jT aSub (jI 1)<|eC<|.int 1) jR)<|Zh (jI 3) (wQ<|jT lK (jI 1)<|eC<|.int 1) wY)<|kD 5)
 (kg (p8<|eFn kI<|jH (jI 2)<|jH (jI 5)<|jH (jI 4) jR)
 (Aj (uW<|jT Mu (jT p_ (jI 3)<|jT aSub (jI 1)<|eC<|.int 1)<|jT p_ (jI 3)<|jI 1)
 (p8<|eFn kI<|jH (jI 2)<|jH (jI 3)<|jH (eFn kP<|jH (pC<|jH (mW<|jH (Hz xm<|eC<|.int 1)<|jH (eC<|.int 1) jR)<|jH (mW<|jH (eC<|.int 1)<|jH (Hz xm<|eC<|.int 1) jR) jR)<|jH (jI 4) jR) jR)
 qM))
abbrev oN:Sm:=
 kg (kG ya<|kD 2)
 (kg (kX mq (xD 2<|oR (kD 3)<|oR (kD 4) xB)
 lg)
 (lN<|eFn mE<|jH (jI 2) jR))
abbrev l8:ae->jM->R A:=mz oJ oN
meta abbrev xH:aE:=top 44
meta abbrev wZ:ar:=["_law_bag_here", "_law_one", "_law_word_here", "_law_some", "_law_k"]
meta abbrev xq:ar:=["_law_bag_here", "_law_one"]
abbrev uw:Te:=
 uW (jT (wM true) (jI 3)<|pC jR)
abbrev xO:Sm:=
 kg (kG (jT p_ (jI 3)<|eFn kj<|jH (jI 0)<|jH (j9 (f1 qP)<|jH (jI 3) jR) jR)<|kD 4)
 (kg (kG (jT lK (pC<|jH (jI 4) jR)<|jI 2)<|kD 2)
 (kg (kG (jT lK (jT lK (Zh (jI 1) wY<|wQ<|jT aSub (jI 4)<|eC<|.int 1)<|mW<|jH (jT p_ (jI 1)<|jI 4)<|jH (jT p_ (jI 1)<|jT aSub (jI 4)<|eC<|.int 1) jR)<|Zh (jI 1) (wQ<|jT lK (jI 4)<|eC<|.int 1) wY)<|kD 1)
 (kG (kJ [none,some 1] (sj (eC<|.int 1)<|j9 (f1 qP)<|jH (jI 1) jR) (kD 0) (uW<|jT Mu (jT p_ (jI 1)<|jT aSub (jI 0)<|eC<|.int 1)<|jT p_ (jI 1)<|jI 0)<|jI 0)<|kD 3)))
abbrev xh:Sm:=
 kg (kG (pC jR)<|kD 2)
 (kg (kG (kJ [none,some 1] (sj (eC<|.int 1)<|j9 (f1 qP)<|jH (jI 1) jR) (kD 0) (uW<|jT Mu (jT p_ (jI 1)<|jT aSub (jI 0)<|eC<|.int 1)<|jT p_ (jI 1)<|jI 0)<|jI 0)<|kD 3)
 (kg (nL uw
 xO 1000000)
 (lN<|jI 2)))
abbrev qZ:ae->jM->R A:=mz wZ xh
meta abbrev pS:aE:=top 46
meta abbrev pM:ar:=["_law_own", "_law_some"]
meta abbrev nq:ar:=["_law_own", "_law_some"]
abbrev pR:Sm:=
 lN (kJ [none,none,some 0] (mH<|jI 1) (xD 2<|oR (kD 0)<|oR (kD 1) xB) xC<|mW<|jH (jI 0)<|jH (eFn kP<|jH (jI 2)<|jH (jI 1) jR) jR)
abbrev kQ:ae->jM->R A:=mz pM pR
meta abbrev rm:aE:=top 47
meta abbrev rJ:ar:=["_law_one", "_law_other", "_law_held", "_law_some", "_law_own"]
meta abbrev rO:ar:=["_law_one", "_law_other"]
abbrev nk:Ic:=
 mH (jT lK (jI 0)<|jI 1)
abbrev t9:Sm:=
 p8 (eFn kI<|jH (jI 2)<|jH (jI 3)<|jH (jI 4) jR)
abbrev rf:Sm:=
 kg (kG ya<|kD 2)
 (kg (kX nk (xD 2<|oR (kD 3)<|oR (kD 4) xB)
 t9)
 (lN<|eFn mE<|jH (jI 2) jR))
abbrev m8:ae->jM->R A:=mz rJ rf
meta abbrev yU:aE:=top 48
meta abbrev zv:ar:=["_law_word_here", "_law_n", "_law_made", "_law_k"]
meta abbrev zh:ar:=["_law_word_here", "_law_n"]
abbrev zY:Ic:=
 mH (jI 0)
abbrev zS:Sm:=
 kG (eFn m8<|jH (eFn l8<|jH (jI 2)<|jH (jI 3) jR)<|jH (eFn kQ<|jH (pC<|jH (mW<|jH (Hz xm<|eC<|.int 1)<|jH (Hz xm<|eC<|.int 1) jR)<|jH (mW<|jH (eC<|.int 1)<|jH (eC<|.int 1) jR) jR)<|jH (jI 2) jR) jR) (kD 2)
abbrev ze:Sm:=
 kg (kG (pC<|jH (mW<|jH (j9 (f1 ux)<|jH (j9 (f2 AY)<|jH (eC<|.int 1)<|jH (jT lK (jI 1)<|eC<|.int 1) jR) jR)<|jH (pC<|jH (mW<|jH (eC<|.int 0)<|jH (eC<|.int 1) jR) jR) jR) jR)<|kD 2)
 (kg (kX zY (kD 3)
 zS)
 (lN<|jI 2))
abbrev tH:ae->jM->R A:=mz zv ze
meta abbrev rj:aE:=top 49
meta abbrev rH:ar:=["_law_one", "_law_other", "_law_i", "_law_one_from", "_law_other_from"]
meta abbrev rF:ar:=["_law_one", "_law_other"]
abbrev ue:Ic:=
 JT (j9 (f1 zl)<|jH (IT (jI 0) wY<|wQ<|jI 2) jR) (j9 (f1 zl)<|jH (IT (jI 1) wY<|wQ<|jI 2) jR)
abbrev uf:Sm:=
 Aj (uW<|jT Mu (jI 3)<|jI 4)
 (lN<|eC<|.bl false)
 qM
abbrev uc:Ic:=
 sj (eC<|.int 1) (jT lK (j9 (f1 qP)<|jH (jI 0) jR)<|eC<|.int 1)
abbrev nu:Sm:=
 kX ue (xD 2<|oR (kD 3)<|oR (kD 4) xB)
 uf
abbrev qW:Sm:=
 kg (kX uc (kD 2)
 nu)
 (lN<|eC<|.bl true)
abbrev mL:ae->jM->R A:=mz rH qW
meta abbrev yS:aE:=top 50
meta abbrev yK:ar:=["_law_n", "_law_found", "_law_k", "_law_grown", "_law_some"]
meta abbrev zj:ar:=["_law_n"]
abbrev zL:Ic:=
 mH (jI 1)
abbrev vK:Sm:=
 p8 (Ze E2 (jI 3)<|jH (kJ [none,some 4] (sj (eC<|.int 1)<|jT lK (jI 0)<|eC<|.int 1) (kD 0) (uW<|jT (UT true) (jI 0)<|jI 1)<|jT lK (jI 1)<|mW<|jH (jI 0) jR) jR)
abbrev zM:Ic:=
 yw (jI 0)
abbrev zR:Sm:=
 kg (kG (pC jR)<|kD 3)
 (kg (kX zL (kD 4)
 vK)
 (kG (jI 3)<|kD 1))
abbrev zH:Sm:=
 kg (kG (pC<|jH (mW jR) jR)<|kD 1)
 (kg (kX zM (kD 2)
 zR)
 (lN<|jI 1))
abbrev qS:ae->jM->R A:=mz yK zH
meta abbrev Nt:aE:=top 51
meta abbrev OD:ar:=["_law_script", "_law_k", "_law_bag_here", "_law_n", "_law_one", "_law_due_here", "_law_found", "_law_own", "_law_contrary"]
meta abbrev Wr:ar:=["_law_script"]
abbrev Jt:Ic:=
 yw (j9 (f2 Sf)<|jH (eC<|.int 1)<|jH (j9 (f2 N4)<|jH (j9 (f1 qP)<|jH (jI 0) jR)<|jH (eC<|.int 4) jR) jR)
abbrev J2:Sm:=
 kg (kG (eFn t6<|jH (jI 0)<|jH (jI 1) jR)<|kD 2)
 (kg (kG (jT lK (eC<|.int 2)<|eFn kj<|jH (jI 2)<|jH (jT p_ (pC<|jH (eC<|.int 4)<|jH (eC<|.int 3) jR)<|j9 (f1 J_)<|jH (jT Mu (jI 1)<|eC<|.int 0) jR) jR)<|kD 3)
 (kg (kG (eFn qc<|jH (jI 2)<|jH (jI 3) jR)<|kD 4)
 (kg (Aj (uW<|jT (wM false) (eFn kj<|jH (jI 2)<|jH (eC<|.int 8) jR)<|eC<|.int 3)
 (kG (ON (jI 3) (eC<|.int 0)<|Hz xm<|eC<|.int 1)<|kD 4)
 qM)
 (kg (kG (eFn tH<|jH (eFn qZ<|jH (jI 2)<|jH (jI 4) jR)<|jH (jI 3) jR)<|kD 5)
 (kg (kG (eFn pL<|jH (pC<|jH (mW<|jH (jI 4)<|jH (pC<|jH (mW<|jH (eC<|.int 0)<|jH (eC<|.int 1) jR) jR) jR) jR) jR)<|kD 6)
 (kg (Aj (OQ (Br<|tX<|eFn pB<|jH (jI 6) jR)<|OQ (uW<|jT (wM true) (jI 6)<|jI 5)<|uW<|jT (UT true) (mW<|jH (jI 4)<|jH (pC<|jH (mW<|jH (eC<|.int 0)<|jH (eC<|.int 1) jR) jR) jR)<|jI 6)
 (lN<|eC<|.bl false)
 qM)
 (kg (Aj (uW<|jT (wM true) (kJ [none,none] (mH<|jI 6) (xD 2<|oR (kD 0)<|oR (kD 1) xB) xC<|jI 0)<|kJ [none,some 4] (mH<|eFn qS<|jH (jI 3) jR) (kD 0) (tX<|eFn mL<|jH (jI 0)<|jH (jI 1) jR)<|jI 0)
 (lN<|eC<|.bl false)
 qM)
 (kg (kG (pC<|jH (mW<|jH (jT aSub (eFn kj<|jH (jI 2)<|jH (eC<|.int 9) jR)<|eC<|.int 4)<|jH (jT lK (eC<|.int 1)<|eFn kj<|jH (jI 2)<|jH (eC<|.int 9) jR) jR)<|jH (mW<|jH (eC<|.int 5)<|jH (jT aSub (Hz xm<|eC<|.int 1)<|eFn kj<|jH (jI 2)<|jH (eC<|.int 9) jR) jR) jR)<|kD 7)
 (kg (kG (kJ [none,none] (VN<|jI 7) (xD 2<|oR (kD 0)<|oR (kD 1) xB) xC<|mW<|jH (jT aSub (eC<|.int 0)<|jI 0)<|jH (jI 1) jR)<|kD 8)
 (Aj (uW<|jT (wM true) (eFn pL<|jH (pC<|jH (mW<|jH (jI 4)<|jH (jI 7) jR) jR) jR)<|eFn kQ<|jH (jI 8)<|jH (jI 5) jR)
 (lN<|eC<|.bl false)
 qM))))))))))
abbrev Pe:Sm:=
 kg (kX Jt (kD 1)
 J2)
 (lN<|eC<|.bl true)
abbrev Dk:ae->jM->R A:=mz OD Pe
section
variable {P:aj}{w:ah}{K:au}{mg:Str->bd}{base:aq}{f:ak}{fd:FuncData}
def G5:FnScope w_ xE (jW xr):=uQ rfl rfl rfl ∅
def FI(F:Fun K "is_whole" "is_whole" xr f fd)(aa2:mg "isinstance" = none)(aba:mg "bool" = none)(aa7:mg "int" = none):FnOk P w K mg base qm 1 f fd xE (qR K 1 rD):=uT (m:=w9) F G5 λcdv B outer s H E hr=>
 jQ (j_<|Ql (j7 xN aa2 kW<|jJ (jG 0)<|jJ (x_ aa7 HS) jN)<|PF<|Yb<|j7 xN aa2 kW<|jJ (jG 0)<|jJ (x_ aba JD) jN)
def D9:FnScope vW vE (jW vC):=uQ rfl rfl rfl ∅
def Ej(F:Fun K "need_pair" "need_pair" vC f fd)(aae:mg "len" = none):FnOk P w K mg base qm 1 f fd vE (qR K 2 qk):=uT (m:=vP) F D9 λcdv B outer s H E hr=>
 jQ (nX (lB (CG hr.units) (j7 qF aae nN<|jJ (jG 0) jN)<|j7 qF aae nN<|jJ (jG 1) jN)
 (jQ<|V6)
 lC)
def Az:FnScope HR ID (jW Ji):=uQ rfl rfl rfl ∅
def Uk(F:Fun K "back" "back" Ji f fd)(aae:mg "len" = none)(abo:mg "enumerate" = none)(aaE:mg "tuple" = none):FnOk P w K mg base qm 1 f fd ID (qR K 1 Ct):=uT (m:=IX) F Az λcdv B outer s H E hr=>
 jL (kc (i:=1) Az.nd<|j3 Jr (lJ<|jJ jP jN)<|j7 qF aae nN<|jJ (jG 0) jN)
 (jL (l7 bK rfl (XD abo<|jG 0) (mK rfl<|j4 (jY (i:=2) Az.nd)<|j4 (jY (i:=3) Az.nd) lE)
 (jQ<|qy (j3 lU (jG 2) jP)<|A4 (jG 1)<|j3 qe (jG 3) jP))
 (jQ<|j_<|mT (AJ rfl) aaE qi<|jJ (jG 1) jN))
def Cg:FnScope sI sQ (jW sL):=uQ rfl rfl rfl ∅
def BZ(F:Fun K "is_exchange" "is_exchange" sL f fd)(abu:nF P w K mg base 1 "is_whole" xE rD):FnOk P w K mg base qm 2 f fd sQ (qR K 2 nS):=uT (m:=sS) F Cg λcdv B outer s H E hr=>
 jQ (j_<|Ql (CM abu hr<|jG 1)<|PF<|aau ab9 (Yx hr.units) jP (jG 1)<|jG 0)
def qG:FnScope oB oA (jW oO):=uQ rfl rfl rfl ∅
def wO(F:Fun K "exchanged_places" "exchanged_places" oO f fd)(aaF:mg "list" = none)(aaE:mg "tuple" = none):FnOk P w K mg base qm 1 f fd oA (qR K 3 lZ):=uT (m:=oM) F qG λcdv B outer s H E hr=>
 jL (kc (i:=3) qG.nd<|mT (Fg rfl) aaF wk<|jJ (jG 0) jN)
 (jL (qy (kR<|jJ (kO (jG 3)<|j3 qe (jG 2) jP)<|jJ (kO (jG 3)<|j3 qe (jG 1) jP) jN)<|mK rfl<|j4 (A4 (jG 3)<|j3 qe (jG 1) jP)<|j4 (A4 (jG 3)<|j3 qe (jG 2) jP) lE)
 (jQ<|j_<|mT (AJ rfl) aaE qi<|jJ (jG 3) jN))
def EK:FnScope vm oQ (jW vd):=uQ rfl rfl rfl ∅
def El(F:Fun K "exchanged" "exchanged" vd f fd)(aae:mg "len" = none)(abE:nF P w K mg base 2 "is_exchange" sQ nS)(abL:nF P w K mg base 1 "exchanged_places" oA lZ):FnOk P w K mg base qm 3 f fd oQ (qR K 2 lQ):=uT (m:=u_) F EK λcdv B outer s H E hr=>
 jL (nX (uv<|nM<|yh abE hr (j7 qF aae nN<|jJ (jG 0) jN)<|jG 1)
 (jQ<|V6)
 lC)
 (jQ<|j_<|Tj abL hr (jG 0) (jG 1)<|j3 lU (jG 1) jP)
def Pf:FnScope Ey AX (jW Fi):=uQ rfl rfl rfl ∅
def Qg(F:Fun K "falls" "falls" Fi f fd)(aar:mg "range" = none)(aae:mg "len" = none):FnOk P w K mg base qm 1 f fd AX (qR K 1 r6):=uT (m:=E8) F Pf λcdv B outer s H E hr=>
 jQ (j_<|pD (N:=["k", "order"]) (cap:=[none,some 0]) rfl (r_ ["order"] rfl ∅ ∅ ∅ ∅ ∅ (cD.mpr ⟨by first|exact Or.inl rfl|exact Or.inr rfl,(nofun)⟩) ⟨rfl,by decide +kernel,trivial⟩) (tP aar jP<|j7 qF aae nN<|jJ (jG 0) jN) (λ_ _ _ _=>jY (i:=0) (show(["k", "order"]:ar).Nodup by decide +kernel) rfl (Or.inl rfl)<|.inr rfl) (λ_ _ _ _=>qO<|lB (G0 hr.units) (kO (jG 1)<|j3 qe (jG 0) jP)<|kO (jG 1)<|jG 0) λ_ _ _ _=>jG 0)
def zc:FnScope qC n5 (jW qE):=uQ rfl rfl rfl ∅
def zA(F:Fun K "as_polynomial" "as_polynomial" qE f fd)(aaK:mg "sorted" = none):FnOk P w K mg base qm 1 f fd n5 (qR K 1 lH):=uT (m:=qq) F zc λcdv B outer s H E hr=>
 jQ (j_<|pD (N:=["power", "numbers"]) (cap:=[none,some 0]) rfl (r_ ["numbers"] rfl ∅ ∅ ∅ ∅ ∅ (cD.mpr ⟨by first|exact Or.inl rfl|exact Or.inr rfl,(nofun)⟩) ⟨rfl,by decide +kernel,trivial⟩) (lG<|j7 (JI rfl) aaK qQ<|jJ (jG 0) jN) (λ_ _ _ _=>jY (i:=0) (show(["power", "numbers"]:ar).Nodup by decide +kernel) rfl (Or.inl rfl)<|.inr rfl) (λ_ _ _ _=>qO<|lB (CG hr.units) (Fe hr.units (jG 1)<|jG 0) jP) λ_ _ _ _=>kR<|jJ (jG 0)<|jJ (Fe hr.units (jG 1)<|jG 0) jN)
def Ar:FnScope Ij IQ (jW HG):=uQ rfl rfl rfl ∅
def Vf(F:Fun K "plus" "plus" HG f fd)(abM:mg "dict" = none)(abb:nF P w K mg base 1 "as_polynomial" n5 lH):FnOk P w K mg base qm 2 f fd IQ (qR K 2 Ci):=uT (m:=Jd) F Ar λcdv B outer s H E hr=>
 jL (kc (i:=2) Ar.nd<|mT (UK rfl) abM Uw<|jJ (jG 0) jN)
 (jL (l7 bK rfl (lG<|jG 1) (mK rfl<|j4 (jY (i:=3) Ar.nd)<|j4 (jY (i:=4) Ar.nd) lE)
 (jQ<|qy (j3 lU (E6 cM dW (DW hr.units) (jG 2)<|jJ (jG 3)<|jJ jP jN)<|jG 4)<|AN hr.units (jG 2)<|jG 3))
 (jQ<|j_<|CM abb hr<|jG 2))
def tM:FnScope Eb xY (jW Ed):=uQ rfl rfl rfl ∅
def O4(F:Fun K "times" "times" Ed f fd)(abb:nF P w K mg base 1 "as_polynomial" n5 lH):FnOk P w K mg base qm 2 f fd xY (qR K 2 oU):=uT (m:=DX) F tM λcdv B outer s H E hr=>
 jL (kc (i:=2) tM.nd A6)
 (jL (l7 bK rfl (lG<|jG 0) (mK rfl<|j4 (jY (i:=3) tM.nd)<|j4 (jY (i:=4) tM.nd) lE)
 (jQ (l7 bK rfl (lG<|jG 1) (mK rfl<|j4 (jY (i:=5) tM.nd)<|j4 (jY (i:=6) tM.nd) lE)
 (jQ<|qy (j3 lU (E6 cM dW (DW hr.units) (jG 2)<|jJ (j3 lU (jG 3)<|jG 5)<|jJ jP jN)<|j3 Pg (jG 4)<|jG 6)<|AN hr.units (jG 2)<|j3 lU (jG 3)<|jG 5))))
 (jQ<|j_<|CM abb hr<|jG 2))
def Nh:FnScope B0 BQ (jW Cv):=uQ rfl rfl rfl ∅
def Mj(F:Fun K "turned" "turned" Cv f fd)(abc:mg "reversed" = none):FnOk P w K mg base qm 1 f fd BQ (qR K 1 vR):=uT (m:=Bx) F Nh λcdv B outer s H E hr=>
 jQ (j_<|pD (N:=["power", "number"]) (cap:=[none,none]) rfl (r_ [] rfl ∅ ∅ ∅ ∅ ∅ (nofun) trivial) (Q2 abc<|jG 0) (λ_ _ _ _=>mK rfl<|j4 (jY (i:=0) (show(["power", "number"]:ar).Nodup by decide +kernel) rfl (Or.inl rfl)<|.inr rfl)<|j4 (jY (i:=1) (show(["power", "number"]:ar).Nodup by decide +kernel) rfl (Or.inl rfl)<|.inr rfl) lE) (λ_ _ _ _=>yl) λ_ _ _ _=>kR<|jJ (uC<|jG 0)<|jJ (jG 1) jN)
def CB:FnScope ur nv (jW uI):=uQ rfl rfl rfl ∅
def CF(F:Fun K "put_before" "put_before" uI f fd)(abP:nF P w K mg base 2 "plus" IQ Ci):FnOk P w K mg base qm 3 f fd nv (qR K 3 kH):=uT (m:=uL) F CB λcdv B outer s H E hr=>
 jQ (qy (yh abP hr (Oc cM dW (Wc hr.units) (jG 0)<|jJ (jG 1)<|jJ (lJ jN) jN)<|jG 2)<|AB hr.units (jG 0)<|jG 1)
def ME:FnScope Bh ud (jW Cs):=uQ rfl rfl rfl ∅
def Mx(F:Fun K "as_sum" "as_sum" Cs f fd)(aaK:mg "sorted" = none):FnOk P w K mg base qm 1 f fd ud (qR K 1 nh):=uT (m:=B_) F ME λcdv B outer s H E hr=>
 jQ (j_<|pD (N:=["order", "found"]) (cap:=[none,some 0]) rfl (r_ ["found"] rfl ∅ ∅ ∅ ∅ ∅ (cD.mpr ⟨by first|exact Or.inl rfl|exact Or.inr rfl,(nofun)⟩) ⟨rfl,by decide +kernel,trivial⟩) (lG<|j7 (Kl rfl) aaK qQ<|jJ (jG 0) jN) (λ_ _ _ _=>jY (i:=0) (show(["order", "found"]:ar).Nodup by decide +kernel) rfl (Or.inl rfl)<|.inr rfl) (λ_ _ _ _=>qO<|nM<|BG hr.units (jG 1)<|jG 0) λ_ _ _ _=>kR<|jJ (jG 0)<|jJ (BG hr.units (jG 1)<|jG 0) jN)
def D8:FnScope vN vG (jW vg):=uQ rfl rfl rfl ∅
def DU(F:Fun K "need_like" "need_like" vg f fd)(abT:nF P w K mg base 1 "need_pair" vE qk):FnOk P w K mg base qm 2 f fd vG (qR K 2 qj):=uT (m:=vQ) F D8 λcdv B outer s H E hr=>
 jQ (nX (AW.at<|Xy (nM<|jG 0)<|Uh<|nM<|jG 1)
 (jQ<|ny<|yh abT hr (kO (kO (jG 0) jP) jP)<|kO (kO (jG 1) jP) jP)
 lC)
def yi:FnScope DL Au (jW EH):=uQ rfl rfl rfl ∅
def Q6(F:Fun K "added" "added" EH f fd)(abU:nF P w K mg base 2 "need_like" vG qj)(aa3:nF P w K mg base 3 "put_before" nv kH)(aa5:nF P w K mg base 1 "as_sum" ud nh):FnOk P w K mg base qm 4 f fd Au (qR K 2 wm):=uT (m:=E_) F yi λcdv B outer s H E hr=>
 jL (ny<|yh abU hr (jG 0)<|jG 1)
 (jL (kc (i:=2) yi.nd uE)
 (jL (l7 bK rfl (lG<|j3 lU (jG 0)<|jG 1) (mK rfl<|j4 (jY (i:=3) yi.nd)<|j4 (jY (i:=4) yi.nd) lE)
 (jQ<|ny<|Tj aa3 hr (jG 2) (jG 3)<|jG 4))
 (jQ<|j_<|CM aa5 hr<|jG 2)))
def wu:FnScope Cj ym (jW BF):=uQ rfl rfl rfl ∅
def Na(F:Fun K "scaled" "scaled" BF f fd)(aa3:nF P w K mg base 3 "put_before" nv kH)(aa8:nF P w K mg base 2 "times" xY oU)(aa5:nF P w K mg base 1 "as_sum" ud nh):FnOk P w K mg base qm 4 f fd ym (qR K 2 tN):=uT (m:=Cr) F wu λcdv B outer s H E hr=>
 jL (kc (i:=2) wu.nd uE)
 (jL (l7 bK rfl (lG<|jG 1) (mK rfl<|j4 (jY (i:=3) wu.nd)<|j4 (jY (i:=4) wu.nd) lE)
 (jQ<|ny<|Tj aa3 hr (jG 2) (jG 3)<|yh aa8 hr (jG 0)<|jG 4))
 (jQ<|j_<|CM aa5 hr<|jG 2))
def o8:FnScope sG pY (jW sJ):=uQ rfl rfl rfl ∅
def Co(F:Fun K "by_exchange" "by_exchange" sJ f fd)(aaF:mg "list" = none)(h_AT_A_FALL:∃a,mg "AT_A_FALL" = some (.ref a)/\Sj K a=some [((-1:Int),(1:Int)),((1:Int),(-1:Int))])(aa3:nF P w K mg base 3 "put_before" nv kH)(aa6:nF P w K mg base 3 "exchanged" oQ lQ)(aa9:nF P w K mg base 1 "falls" AX r6)(aa8:nF P w K mg base 2 "times" xY oU)(aa5:nF P w K mg base 1 "as_sum" ud nh):FnOk P w K mg base qm 4 f fd pY (qR K 2 mV):=uT (m:=tB) F o8 λcdv B outer s H E hr=>
 jL (kc (i:=2) o8.nd uE)
 (jL (l7 bK rfl (lG<|jG 0) (mK rfl<|j4 (jY (i:=3) o8.nd)<|j4 (jY (i:=4) o8.nd) lE)
 (jL (ny<|Tj aa3 hr (jG 2) (yh aa6 hr (jG 3)<|jG 1)<|jG 4)
 (jQ (nX (lB (ab5 hr.units) (jG 1)<|CM aa9 hr<|jG 3)
 (jQ<|ny<|Tj aa3 hr (jG 2) (jG 3)<|yh aa8 hr (mT (Fg rfl) aaF wk<|jJ (FF h_AT_A_FALL.choose_spec.1 h_AT_A_FALL.choose_spec.2) jN)<|jG 4)
 lC))))
 (jQ<|j_<|CM aa5 hr<|jG 2))
def mU:FnScope uF qI (jW uO):=uQ rfl rfl rfl ∅
def CJ(F:Fun K "first_word" "first_word" uO f fd)(abX:nF P w K mg base 1 "back" ID Ct)(aa9:nF P w K mg base 1 "falls" AX r6)(aa6:nF P w K mg base 3 "exchanged" oQ lQ):FnOk P w K mg base qm 4 f fd qI (qR K 1 nj):=uT (m:=uN) F mU λcdv B outer s H E hr=>
 jL (kc (i:=1) mU.nd<|CM abX hr<|jG 0)
 (jL (kc (i:=2) mU.nd<|lJ jN)
 (jL (kc (i:=3) mU.nd<|CM aa9 hr<|jG 1)
 (jL (Be 1000000 bK (nM<|jG 3)
 (jL (ny<|JB PySem.F.slot_list_append PySem.F.type_list_append FL (jG 2)<|jJ (kO (jG 3) jP) jN)
 (jL (kc (i:=1) mU.nd<|yh aa6 hr (jG 1)<|kO (jG 3) jP)
 (jQ<|kc (i:=3) mU.nd<|CM aa9 hr<|jG 1))))
 (jQ<|j_<|jG 2))))
def qw:FnScope ng mJ (jW oS):=uQ rfl rfl rfl ∅
def Ae{Fs:ae->jM->R A}(F:Fun K "turned_order" "turned_order" oS f fd)(aaF:mg "list" = none)(h_LESS_BACK:∃a,mg "LESS_BACK" = some (.ref a)/\Sj K a=some [((-1:Int),(-1:Int)),((1:Int),(1:Int))])(abd:nF P w K mg base 4 "first_word" qI nj)(aa6:nF P w K mg base 3 "exchanged" oQ lQ)(abe:nF P w K mg base 4 "added" Au wm)(abg:nF P w K mg base 4 "scaled" ym tN)(abh:nF P w K mg base 4 "by_exchange" pY mV)(acQ:nF P w K mg base (5+kr) "turned_order" mJ Fs):FnOk P w K mg base qm (5+kr+1) f fd mJ (qR K 2<|mz ng<|m_ Fs):=uT (m:=m_ Fs) F qw λcdv B outer s H E hr=>
 jL (nX (lB (RA hr.units) (jG 0)<|jG 1)
 (jL (kc (i:=2) qw.nd<|yq abd (hr.mono ()) (jJ (jG 0) jN)<|k_ qH)
 (jQ (nX (nM<|jG 2)
 (jL (kc (i:=3) qw.nd<|yq acQ (hr.mono ()) (jJ (yq aa6 (hr.mono ()) (jJ (jG 0)<|jJ (kO (jG 2)<|uC jP) jN)<|k_<|k_ qH)<|jJ (jG 1) jN)<|k_<|k_ qH)
 (jQ<|qy (yq abe (hr.mono ()) (jJ (yq abh (hr.mono ()) (jJ (jG 3)<|jJ (kO (jG 2)<|uC jP) jN)<|k_<|k_ qH)<|jJ (yq abg (hr.mono ()) (jJ (mT (Fg rfl) aaF wk<|jJ (FF h_LESS_BACK.choose_spec.1 h_LESS_BACK.choose_spec.2) jN)<|jJ (jG 3) jN)<|k_<|k_ qH) jN)<|k_<|k_ qH)<|AB hr.units (jG 1)<|jG 0))
 (jQ<|qy (lJ<|jJ (kR<|jJ (jG 0)<|jJ (lJ<|jJ (kR<|jJ jP<|jJ jP jN) jN) jN) jN)<|AB hr.units (jG 1)<|jG 0))))
 lC)
 (jQ<|j_<|BG hr.units (jG 1)<|jG 0)
theorem tW(F:Fun K "turned_order" "turned_order" oS f fd)(aaF:mg "list" = none)(h_LESS_BACK:∃a,mg "LESS_BACK" = some (.ref a)/\Sj K a=some [((-1:Int),(-1:Int)),((1:Int),(1:Int))])(abd:nF P w K mg base 4 "first_word" qI nj)(aa6:nF P w K mg base 3 "exchanged" oQ lQ)(abe:nF P w K mg base 4 "added" Au wm)(abg:nF P w K mg base 4 "scaled" ym tN)(abh:nF P w K mg base 4 "by_exchange" pY mV)(hm:mg "turned_order" = some (.ref f))(hk:PySem.W.keepIn K (.ref f)=true)(hb:Binds K fd mJ []):∀kr,FnOk P w K mg base qm (5+kr) f fd mJ (qR K 2<|mS kr)
 | 0=>Y9 rfl
 | kr+1=>Ae F aaF h_LESS_BACK abd aa6 abe abg abh ⟨f,fd,tW F aaF h_LESS_BACK abd aa6 abe abg abh hm hk hb kr,hm,hk,hb⟩
def oH:FnScope zI zq (jW yV):=uQ rfl rfl rfl ∅
def IM(F:Fun K "turning" "turning" yV f fd)(ab1:nF P w K mg base 31 "turned_order" mJ rB)(aa3:nF P w K mg base 3 "put_before" nv kH)(aa8:nF P w K mg base 2 "times" xY oU)(ace:nF P w K mg base 1 "turned" BQ vR)(aa5:nF P w K mg base 1 "as_sum" ud nh):FnOk P w K mg base qm 32 f fd zq (qR K 1 pL):=uT (m:=zB) F oH λcdv B outer s H E hr=>
 jL (kc (i:=1) oH.nd uE)
 (jL (kc (i:=2) oH.nd uE)
 (jL (l7 bK rfl (lG<|jG 0) (mK rfl<|j4 (jY (i:=3) oH.nd)<|j4 (jY (i:=4) oH.nd) lE)
 (jQ (l7 bK rfl (lG<|yh ab1 hr (jG 3)<|jG 2) (mK rfl<|j4 (jY (i:=5) oH.nd)<|j4 (jY (i:=6) oH.nd) lE)
 (jQ<|ny<|Tj aa3 hr (jG 1) (jG 5)<|yh aa8 hr (CM ace hr<|jG 4)<|jG 6))))
 (jQ<|j_<|CM aa5 hr<|jG 1)))
def qV:FnScope zJ zo (jW zk):=uQ rfl rfl rfl ∅
def Jj(F:Fun K "_law_bag" "_law_bag" zk f fd)(aae:mg "len" = none):FnOk P w K mg base qm 1 f fd zo (qR K 2 t6):=uT (m:=zu) F qV λcdv B outer s H E hr=>
 jL (kc (i:=2) qV.nd jP)
 (jL (nX (lB (Yx hr.units) (jG 1)<|j7 qF aae nN<|jJ (jG 0) jN)
 (jQ<|kc (i:=2) qV.nd<|kO (jG 0)<|jG 1)
 lC)
 (jL (kc (i:=3) qV.nd jP)
 (jL (nX (lB abI (jG 2)<|j3 aaM jP jP)
 (jQ<|kc (i:=3) qV.nd<|jG 2)
 lC)
 (jQ<|j_<|lJ<|jJ (jG 3)<|jJ (j3 GO (j3 lU (j3 lU (jG 2)<|j3 Jr jP<|jG 1) jP) jP) jN))))
def yf:FnScope r9 p7 (jW u5):=uQ rfl rfl rfl ∅
def E7(F:Fun K "_law_digit" "_law_digit" u5 f fd):FnOk P w K mg base qm 1 f fd p7 (qR K 2 kj):=uT (m:=sD) F yf λcdv B outer s H E hr=>
 jL (nX (lB (G0 hr.units) (kO (jG 0) jP) jP)
 (jL (kc (i:=2) yf.nd<|j3 GO (kO (jG 0) jP)<|jG 1)
 (jL (qy (j3 Nm (kO (jG 0) jP)<|jG 1)<|A4 (jG 0) jP)
 (jQ<|j_<|jG 2)))
 lC)
 (jL (qy (j3 GO (j3 lU (j3 Jr (kO (jG 0) jP) jP) jP) jP)<|A4 (jG 0) jP)
 (jQ<|j_<|j3 GO (j3 GO (j3 Jr (j3 Nm (kO (jG 0) jP) jP) jP) jP)<|jG 1))
def zZ:FnScope rz o_ (jW rE):=uQ rfl rfl rfl ∅
def Ad(F:Fun K "_law_own_poly" "_law_own_poly" rE f fd)(aaK:mg "sorted" = none):FnOk P w K mg base qm 1 f fd o_ (qR K 1 lY):=uT (m:=rV) F zZ λcdv B outer s H E hr=>
 jQ (j_<|pD (N:=["_law_power", "_law_held"]) (cap:=[none,some 0]) rfl (r_ ["_law_held"] rfl ∅ ∅ ∅ ∅ ∅ (cD.mpr ⟨by first|exact Or.inl rfl|exact Or.inr rfl,(nofun)⟩) ⟨rfl,by decide +kernel,trivial⟩) (lG<|j7 (JI rfl) aaK qQ<|jJ (jG 0) jN) (λ_ _ _ _=>jY (i:=0) (show(["_law_power", "_law_held"]:ar).Nodup by decide +kernel) rfl (Or.inl rfl)<|.inr rfl) (λ_ _ _ _=>qO<|lB (CG hr.units) (Fe hr.units (jG 1)<|jG 0) jP) λ_ _ _ _=>kR<|jJ (jG 0)<|jJ (Fe hr.units (jG 1)<|jG 0) jN)
def oh:FnScope rG rC (jW rQ):=uQ rfl rfl rfl ∅
def Ai(F:Fun K "_law_own_plus" "_law_own_plus" rQ f fd)(abi:nF P w K mg base 1 "_law_own_poly" o_ lY):FnOk P w K mg base qm 2 f fd rC (qR K 2 nc):=uT (m:=rq) F oh λcdv B outer s H E hr=>
 jL (kc (i:=2) oh.nd A6)
 (jL (l7 bK rfl (lG<|j3 lU (jG 0)<|jG 1) (mK rfl<|j4 (jY (i:=3) oh.nd)<|j4 (jY (i:=4) oh.nd) lE)
 (jQ<|qy (j3 lU (E6 cM dW (DW hr.units) (jG 2)<|jJ (jG 3)<|jJ jP jN)<|jG 4)<|AN hr.units (jG 2)<|jG 3))
 (jQ<|j_<|CM abi hr<|jG 2))
def lR:FnScope qt n9 (jW qB):=uQ rfl rfl rfl ∅
def zD(F:Fun K "_law_own_times" "_law_own_times" qB f fd)(abi:nF P w K mg base 1 "_law_own_poly" o_ lY):FnOk P w K mg base qm 2 f fd n9 (qR K 2 kP):=uT (m:=qp) F lR λcdv B outer s H E hr=>
 jL (kc (i:=2) lR.nd A6)
 (jL (l7 bK rfl (lG<|jG 0) (mK rfl<|j4 (jY (i:=3) lR.nd)<|j4 (jY (i:=4) lR.nd) lE)
 (jQ (l7 bK rfl (lG<|jG 1) (mK rfl<|j4 (jY (i:=5) lR.nd)<|j4 (jY (i:=6) lR.nd) lE)
 (jQ<|qy (j3 lU (E6 cM dW (DW hr.units) (jG 2)<|jJ (j3 lU (jG 3)<|jG 5)<|jJ jP jN)<|j3 Pg (jG 4)<|jG 6)<|AN hr.units (jG 2)<|j3 lU (jG 3)<|jG 5))))
 (jQ<|j_<|CM abi hr<|jG 2))
def uh:FnScope ve vH (jW vJ):=uQ rfl rfl rfl ∅
def Ff(F:Fun K "_law_order" "_law_order" vJ f fd)(aaF:mg "list" = none)(aar:mg "range" = none)(aae:mg "len" = none)(aaE:mg "tuple" = none)(aa4:nF P w K mg base 1 "_law_digit" p7 kj):FnOk P w K mg base qm 2 f fd vH (qR K 2 qc):=uT (m:=vn) F uh λcdv B outer s H E hr=>
 jL (kc (i:=2) uh.nd<|mT (Fg rfl) aaF wk<|jJ (mT Fy aar Bj<|jJ jP<|jJ (j3 lU (jG 1) jP) jN) jN)
 (jL (kc (i:=3) uh.nd<|lJ jN)
 (jL (Be 1000000 bK (lB (G0 hr.units) (j7 qF aae nN<|jJ (jG 2) jN) jP)
 (jQ<|ny<|JB PySem.F.slot_list_append PySem.F.type_list_append FL (jG 3)<|jJ (JB PySem.F.slot_list_pop PySem.F.type_list_pop UN (jG 2)<|jJ (yh aa4 hr (jG 0)<|j7 qF aae nN<|jJ (jG 2) jN) jN) jN))
 (jQ<|j_<|mT (AJ rfl) aaE qi<|jJ (jG 3) jN)))
def rT:FnScope sP sO (jW sX):=uQ rfl rfl rfl ∅
def A5(F:Fun K "_law_is_poly" "_law_is_poly" sX f fd)(aa2:mg "isinstance" = none)(aaF:mg "list" = none)(aae:mg "len" = none)(aaE:mg "tuple" = none)(aba:mg "bool" = none)(aa7:mg "int" = none)(acf:mg "all" = none)(aar:mg "range" = none):FnOk P w K mg base qm 1 f fd sO (qR K 1 nQ):=uT (m:=sZ) F rT λcdv B outer s H E hr=>
 jL (nX (uv<|nM<|j7 xN aa2 kW<|jJ (jG 0)<|jJ (x_ aaF wk) jN)
 (jQ<|j_ t_)
 lC)
 (jL (l7 bK rfl (lG<|jG 0) (jY (i:=1) rT.nd)
 (jL (nX (AW.at<|zQ (uv<|nM<|j7 xN aa2 kW<|jJ (jG 1)<|jJ (x_ aaE qi) jN)<|zQ (lB (CG hr.units) (j7 qF aae nN<|jJ (jG 1) jN) jP)<|BO<|lB (Yp hr.units) (kO (jG 1) jP) jP)
 (jQ<|j_ t_)
 lC)
 (jQ (l7 bK rfl (lG<|jG 1) (jY (i:=2) rT.nd)
 (jQ (nX (AW.at<|zQ (uv<|nM<|j7 xN aa2 kW<|jJ (jG 2)<|jJ (x_ aa7 HS) jN)<|BO<|nM<|j7 xN aa2 kW<|jJ (jG 2)<|jJ (x_ aba JD) jN)
 (jQ<|j_ t_)
 lC))))))
 (jQ<|j_<|j7 (aaW rfl) acf Xz<|jJ (pD (N:=["_law_k", "_law_found"]) (cap:=[none,some 0]) rfl (r_ ["_law_found"] rfl ∅ ∅ ∅ ∅ ∅ (cD.mpr ⟨by first|exact Or.inl rfl|exact Or.inr rfl,(nofun)⟩) ⟨rfl,by decide +kernel,trivial⟩) (y9 aar<|j3 qe (j7 qF aae nN<|jJ (jG 0) jN) jP) (λ_ _ _ _=>jY (i:=0) (show(["_law_k", "_law_found"]:ar).Nodup by decide +kernel) rfl (Or.inl rfl)<|.inr rfl) (λ_ _ _ _=>yl) λ_ _ _ _=>NU (Yx hr.units) (kO (kO (jG 1)<|jG 0) jP)<|kO (kO (jG 1)<|j3 lU (jG 0) jP) jP) jN))
def wX:FnScope um uH (jW uK):=uQ rfl rfl rfl ∅
def CH(F:Fun K "_law_is_sum" "_law_is_sum" uK f fd)(aa2:mg "isinstance" = none)(aaF:mg "list" = none)(aaE:mg "tuple" = none)(aae:mg "len" = none)(aci:nF P w K mg base 1 "_law_is_poly" sO nQ):FnOk P w K mg base qm 2 f fd uH (qR K 1 pB):=uT (m:=uy) F wX λcdv B outer s H E hr=>
 jL (nX (uv<|nM<|j7 xN aa2 kW<|jJ (jG 0)<|jJ (x_ aaF wk) jN)
 (jQ<|j_ t_)
 lC)
 (jL (l7 bK rfl (lG<|jG 0) (jY (i:=1) wX.nd)
 (jL (nX (AW.at<|zQ (uv<|nM<|j7 xN aa2 kW<|jJ (jG 1)<|jJ (x_ aaE qi) jN)<|zQ (lB (CG hr.units) (j7 qF aae nN<|jJ (jG 1) jN) jP)<|BO<|uv<|nM<|j7 xN aa2 kW<|jJ (kO (jG 1) jP)<|jJ (x_ aaE qi) jN)
 (jQ<|j_ t_)
 lC)
 (jQ (nX (AW.at<|zQ (uv<|nM<|CM aci hr<|kO (jG 1) jP)<|BO<|lB (Yp hr.units) (kO (jG 1) jP)<|lJ jN)
 (jQ<|j_ t_)
 lC))))
 (jQ<|j_ t_))
def t7:FnScope qv n8 (jW qu):=uQ rfl rfl rfl ∅
def yL(F:Fun K "_law_own_added" "_law_own_added" qu f fd)(acj:nF P w K mg base 2 "_law_own_plus" rC nc):FnOk P w K mg base qm 3 f fd n8 (qR K 3 kI):=uT (m:=qx) F t7 λcdv B outer s H E hr=>
 jL (kc (i:=3) t7.nd<|yh acj hr (Oc cM dW (Wc hr.units) (jG 0)<|jJ (jG 1)<|jJ (lJ jN) jN)<|jG 2)
 (jQ<|qy (jG 3)<|AB hr.units (jG 0)<|jG 1)
def Ca:FnScope sR pZ (jW sV):=uQ rfl rfl rfl ∅
def Cc(F:Fun K "_law_own_sum" "_law_own_sum" sV f fd)(aaK:mg "sorted" = none):FnOk P w K mg base qm 1 f fd pZ (qR K 1 mE):=uT (m:=tD) F Ca λcdv B outer s H E hr=>
 jQ (j_<|pD (N:=["_law_one", "_law_held"]) (cap:=[none,some 0]) rfl (r_ ["_law_held"] rfl ∅ ∅ ∅ ∅ ∅ (cD.mpr ⟨by first|exact Or.inl rfl|exact Or.inr rfl,(nofun)⟩) ⟨rfl,by decide +kernel,trivial⟩) (lG<|j7 (Kl rfl) aaK qQ<|jJ (jG 0) jN) (λ_ _ _ _=>jY (i:=0) (show(["_law_one", "_law_held"]:ar).Nodup by decide +kernel) rfl (Or.inl rfl)<|.inr rfl) (λ_ _ _ _=>qO<|lB (CG hr.units) (BG hr.units (jG 1)<|jG 0)<|lJ jN) λ_ _ _ _=>kR<|jJ (jG 0)<|jJ (BG hr.units (jG 1)<|jG 0) jN)
def lO:FnScope oJ oE (jW oK):=uQ rfl rfl rfl ∅
def wN(F:Fun K "_law_own_exchange" "_law_own_exchange" oK f fd)(aa_:nF P w K mg base 3 "_law_own_added" n8 kI)(abj:nF P w K mg base 2 "_law_own_times" n9 kP)(abk:nF P w K mg base 1 "_law_own_sum" pZ mE):FnOk P w K mg base qm 4 f fd oE (qR K 2 l8):=uT (m:=oN) F lO λcdv B outer s H E hr=>
 jL (kc (i:=2) lO.nd uE)
 (jL (l7 bK rfl (lG<|jG 0) (mK rfl<|j4 (jY (i:=3) lO.nd)<|j4 (jY (i:=4) lO.nd) lE)
 (jL (kc (i:=5) lO.nd<|j3 lU (j3 lU (JU (jG 3) wz<|v8<|j3 qe (jG 1) jP)<|kR<|jJ (kO (jG 3)<|jG 1)<|jJ (kO (jG 3)<|j3 qe (jG 1) jP) jN)<|JU (jG 3) (v8<|j3 lU (jG 1) jP) wz)
 (jL (ny<|Tj aa_ hr (jG 2) (jG 5)<|jG 4)
 (jQ (nX (lB (G0 hr.units) (kO (jG 3)<|j3 qe (jG 1) jP)<|kO (jG 3)<|jG 1)
 (jQ<|ny<|Tj aa_ hr (jG 2) (jG 3)<|yh abj hr (lJ<|jJ (kR<|jJ (uC jP)<|jJ jP jN)<|jJ (kR<|jJ jP<|jJ (uC jP) jN) jN)<|jG 4)
 lC)))))
 (jQ<|j_<|CM abk hr<|jG 2))
def mZ:FnScope wZ xq (jW xH):=uQ rfl rfl rfl ∅
def Gh(F:Fun K "_law_word" "_law_word" xH f fd)(aar:mg "range" = none)(aae:mg "len" = none)(aa4:nF P w K mg base 1 "_law_digit" p7 kj):FnOk P w K mg base qm 2 f fd xq (qR K 2 qZ):=uT (m:=xh) F mZ λcdv B outer s H E hr=>
 jL (kc (i:=2) mZ.nd<|lJ jN)
 (jL (Er (i:=3) (N:=["_law_k", "_law_one"]) (cap:=[none,some 1]) mZ.nd rfl (r_ ["_law_one"] rfl ∅ ∅ ∅ ∅ ∅ (cD.mpr ⟨by first|exact Or.inl rfl|exact Or.inr rfl,(nofun)⟩) ⟨rfl,by decide +kernel,trivial⟩) (tP aar jP<|j7 qF aae nN<|jJ (jG 1) jN) (λ_ _ _ _=>jY (i:=0) (show(["_law_k", "_law_one"]:ar).Nodup by decide +kernel) rfl (Or.inl rfl)<|.inr rfl) (λ_ _ _ _=>qO<|lB (G0 hr.units) (kO (jG 1)<|j3 qe (jG 0) jP)<|kO (jG 1)<|jG 0) λ_ _ _ _=>jG 0)
 (jL (Be 1000000 bK (lB (CG hr.units) (jG 3)<|lJ jN)
 (jL (kc (i:=4) mZ.nd<|kO (jG 3)<|yh aa4 hr (jG 0)<|j7 qF aae nN<|jJ (jG 3) jN)
 (jL (kc (i:=2) mZ.nd<|j3 lU (lJ<|jJ (jG 4) jN)<|jG 2)
 (jL (kc (i:=1) mZ.nd<|j3 lU (j3 lU (JU (jG 1) wz<|v8<|j3 qe (jG 4) jP)<|kR<|jJ (kO (jG 1)<|jG 4)<|jJ (kO (jG 1)<|j3 qe (jG 4) jP) jN)<|JU (jG 1) (v8<|j3 lU (jG 4) jP) wz)
 (jQ<|Er (i:=3) (N:=["_law_k", "_law_one"]) (cap:=[none,some 1]) mZ.nd rfl (r_ ["_law_one"] rfl ∅ ∅ ∅ ∅ ∅ (cD.mpr ⟨by first|exact Or.inl rfl|exact Or.inr rfl,(nofun)⟩) ⟨rfl,by decide +kernel,trivial⟩) (tP aar jP<|j7 qF aae nN<|jJ (jG 1) jN) (λ_ _ _ _=>jY (i:=0) (show(["_law_k", "_law_one"]:ar).Nodup by decide +kernel) rfl (Or.inl rfl)<|.inr rfl) (λ_ _ _ _=>qO<|lB (G0 hr.units) (kO (jG 1)<|j3 qe (jG 0) jP)<|kO (jG 1)<|jG 0) λ_ _ _ _=>jG 0)))))
 (jQ<|j_<|jG 2)))
def yd:FnScope pM nq (jW pS):=uQ rfl rfl rfl ∅
def yk(F:Fun K "_law_own_scaled" "_law_own_scaled" pS f fd)(abj:nF P w K mg base 2 "_law_own_times" n9 kP):FnOk P w K mg base qm 3 f fd nq (qR K 2 kQ):=uT (m:=pR) F yd λcdv B outer s H E hr=>
 jQ (j_<|pD (N:=["_law_one", "_law_more", "_law_own"]) (cap:=[none,none,some 0]) rfl (r_ ["_law_own"] rfl ∅ ∅ ∅ ∅ ∅ (cD.mpr ⟨by first|exact Or.inl rfl|exact Or.inr rfl,(nofun)⟩) ⟨rfl,by decide +kernel,trivial⟩) (lG<|jG 1) (λ_ _ _ _=>mK rfl<|j4 (jY (i:=0) (show(["_law_one", "_law_more", "_law_own"]:ar).Nodup by decide +kernel) rfl (Or.inl rfl)<|.inr rfl)<|j4 (jY (i:=1) (show(["_law_one", "_law_more", "_law_own"]:ar).Nodup by decide +kernel) rfl (Or.inl rfl)<|.inr rfl) lE) (λ_ _ _ _=>yl) λ_ _ _ _=>kR<|jJ (jG 0)<|jJ (yh abj hr (jG 2)<|jG 1) jN)
def n_:FnScope rJ rO (jW rm):=uQ rfl rfl rfl ∅
def Af(F:Fun K "_law_own_both" "_law_own_both" rm f fd)(aa_:nF P w K mg base 3 "_law_own_added" n8 kI)(abk:nF P w K mg base 1 "_law_own_sum" pZ mE):FnOk P w K mg base qm 4 f fd rO (qR K 2 m8):=uT (m:=rf) F n_ λcdv B outer s H E hr=>
 jL (kc (i:=2) n_.nd uE)
 (jL (l7 bK rfl (lG<|j3 lU (jG 0)<|jG 1) (mK rfl<|j4 (jY (i:=3) n_.nd)<|j4 (jY (i:=4) n_.nd) lE)
 (jQ<|ny<|Tj aa_ hr (jG 2) (jG 3)<|jG 4))
 (jQ<|j_<|CM abk hr<|jG 2))
def uz:FnScope zv zh (jW yU):=uQ rfl rfl rfl ∅
def Jk(F:Fun K "_law_due" "_law_due" yU f fd)(aaE:mg "tuple" = none)(aar:mg "range" = none)(acq:nF P w K mg base 4 "_law_own_both" rO m8)(abl:nF P w K mg base 3 "_law_own_scaled" nq kQ)(acu:nF P w K mg base 4 "_law_own_exchange" oE l8):FnOk P w K mg base qm 5 f fd zh (qR K 2 tH):=uT (m:=ze) F uz λcdv B outer s H E hr=>
 jL (kc (i:=2) uz.nd<|lJ<|jJ (kR<|jJ (mT (AJ rfl) aaE qi<|jJ (mT Fy aar Bj<|jJ jP<|jJ (j3 lU (jG 1) jP) jN) jN)<|jJ (lJ<|jJ (kR<|jJ jP<|jJ jP jN) jN) jN) jN)
 (jL (l7 bK rfl (lG<|jG 0) (jY (i:=3) uz.nd)
 (jQ<|kc (i:=2) uz.nd<|yh acq hr (yh acu hr (jG 2)<|jG 3)<|yh abl hr (lJ<|jJ (kR<|jJ (uC jP)<|jJ (uC jP) jN)<|jJ (kR<|jJ jP<|jJ jP jN) jN)<|jG 2))
 (jQ<|j_<|jG 2))
def nZ:FnScope rH rF (jW rj):=uQ rfl rfl rfl ∅
def Aa(F:Fun K "_law_is_under" "_law_is_under" rj f fd)(aar:mg "range" = none)(aae:mg "len" = none)(acB:mg "zip" = none)(aaK:mg "sorted" = none):FnOk P w K mg base qm 1 f fd rF (qR K 2 mL):=uT (m:=qW) F nZ λcdv B outer s H E hr=>
 jL (l7 bK rfl (tP aar jP<|j3 lU (j7 qF aae nN<|jJ (jG 0) jN) jP) (jY (i:=2) nZ.nd)
 (jQ (l7 bK rfl (YG acB (j7 Kz aaK qQ<|jJ (PX (jG 0) wz<|v8<|jG 2) jN)<|j7 Kz aaK qQ<|jJ (PX (jG 1) wz<|v8<|jG 2) jN) (mK rfl<|j4 (jY (i:=3) nZ.nd)<|j4 (jY (i:=4) nZ.nd) lE)
 (jQ (nX (lB (G0 hr.units) (jG 3)<|jG 4)
 (jQ<|j_ t_)
 lC)))))
 (jQ<|j_ t_)
def pJ:FnScope yK zj (jW yS):=uQ rfl rfl rfl ∅
def HU(F:Fun K "_law_all" "_law_all" yS f fd)(aar:mg "range" = none):FnOk P w K mg base qm 1 f fd zj (qR K 1 qS):=uT (m:=zH) F pJ λcdv B outer s H E hr=>
 jL (kc (i:=1) pJ.nd<|lJ<|jJ (kR jN) jN)
 (jL (l7 bK rfl (y9 aar<|jG 0) (jY (i:=2) pJ.nd)
 (jL (kc (i:=3) pJ.nd<|lJ jN)
 (jL (l7 bK rfl (lG<|jG 1) (jY (i:=4) pJ.nd)
 (jQ<|ny<|JB PySem.F.slot_list_extend PySem.F.type_list_extend Q0 (jG 3)<|jJ (pD (N:=["_law_thing", "_law_some"]) (cap:=[none,some 4]) rfl (r_ ["_law_some"] rfl ∅ ∅ ∅ ∅ ∅ (cD.mpr ⟨by first|exact Or.inl rfl|exact Or.inr rfl,(nofun)⟩) ⟨rfl,by decide +kernel,trivial⟩) (tP aar jP<|j3 lU (jG 0) jP) (λ_ _ _ _=>jY (i:=0) (show(["_law_thing", "_law_some"]:ar).Nodup by decide +kernel) rfl (Or.inl rfl)<|.inr rfl) (λ_ _ _ _=>qO<|lB (Jm hr.units) (jG 0)<|jG 1) λ_ _ _ _=>j3 lU (jG 1)<|kR<|jJ (jG 0) jN) jN))
 (jQ<|kc (i:=1) pJ.nd<|jG 3))))
 (jQ<|j_<|jG 1))
def s_:FnScope OD Wr (jW Nt):=uQ rfl rfl rfl ∅
set_option smartUnfolding false in
theorem Xo(F:Fun K "law" "law" Nt f fd)(aar:mg "range" = none)(acG:mg "max" = none)(acI:mg "min" = none)(aae:mg "len" = none)(aa7:mg "int" = none)(aaE:mg "tuple" = none)(abc:mg "reversed" = none)(acJ:nF P w K mg base 1 "_law_bag" zo t6)(aa4:nF P w K mg base 1 "_law_digit" p7 kj)(acK:nF P w K mg base 2 "_law_order" vH qc)(acL:nF P w K mg base 5 "_law_due" zh tH)(acM:nF P w K mg base 2 "_law_word" xq qZ)(abn:nF P w K mg base 32 "turning" zq pL)(acN:nF P w K mg base 2 "_law_is_sum" uH pB)(acO:nF P w K mg base 1 "_law_all" zj qS)(acP:nF P w K mg base 1 "_law_is_under" rF mL)(abl:nF P w K mg base 3 "_law_own_scaled" nq kQ):FnOk P w K mg base qm 33 f fd Wr (qR K 1 Dk):=uT (m:=Pe) F s_ λcdv B outer s H E hr=>
 jL (l7 bK rfl (y9 aar<|j7 (Xm rfl) acG YZ<|jJ jP<|jJ (j7 (W2 rfl) acI Yo<|jJ (j7 qF aae nN<|jJ (jG 0) jN)<|jJ jP jN) jN) (jY (i:=1) s_.nd)
 (jL (kc (i:=2) s_.nd<|yh acJ hr (jG 0)<|jG 1)
 (jL (kc (i:=3) s_.nd<|j3 lU jP<|yh aa4 hr (jG 2)<|kO (lJ<|jJ jP<|jJ jP jN)<|mT WI aa7 HS<|jJ (NU (G0 hr.units) (jG 1) jP) jN)
 (jL (kc (i:=4) s_.nd<|yh acK hr (jG 2)<|jG 3)
 (jL (nX (lB (Yp hr.units) (yh aa4 hr (jG 2) jP) jP)
 (jQ<|kc (i:=4) s_.nd<|Sa rfl aaE qi aar Bj (jG 3) jP<|uC jP)
 lC)
 (jL (kc (i:=5) s_.nd<|yh acL hr (yh acM hr (jG 2)<|jG 4)<|jG 3)
 (jL (kc (i:=6) s_.nd<|CM abn hr<|lJ<|jJ (kR<|jJ (jG 4)<|jJ (lJ<|jJ (kR<|jJ jP<|jJ jP jN) jN) jN) jN)
 (jL (nX (AW.at<|zQ (uv<|nM<|CM acN hr<|jG 6)<|zQ (lB (CG hr.units) (jG 6)<|jG 5)<|BO<|lB (Jm hr.units) (kR<|jJ (jG 4)<|jJ (lJ<|jJ (kR<|jJ jP<|jJ jP jN) jN) jN)<|jG 6)
 (jQ<|j_ t_)
 lC)
 (jL (nX (lB (CG hr.units) (pD (N:=["_law_some", "_law_own"]) (cap:=[none,none]) rfl (r_ [] rfl ∅ ∅ ∅ ∅ ∅ (nofun) trivial) (lG<|jG 6) (λ_ _ _ _=>mK rfl<|j4 (jY (i:=0) (show(["_law_some", "_law_own"]:ar).Nodup by decide +kernel) rfl (Or.inl rfl)<|.inr rfl)<|j4 (jY (i:=1) (show(["_law_some", "_law_own"]:ar).Nodup by decide +kernel) rfl (Or.inl rfl)<|.inr rfl) lE) (λ_ _ _ _=>yl) λ_ _ _ _=>jG 0)<|pD (N:=["_law_some", "_law_one"]) (cap:=[none,some 4]) rfl (r_ ["_law_one"] rfl ∅ ∅ ∅ ∅ ∅ (cD.mpr ⟨by first|exact Or.inl rfl|exact Or.inr rfl,(nofun)⟩) ⟨rfl,by decide +kernel,trivial⟩) (lG<|CM acO hr<|jG 3) (λ_ _ _ _=>jY (i:=0) (show(["_law_some", "_law_one"]:ar).Nodup by decide +kernel) rfl (Or.inl rfl)<|.inr rfl) (λ_ _ _ _=>qO<|nM<|yh acP hr (jG 0)<|jG 1) λ_ _ _ _=>jG 0)
 (jQ<|j_ t_)
 lC)
 (jL (kc (i:=7) s_.nd<|lJ<|jJ (kR<|jJ (j3 qe (yh aa4 hr (jG 2) jP) jP)<|jJ (j3 lU jP<|yh aa4 hr (jG 2) jP) jN)<|jJ (kR<|jJ jP<|jJ (j3 qe (uC jP)<|yh aa4 hr (jG 2) jP) jN) jN)
 (jL (Er (i:=8) (N:=["_law_power", "_law_number"]) (cap:=[none,none]) s_.nd rfl (r_ [] rfl ∅ ∅ ∅ ∅ ∅ (nofun) trivial) (Q2 abc<|jG 7) (λ_ _ _ _=>mK rfl<|j4 (jY (i:=0) (show(["_law_power", "_law_number"]:ar).Nodup by decide +kernel) rfl (Or.inl rfl)<|.inr rfl)<|j4 (jY (i:=1) (show(["_law_power", "_law_number"]:ar).Nodup by decide +kernel) rfl (Or.inl rfl)<|.inr rfl) lE) (λ_ _ _ _=>yl) λ_ _ _ _=>kR<|jJ (j3 qe jP<|jG 0)<|jJ (jG 1) jN)
 (jQ (nX (lB (CG hr.units) (CM abn hr<|lJ<|jJ (kR<|jJ (jG 4)<|jJ (jG 7) jN) jN)<|yh abl hr (jG 8)<|jG 5)
 (jQ<|j_ t_)
 lC)))))))))))))
 (jQ<|j_ t_)
end
end K31
namespace Po
open Am
meta abbrev Pl:=List<|Int×Int
abbrev val (d:Pl)(k:Int):Int:=((d.find? λp=>decide<|p.1=k).map (·.2)).getD 0
abbrev has (d:Pl)(k:Int):Bool:=d.any λp=>decide<|p.1=k
abbrev put (d:Pl)(k v:Int):Pl:=if has d k=true then d.map (λp=>if p.1=k then(p.1,v)else p)else d++[(k,v)]
abbrev acc (d:Pl)(k v:Int):Pl:=put d k<|val d k+v
abbrev cf:Pl->Int->Int
 | [],_=>0
 | p::l,k=>(if p.1=k then p.2 else 0)+cf l k
def p9{p:Int×Int}{k:Int}:val (p::d) k=if p.1=k then p.2 else val d k:=by
 unfold val;rw[cR];by_cases h:p.1=k
 ·rw[bg h,aL h];rfl
 ·rw[bH h,aJ h]
def By{p:Int×Int}{k:Int}:has (p::d) k=(decide (p.1=k) || has d k):=rfl
def yp{d:Pl}{k:Int}:has d k=true ↔ k∈d.map Prod.fst:=by
 unfold has;rw[gw,br];constructor
 ·rintro⟨p,h1,h2⟩;exact⟨p,h1,bO h2⟩
 ·rintro⟨p,h1,h2⟩;exact⟨p,h1,bg h2⟩
def NP{k:Int}(h:has d k=false):val d k=0:=by
 induction d with
 | nil=>rfl
 | cons p d ih=>
  rw[By,iK]at h;rw[p9,aJ<|dY h.1,ih h.2]
def Vm{k v j:Int}(h:has d k=false):val (d++[(k,v)]) j=if j=k then v else val d j:=by
 induction d with
 | nil=>
  show val [(k,v)] j=_;rw[p9];by_cases c:k=j
  ·rw[aL c,aL c.symm]
  ·rw[aJ c,aJ λz=>c z.symm]
 | cons p d ih=>
  rw[By,iK]at h;have:=dY h.1;rw[jl,p9,p9,ih h.2];by_cases c:p.1=j
  ·rw[aL c,aL c,aJ λz=>this<|c.trans z]
  ·rw[aJ c,aJ c]
def SW{d:Pl}{k v j:Int}:val (d.map λp=>if p.1=k then(p.1,v)else p) j=if j=k/\has d k=true then v else val d j:=by
 induction d with
 | nil=>
  rw[aJ λz=>by cases z.2];rfl
 | cons p d ih=>
  rw[bJ,p9,p9,ih,By];by_cases c:p.1=k
  ·rw[aL c,bg c,Bool.true_or];by_cases e:j=k
   ·rw[aL<|show p.1=j by lia,aL ⟨e,rfl⟩]
   ·rw[aJ<|show ¬p.1=j by lia,aJ λz=>e z.1,aJ λz=>e z.1,aJ<|show ¬p.1=j by lia]
  ·rw[aJ c,bH c,gD];by_cases e:p.1=j
   ·rw[aL e,aL e,aJ λz=>c<|e.trans z.1]
   ·rw[aJ e,aJ e]
def UZ{k v j:Int}:val (put d k v) j=if j=k then v else val d j:=by
 unfold put
 cases h:has d k with
 | true=>
  rw[aL rfl,SW,h];by_cases c:j=k
  ·rw[aL ⟨c,rfl⟩,aL c]
  ·rw[aJ λz=>c z.1,aJ c]
 | false=>rw[aJ<|by simp,Vm h]
def T7{k v j:Int}:val (acc d k v) j=val d j+if k=j then v else 0:=by
 unfold acc;rw[UZ];by_cases c:j=k
 ·subst c;rw[aL rfl,aL rfl]
 ·rw[aJ c,aJ λz=>c z.symm,dH]
def QT{d:Pl}{k v:Int}:(put d k v).map Prod.fst=if has d k=true then d.map Prod.fst else d.map Prod.fst++[k]:=by
 unfold put;split
 ·rw[bD];apply cQ;intro p _;show(if p.1=k then(p.1,v)else p).1=p.1;split<;>rfl
 ·rw[bN];rfl
def WR{d:Pl}{k v:Int}(h:(d.map Prod.fst).Nodup):((put d k v).map Prod.fst).Nodup:=by
 rw[QT];split
 ·exact h
 ·rename_i c;rw[dz];refine⟨h,cu _ _,λa ha b hb z=>c ?_⟩;rw[aP]at hb;rw[yp,<- hb,<- z];exact ha
def Ux{d:Pl}{k v:Int}:(put d k v).length<=d.length+1:=by
 unfold put;split
 ·rw[aG];lia
 ·rw[aS];exact aO _
abbrev Bd (c:Nat)(d:Pl):Prop:=∀p∈d,p.2.natAbs<=c
theorem Bd.val{c:Nat}(h:Bd c d)(k:Int):(val d k).natAbs<=c:=by
 induction d with
 | nil=>exact bP _
 | cons p d ih=>
  rw[p9];split
  ·exact h p (aM ..)
  ·exact ih λq hq=>h q<|aN _ hq
abbrev qA (d ps:Pl):Pl:=ps.foldl (λd p=>acc d p.1 p.2) d
def RL(d:Pl):qA d []=d:=rfl
def BJ(d ps qs:Pl):qA d (ps++qs)=qA (qA d ps) qs:=by unfold qA;rw[dc]
def yc(ps:Pl):∀(d:Pl) (k:Int),val (qA d ps) k=val d k+cf ps k:=by
 induction ps with
 | nil=>intro d k;rw[RL];show _=_+0;rw[dH]
 | cons p ps ih=>
  intro d k;show val (qA (acc d p.1 p.2) ps) k=_;rw[ih,T7];show _=_+(_+_);rw[iG]
def wF(ps:Pl):∀{d:Pl},(d.map Prod.fst).Nodup->((qA d ps).map Prod.fst).Nodup:=by
 induction ps with
 | nil=>intro d h;exact h
 | cons p ps ih=>intro d h;exact ih<|WR h
def nR(ps:Pl):∀(d:Pl),(qA d ps).length<=d.length+ps.length:=by
 induction ps with
 | nil=>intro d;exact aO _
 | cons p ps ih=>
  intro d;have h1:=ih<|acc d p.1 p.2;have h2:(acc d p.1 p.2).length<=d.length+1:=Ux;show(qA (acc d p.1 p.2) ps).length<=_;rw[bz]
  lia
structure Ok (l:Pl):Prop where
 up:l.Pairwise λp q=>p.1<q.1
 nz:∀p∈l,p.2≠0
def Ok.tail{p:Int×Int}{l:Pl}(h:Ok (p::l)):Ok l:=⟨(bQ.mp h.up).2,λq hq=>h.nz q<|aN _ hq⟩
def Hi{l:Pl}{k:Int}(h:∀p∈l,k<p.1):cf l k=0:=by
 induction l with
 | nil=>rfl
 | cons p l ih=>
  show(if p.1=k then p.2 else 0)+cf l k=0;have:=h p<|aM ..;rw[aJ (),ih λq hq=>h q<|aN _ hq];rfl
def Ok.head{p:Int×Int}{l:Pl}(h:Ok (p::l)):cf (p::l) p.1=p.2:=by
 show(if p.1=p.1 then p.2 else 0)+cf l p.1=p.2;rw[aL rfl,Hi (bQ.mp h.up).1,dH]
def Ok.low{p:Int×Int}{l:Pl}(h:Ok (p::l)){k:Int}(hk:k<p.1):cf (p::l) k=0:=Hi λq hq=>by
 rcases bu.mp hq with rfl|z
 ·exact hk
 ·have:=(bQ.mp h.up).1 q z;lia
theorem uniq:∀{l m:Pl},Ok l->Ok m->(∀k,cf l k=cf m k)->l=m
 | [],[],_,_,_=>rfl
 | [],q::m,_,h,e=>by
  have:=e q.1;rw[h.head]at this;exact absurd this.symm<|h.nz q<|aM ..
 | p::l,[],h,_,e=>by
  have:=e p.1;rw[h.head]at this;exact absurd this<|h.nz p<|aM ..
 | p::l,q::m,h,h',e=>by
  have n1:=h.nz p<|aM ..;have n2:=h'.nz q<|aM ..;have e1:p.1=q.1:=by
   rcases Int.lt_trichotomy p.1 q.1 with c|c|c
   ·have:=e p.1;rw[h.head,h'.low c]at this;exact absurd this n1
   ·exact c
   ·have:=e q.1;rw[h'.head,h.low c]at this;exact absurd this.symm n2
  have e2:p.2=q.2:=by
   have:=e p.1;rw[h.head,e1,h'.head]at this;exact this
  have e3:p=q:=Prod.ext e1 e2;subst e3;rw[uniq h.tail h'.tail λk=>by
   have:(if p.1=k then p.2 else 0)+cf l k=(if p.1=k then p.2 else 0)+cf m k:=e k
   lia]
abbrev II (d:Pl):Pl:=((sortI<|d.map Prod.fst).filter λk=>val d k != 0).map λk=>(k,val d k)
def Ti{ks:ag}(h:ks.Nodup):(sortI ks).Pairwise (· < ·):=by
 have p:=tU ks;have n:(sortI ks).Nodup:=(sortI_perm ks).nodup_iff.mpr h;have:(sortI ks).Pairwise λa b=>a<=b/\a≠b:=p.and n;exact this.imp λ⟨a,b⟩=>()
def D4{d:Pl}(h:(d.map Prod.fst).Nodup):Ok (II d):=by
 refine⟨?_,λp hp=>?_⟩
 ·unfold II;rw[cI];exact(Ti h).filter _
 ·obtain⟨k,hk,rfl⟩:=br.mp hp;have:=(b_.mp hk).2;simpa using this
theorem PD{k:Int}:∀{ks:ag},ks.Nodup->cf (ks.map λj=>(j,val d j)) k=if k∈ks then val d k else 0
 | [],_=>by rw[aJ<|by simp];rfl
 | j::ks,h=>by
  obtain⟨h1,h2⟩:=dg.mp h;show(if j=k then val d j else 0)+cf (ks.map λj=>(j,val d j)) k=_;rw[PD h2];by_cases c:j=k
  ·subst c;rw[aL rfl,aJ h1,aL<|aM ..,dH]
  ·rw[aJ c,dI];by_cases e:k∈ks
   ·rw[aL e,aL<|aN _ e]
   ·rw[aJ e,aJ λz=>(bu.mp z).elim (λz=>c z.symm) e]
def Ek{d:Pl}(h:(d.map Prod.fst).Nodup)(k:Int):cf (II d) k=val d k:=by
 unfold II;rw[PD<|((sortI_perm _).nodup_iff.mpr h).filter _];split
 ·rfl
 ·rename_i c
  cases e:has d k with
  | false=>exact(NP e).symm
  | true=>
   by_cases z:val d k=0
   ·exact z.symm
   ·exact absurd (b_.mpr ⟨(sortI_perm _).mem_iff.mpr<|yp.mp e,by simpa using z⟩) c
def Yz{d e:Pl}(h:(d.map Prod.fst).Nodup)(h':(e.map Prod.fst).Nodup)(hv:∀k,val d k=val e k):II d=II e:=
 uniq (D4 h) (D4 h') λk=>by rw[Ek h,Ek h',hv]
def Ok.nd{l:Pl}(h:Ok l):(l.map Prod.fst).Nodup:=by
 unfold List.Nodup;rw[cI];exact h.up.imp λa=>()
def Oi{l:Pl}(h:(l.map Prod.fst).Nodup)(k:Int):val l k=cf l k:=by
 induction l with
 | nil=>rfl
 | cons p l ih=>
  obtain⟨h1,h2⟩:=dg.mp h;rw[p9];show _=(if p.1=k then p.2 else 0)+cf l k;rw[<- ih h2];by_cases c:p.1=k
  ·have:has l k=false:=by
    cases e:has l k with
    | false=>rfl
    | true=>exact absurd (yp.mp e)<|by rw[<- c];exact h1
   rw[aL c,aL c,NP this,dH]
  ·rw[aJ c,aJ c,dI]
abbrev Pu (d ps:Pl):Pl:=ps.foldl (λd p=>put d p.1 p.2) d
theorem JJ:∀(ps d:Pl),((d++ps).map Prod.fst).Nodup->Pu d ps=d++ps
 | [],d,_=>by rw[cG];rfl
 | p::ps,d,h=>by
  have hn:has d p.1=false:=by
   cases e:has d p.1 with
   | false=>rfl
   | true=>
    rw[bN,dz]at h;exact absurd rfl<|h.2.2 _ (yp.mp e) p.1<|fJ<|aM ..
  have e:put d p.1 p.2=d++[p]:=by unfold put;rw[hn];rfl
  show Pu (put d p.1 p.2) ps=_;rw[e,JJ ps (d++[p])<|by rw[ck];exact h,ck];rfl
def T9{l:Pl}(h:Ok l):Pu [] l=l:=JJ l [] h.nd
abbrev plus (a b:Pl):Pl:=II<|qA a b
abbrev nB (a b:Pl):Pl:=II<|qA []<|a++b
def Tz{a:Pl}(h:Ok a):plus a b=nB a b:=by
 refine Yz (wF _ h.nd) (wF _ d9) λk=>?_;rw[yc,yc,Oi h.nd];have:∀(a b:Pl),cf (a++b) k=cf a k+cf b k:=λa b=>by
  induction a with
  | nil=>exact(dI _).symm
  | cons p a ih=>
   show _+cf (a++b) k=_+_+_;rw[ih,iG]
 rw[this];show _=0+_;rw[dI]
def FT(a b:Pl):Ok (nB a b):=D4<|wF _ d9
abbrev BC (a b:Pl):Pl:=a.flatMap λp=>b.map λq=>(p.1+q.1,p.2 * q.2)
abbrev times (a b:Pl):Pl:=II<|qA []<|BC a b
def rR(a b:Pl):Ok (times a b):=D4<|wF _ d9
def QX(a:Pl)(p:Int×Int)(b:Pl):BC (a++[p]) b=BC a b++b.map λq=>(p.1+q.1,p.2 * q.2):=by
 unfold BC;rw[iR,gb,jm,cG]
def we(a b:Pl):(BC a b).length=a.length * b.length:=by
 induction a with
 | nil=>simp[BC]
 | cons p a ih=>
  show((b.map _)++BC a b).length=_;rw[aS,aG,ih,bz,d7]
  lia
theorem Bd.BC{c:Nat}{a:Pl}(h:Bd c a)(h':Bd c' b):Bd (c * c') (BC a b):=λr hr=>by
 obtain⟨p,hp,hr⟩:=fR.mp hr;obtain⟨q,hq,rfl⟩:=br.mp hr
 skip
 rw[Int.natAbs_mul];exact dG (h p hp)<|h' q hq
def DT(d:Pl):(II d).length<=d.length:=by
 unfold Po.II;rw[aG];refine bB (cN _ _) ?_;rw[(sortI_perm _).length_eq,aG];exact aO _
abbrev turn (a:Pl):Pl:=a.reverse.map λp=>(-p.1,p.2)
abbrev iv (d:Pl):List (Int×A):=d.map λp=>(p.1,.int p.2)
abbrev pA (p:Int×Int):A:=.tup [.int p.1,.int p.2]
abbrev pl (l:Pl):ae:=l.map pA
def ES(d:Pl)(k:Int):nW (iv d) k=(d.find? λp=>decide<|p.1=k).map λp=>.int p.2:=by
 unfold nW iv;rw[iY,ie];rfl
def RK(d:Pl)(k:Int):(nW (iv d) k).getD (.int 0)=.int (val d k):=by
 rw[ES];unfold val
 cases d.find? λp=>decide (p.1=k)<;>rfl
def GD{d:Pl}{k:Int}(h:k∈d.map Prod.fst):nW (iv d) k=some (.int<|val d k):=by
 have:=yp.mpr h;unfold has at this;rw[ES];unfold val
 cases e:d.find? λp=>decide (p.1=k)with
 | some p=>rfl
 | none=>
  obtain⟨p,hp,hd⟩:=gw.mp this;exact absurd hd<|iZ.mp e p hp
def Iq(d:Pl)(k v:Int):zE (iv d) k (.int v)=iv (put d k v):=by
 have e:(nW (iv d) k).isSome=has d k:=by
  rw[ES,gU];unfold has;rw[jz,ja,gw]
 unfold zE put;rw[e];unfold iv;split
 ·rw[bD,bD];apply cQ;intro p _;show(if p.1=k then(p.1,A.int v)else(p.1,.int p.2))=_;show _=((if p.1=k then(p.1,v)else p).1,A.int (if p.1=k then(p.1,v)else p).2);split<;>rfl
 ·rw[bN];rfl
def S0(d:Pl):(iv d).map Prod.fst=d.map Prod.fst:=by
 unfold iv;rw[bD];rfl
theorem Vy:∀l:Pl,T4 (pl l)=some (iv l)
 | []=>rfl
 | p::l=>by
  show(T4<|pl l).map _=_;rw[Vy l];rfl
def T6(l:Pl):UI (iv l)=iv (Pu [] l):=by
 have:∀(l d:Pl),(iv l).foldl (λacc p=>zE acc p.1 p.2) (iv d)=iv (Pu d l):=by
  intro l
  induction l with
  | nil=>intro d;rfl
  | cons p l ih=>
   intro d;show(iv l).foldl _ (zE (iv d) p.1<|.int p.2)=_;rw[Iq,ih];rfl
 exact this l []
end Po
namespace Tb
abbrev fg (r:ag)(x:Int):Nat:=r.findIdx λy=>decide<|x<y
abbrev put:List (ag)->Int->List (ag)
 | [],x=>[[x]]
 | r::rs,x=>if fg r x=r.length then(r++[x])::rs else r.set (fg r x) x::put rs (r.getD (fg r x) 0)
abbrev row:List (ag)->Int->Nat
 | [],_=>0
 | r::rs,x=>if fg r x=r.length then 0 else row rs (r.getD (fg r x) 0)+1
def SD{r:ag}{x:Int}(h:fg r x=r.length):put (r::rs) x=(r++[x])::rs:=aL h
def WK{r:ag}{x:Int}(h:fg r x≠r.length):put (r::rs) x=r.set (fg r x) x::put rs (r.getD (fg r x) 0):=aJ h
def Ke{r:ag}{x:Int}(h:fg r x=r.length):row (r::rs) x=0:=aL h
def P_{r:ag}{x:Int}(h:fg r x≠r.length):row (r::rs) x=row rs (r.getD (fg r x) 0)+1:=aJ h
theorem NV:∀(T:List<|ag) (x:Int),row T x<=T.length
 | [],_=>aO _
 | r::rs,x=>by
  by_cases h:fg r x=r.length
  ·rw[Ke h];exact bP _
  ·rw[P_ h,bz];exact Nat.succ_le_succ<|NV rs _
abbrev bump:am->Nat->am
 | [],_=>[1]
 | n::ns,0=>(n+1)::ns
 | n::ns,i+1=>n::bump ns i
theorem C1:∀(T:List<|ag) (x:Int),(put T x).map List.length=bump (T.map List.length) (row T x)
 | [],_=>rfl
 | r::rs,x=>by
  by_cases h:fg r x=r.length
  ·rw[SD h,Ke h,bJ,bJ,aS];rfl
  ·rw[WK h,P_ h,bJ,bJ,bZ,C1 rs];rfl
theorem Hf:∀(ns:am) (i:Nat),i<=ns.length->(bump ns i).length=if i=ns.length then ns.length+1 else ns.length
 | [],i,h=>by
  have:i=0:=by simpa using h
  subst this;rfl
 | n::ns,0,_=>by rw[aJ<|by simp];rfl
 | n::ns,i+1,h=>by
  have h':i<=ns.length:=Nat.le_of_succ_le_succ h;show(bump ns i).length+1=_;rw[Hf ns i h'];by_cases e:i=ns.length
  ·rw[aL e,aL<|by rw[bz,e]];rfl
  ·rw[aJ e,aJ<|by rw[bz];lia];rfl
def Ju(T:List<|ag)(x:Int):(put T x).length=if row T x=T.length then T.length+1 else T.length:=by
 have:=dO List.length<|C1 T x;rw[aG,Hf _ _<|by rw[aG];exact NV T x,aG]at this;exact this
abbrev add:List (ag)->Nat->Int->List (ag)
 | [],_,k=>[[k]]
 | q::qs,0,k=>(q++[k])::qs
 | q::qs,i+1,k=>q::add qs i k
abbrev gs (r:ag)(x:Int):am:=(List.range r.length).filter λk=>decide<|x<r.getD k 0
end Tb
namespace Am
open PySem L2
abbrev Rows (S:jM):am->List (ag)->Prop
 | [],[]=>True
 | r::rs,x::T=>jK S r=some (x.map .int)/\Rows S rs T
 | _,_=>False
structure Tab (S:jM)(n:Nat)(rs:am)(T:List (ag)):Prop where
 top:jK S n=some (rs.map .ref)
 rows:Rows S rs T
 nd:(n::rs).Nodup
theorem Fp{s:Src}{g:Tg}{e:Ex}{T:ae->Prop}(P:Nat->ae->jM->Prop)
  (step:∀i acc τ S,i<s.k->T τ->P i acc S->∃x τ1 S1 y S3,s.get i S=some x/\g x τ S=.ok τ1 S1/\T τ1/\e τ1 S1=.ok y S3/\P (i+1) (acc++[y]) S3) (hfin:∀acc S,P s.k acc S->s.fin S=true) :
  ∀k i acc τ S,k+i=s.k->T τ->P i acc S->∃ys S',nH s g xC e k i τ S=.ok ys S'/\P s.k (acc++ys) S'
 | 0,i,acc,τ,S,hk,hT,hP=>by
  have:i=s.k:=()
  subst this;exact⟨[],S,by unfold nH;rw[aL<|hfin acc S hP],by rw[cG];exact hP⟩
 | k+1,i,acc,τ,S,hk,hT,hP=>by
  obtain⟨x,τ1,S1,y,S3,hx,hg,hT1,he,hP3⟩:=step i acc τ S () hT hP;obtain⟨ys,S',h1,h2⟩:=Fp P step hfin k (i+1) (acc++[y]) τ1 S3 () hT1 hP3;refine⟨y::ys,S',?_,by rw[ck]at h2;exact h2⟩;unfold nH;rw[hx,kL,hg,R.l9];show(e τ1 S1).uS _=_;rw[he,R.l9,h1];rfl
def eq_nil{a:Nat}{xs:ae}(h:jK S a=some xs)(h':jK S b=some []):qK S 12 (.ref a) (.ref b)=some xs.isEmpty:=by
 show(jK S a).bind (λxs=>(jK S b).bind λys=>oX (qK S 11) xs ys)=_;rw[h,cE,h',cE]
 cases xs<;>rfl
def XW{a:A}{k:Bool}(h:qK S 12 a b=some k):wM false a b S=.ok (.bl k) S:=by unfold wM;rw[h];rfl
def B8{a:A}{k:Bool}(h:qK S 12 a b=some k):wM true a b S=.ok (.bl<|!k) S:=by unfold wM;rw[h];rfl
def N7{xs:ae}{n:Nat}{src:Ic}{t:Te}{e:Ex}{S:jM}(hs:src τ S=.ok (kY n xs.length) S)(hx:jK S n=some xs)(p:A->Bool)(f:A->A)
  (ht:∀x∈xs,t (x::mO cap τ) S=.ok (p x) S) (he:∀x∈xs,p x=true->e (x::mO cap τ) S=.ok (f x) S) (hl:xs.length<=16777216) :
  kJ (none::cap) src (kD 0) t e τ S=.ok (.ref S.length) (S++[.lst<|(xs.filter p).map f]):=by
 have hm:∀i,i<xs.length->xs.getD i .unb∈xs:=λi hi=>by
  rw[aI,aF hi];exact eL hi
 rw[Dy hs (λi=>xs.getD i .unb) (λi=>p<|xs.getD i .unb) (λi=>f<|xs.getD i .unb) (λi hi=>by
  have hi:i<xs.length:=hi;show(jK S n).bind _=_;rw[hx,cE,aI,aF hi];rfl) (by
   show(match jK S n with
    | some ys=>decide (ys.length<=xs.length)
    | none=>false)=true
   rw[hx];simp) (λi hi=>ht _<|hm i hi) (λi hi=>he _<|hm i hi) hl]
 have:=tQ xs p f .unb;show R.ok _ (S++[O.lst<|((List.range xs.length).filter _).map _])=_;rw[this]
def getD_at{r:ag}{k:Nat}(h:k<r.length):r[k]?=some (r.getD k 0):=by rw[aI,aF h];rfl
end Am
namespace Am
open PySem L2 Po
meta abbrev Zf:Tg:=xD 2<|oR (kD 0)<|oR (kD 1) xB
def BA{s:Src}{src:Ic}{e:Ex}{S1:jM}(hs:src τ S=.ok s S1)(a b f:Nat->A)(hget:∀i,i<s.k->s.get i S1=some (.tup [a i,b i]))(hfin:s.fin S1=true)
  (he:∀i,i<s.k->e (a i::b i::mO cap τ) S1=.ok (f i) S1) (hl:s.k<=16777216) :
  kJ (none::none::cap) src Zf xC e τ S=.ok (.ref S1.length) (S1++[.lst<|(List.range s.k).map f]):=by
 unfold kJ;rw[hs,R.pX];obtain⟨S',h1,h2⟩:=wI (s:=s) (g:=Zf) (t:=xC) (e:=e) (P:=λS=>S=S1) (T:=λτ'=>∃y z,τ'=y::z::mO cap τ) (λi=>.tup [a i,b i]) (λ_=>true) f (λi S hi h=>by subst h;exact hget i hi) (λS h=>by subst h;exact hfin)
  (λi τ' S hi ⟨y,z,hy⟩ h=>by
   subst h hy;exact⟨a i::b i::mO cap τ,S,S,rfl,rfl,⟨_,_,rfl⟩,λh=>(nomatch h),λhp=>⟨S,he i hi,rfl⟩⟩) s.k 0 (mO (none::none::cap) τ) S1 rfl ⟨_,_,rfl⟩ rfl
 subst h2;rw[h1,R.l9,fm,iS.mpr λ_ _=>rfl];refine kM ?_;rw[aG,List.length_range'];exact hl
def Vu{l:Pl}{i:Nat}(h:i<l.length):(pl l)[i]?=some (.tup [.int (l.getD i (0,0)).1,.int (l.getD i (0,0)).2]):=by
 unfold pl;rw[aV,aF h,aI,aF h];rfl
def xx(l:Pl):(pl l).length=l.length:=aG ..
def FA{l:Pl}{n:Nat}{src:Ic}{e:Ex}{S1:jM}(hs:src τ S=.ok (KC n (pl l).length) S1)(hx:jK S1 n=some (pl l))(f:Int×Int->A)
  (he:∀p:Int×Int,e (.int p.1::.int p.2::mO cap τ) S1=.ok (f p) S1) (hl:l.length<=16777216) :
  kJ (none::none::cap) src Zf xC e τ S=.ok (.ref S1.length) (S1++[.lst<|l.reverse.map f]):=by
 have rg:∀i,i<l.length->l.reverse.getD i (0,0)=l.getD (l.length-1-i) (0,0):=λi hi=>by
  rw[aI,aI,List.getElem?_reverse hi]
 rw[BA hs (λi=>.int (l.reverse.getD i (0,0)).1) (λi=>.int (l.reverse.getD i (0,0)).2) (λi=>f<|l.reverse.getD i (0,0)) (λi hi=>by
  have hi:i<(pl l).length:=hi;rw[xx]at hi;show(jK S1 n).bind _=_;rw[hx,cE,xx,aL hi,Vu (),rg i hi]) rfl (λi _=>he _)<|by show(pl l).length<=_;rw[xx];exact hl]
 have:=range_getD l.reverse (0,0)
 skip
 rw[xx]
 conv=>rhs;rw[<- this,bD,fK]
 rfl
def MM{xs:ae}{n:Nat}{src:Ic}{t:Te}{e:Ex}{S1:jM}(hs:src τ S=.ok (kY n xs.length) S1)(hx:jK S1 n=some xs)(p:A->Bool)(f:A->A)
  (ht:∀x∈xs,t (x::mO cap τ) S1=.ok (p x) S1) (he:∀x∈xs,p x=true->e (x::mO cap τ) S1=.ok (f x) S1) (hl:xs.length<=16777216) :
  kJ (none::cap) src (kD 0) t e τ S=.ok (.ref S1.length) (S1++[.lst<|(xs.filter p).map f]):=by
 have:=N7 (S:=S1) (src:=λ_ _=>.ok (kY n xs.length) S1) (τ:=τ) rfl hx p f ht he hl;unfold kJ at this ⊢;rw[hs];exact this
def E4{S:jM}:lX (S++[.pU d]) S.length=some d:=EU Jg
def OA{o:O}{n:Nat}(h:lX S n=some d):lX (S++[o]) n=some d:=by
 have h':=qJ h;exact EU<|by rw[bG (aK.mp h').1];exact h'
def V2{S:jM}{n:Nat}(h:lX S n=some d):n<S.length:=(aK.mp<|qJ h).1
def Nz{S:jM}{n:Nat}(h:n<S.length):lX (S.set n<|.pU d) n=some d:=EU<|bW h
def JA{n:Nat}(h:lX S n=some d)(h':jK S m=some xs):n≠m:=λz=>by
 subst z;have e1:=qJ h;rw[j0 h']at e1
 cases e1
def LR{f:A->ae->jM->R A}{co:Ex}{d:sW}:Gx f co d τ S=(co τ S).bind λx S1=>opt (dk? x S1) λ_=>(d τ S1).bind λas S2=>f x as S2:=rfl
def Qu{n:Nat}:dk? (.ref n) S=(lX S n).map λ_=>Unit.unit:=rfl
def Ho{n:Nat}{k:Int}:wR (.ref n) [.int k,y] S=opt (lX S n) λkvs=>.ok ((nW kvs k).getD y) S:=rfl
def LK{co ci:Ex}{a:A}:GR co ci a τ S=(co τ S).bind λo S1=>(ci τ S1).bind λi S2=>(De o i a S2).bind λ_ S3=>.ok τ S3:=rfl
def Gp{n:Nat}{k:Int}{v:A}{S:jM}:De (.ref n) (.int k) v S=opt (lX S n) λkvs=>gd (kvs.length<sizeLine) (.ok Unit.unit<|S.set n<|.pU<|zE kvs k v):=rfl
def LX{n:Nat}{k:Int}:zz (.ref n) (.int k) S=opt (lX S n) λkvs=>opt (nW kvs k) λv=>.ok v S:=rfl
def zb{S:jM}:Cd τ S=.ok (.ref S.length) (S++[.pU []]):=rfl
def MV{n:Nat}{S:jM}:yZ (.ref n) S=opt (lX S n) λkvs=>.ok (.ref S.length) (S++[.lst<|(sortI<|kvs.map Prod.fst).map .int]):=rfl
def MA{n:Nat}{S:jM}:Iu (.ref n) S=opt (jK S n) λxs=>opt (T4 xs) λps=>.ok (.ref S.length) (S++[.pU<|UI ps]):=rfl
def acE{i j:Int}(h:i.natAbs<big)(h':j.natAbs<big):Hr (.int i) (.int j) S=.ok (.int<|i * j) S:=m7 ⟨h,h'⟩
def QY(d:Pl):(iv d).length=d.length:=aG ..
meta abbrev W5:Sm:=kG (jT lK (Gx wR (jI 2)<|jH (jI 3)<|jH (eC<|.int 0)<|jR)<|jI 4)<|GR (jI 2)<|jI 3
def acc_step{S:jM}{D:Pl}{k v:Int}(hd:lX S d=some (iv D))(hl:D.length<16777216):W5 [x0,x1,.ref d,.int k,.int v] S=.nx [x0,x1,.ref d,.int k,.int v] (S.set d<|.pU<|iv<|acc D k v):=by
 unfold W5;dsimp[kh,bools,LR,Qu,hd,dh,Ho,RK,LK,Gp,BP<|show(iv D).length<16777216 by rw[QY];exact hl,Iq];rfl
meta abbrev QU:Tg:=xD 2<|oR (kD 3)<|oR (kD 4) xB
def JM{n:Nat}{D l:Pl}{src:Ic}(hs:src [x0,x1,.ref d,x3,x4] S=.ok (kY n (pl l).length) S1)(hn:jK S1 n=some (pl l))(hd:lX S1 d=some (iv D))(hl:D.length+l.length<16777216) :
  ∃y3 y4 S',kX src QU W5 [x0,x1,.ref d,x3,x4] S=.nx [x0,x1,.ref d,y3,y4] S'/\lX S' d=some (iv<|qA D l)/\Kp (·=d) S1 S':=by
 have nd:=JA hd hn;refine p5 (n:=n) (xs:=pl l) hs (λi τ T=>(∃y3 y4,τ=[x0,x1,.ref d,y3,y4])/\lX T d=some (iv<|qA D<|l.take i)/\Kp (·=d) S1 T)
  (λr=>∃y3 y4 S',r=.nx [x0,x1,.ref d,y3,y4] S'/\lX S' d=some (iv<|qA D l)/\Kp (·=d) S1 S') ⟨⟨_,_,rfl⟩,hd,Kp.refl⟩ (λi τ T h=>h.2.2.lst _ _ (cO nd) hn) ?_ ?_
 ·rintro i z τ T hz ⟨⟨y3,y4,rfl⟩,hD,kp⟩;unfold pl at hz;rw[aV]at hz;obtain⟨p,hp,rfl⟩:=aY.mp hz;refine⟨[x0,x1,.ref d,.int p.1,.int p.2],T,rfl,.inl ?_⟩;have hlen:=nR (l.take i) D;have hi:=(aK.mp hp).1;rw[bI]at hlen;refine⟨_,_,acc_step hD (),⟨_,_,rfl⟩,?_,kp.GL<|.inl rfl⟩;rw[Nz<|V2 hD,dB,hp,BJ];rfl
 ·rintro τ T ⟨⟨y3,y4,rfl⟩,hD,kp⟩;rw[xx,c6]at hD;exact⟨y3,y4,T,rfl,hD,kp⟩
meta abbrev U0:Sm:=kG (jT lK (Gx wR (jI 2)<|jH (jT lK (jI 3)<|jI 5)<|jH (eC<|.int 0)<|jR)<|jT Hr (jI 4)<|jI 6)<|GR (jI 2)<|jT lK (jI 3)<|jI 5
meta abbrev g56:Tg:=xD 2<|oR (kD 5)<|oR (kD 6) xB
def Pb{S:jM}{D:Pl}{k v j u:Int}(hd:lX S d=some (iv D))(hl:D.length<16777216)(hv:v.natAbs<big)(hu:u.natAbs<big):U0 [x0,x1,.ref d,.int k,.int v,.int j,.int u] S=.nx [x0,x1,.ref d,.int k,.int v,.int j,.int u] (S.set d<|.pU<|iv<|acc D (k+j)<|v * u):=by
 unfold U0;dsimp[kh,bools,LR,Qu,hd,dh,Ho,RK,acE hv hu,LK,Gp,BP<|show(iv D).length<16777216 by rw[QY];exact hl,Iq];rfl
def TF{n:Nat}{D l:Pl}{k v:Int}(hn:jK S n=some (pl l))(hd:lX S d=some (iv D))(hl:D.length+l.length<16777216)(hv:v.natAbs<big)(hu:∀p∈l,p.2.natAbs<big) :
  ∃y5 y6 S',kX (mH<|jI 1) g56 U0 [x0,.ref n,.ref d,.int k,.int v,x5,x6] S=.nx [x0,.ref n,.ref d,.int k,.int v,y5,y6] S'/\lX S' d=some (iv<|qA D<|l.map λq=>(k+q.1,v * q.2))/\Kp (·=d) S S':=by
 have nd:=JA hd hn;refine p5 (n:=n) (xs:=pl l) (S1:=S) (mD (by dsimp[kh,bools]) hn) (λi τ T=>(∃y5 y6,τ=[x0,.ref n,.ref d,.int k,.int v,y5,y6])/\lX T d=some (iv<|qA D<|(l.take i).map λq=>(k+q.1,v * q.2))/\Kp (·=d) S T)
  (λr=>∃y5 y6 S',r=.nx [x0,.ref n,.ref d,.int k,.int v,y5,y6] S'/\lX S' d=some (iv<|qA D<|l.map λq=>(k+q.1,v * q.2))/\Kp (·=d) S S') ⟨⟨_,_,rfl⟩,hd,Kp.refl⟩ (λi τ T h=>h.2.2.lst _ _ (cO nd) hn) ?_ ?_
 ·rintro i z τ T hz ⟨⟨y5,y6,rfl⟩,hD,kp⟩;unfold pl at hz;rw[aV]at hz;obtain⟨p,hp,rfl⟩:=aY.mp hz;refine⟨[x0,.ref n,.ref d,.int k,.int v,.int p.1,.int p.2],T,rfl,.inl ?_⟩;have hlen:=nR ((l.take i).map λq=>(k+q.1,v * q.2)) D;have hi:=(aK.mp hp).1;rw[aG,bI]at hlen;refine⟨_,_,Pb hD () hv<|hu p<|aW hp,⟨_,_,rfl⟩,?_,kp.GL<|.inl rfl⟩;rw[Nz<|V2 hD,dB,hp,bN,BJ];rfl
 ·rintro τ T ⟨⟨y5,y6,rfl⟩,hD,kp⟩;rw[xx,c6]at hD;exact⟨y5,y6,T,rfl,hD,kp⟩
meta abbrev NL:Sm:=kX (mH<|jI 1) g56 U0
def A7(f:Int×Int->A)(hf:∀p τ S,QU (f p) τ S=QU (pA p) τ S){n:Nat}{a b:Pl}(hn:jK S n=some (a.map f))(hm:jK S m=some (pl b))(hd:lX S d=some [])(hl:a.length * b.length<16777216)(ha:∀p∈a,p.2.natAbs<big)(hb:∀p∈b,p.2.natAbs<big) :
  ∃y3 y4 y5 y6 S',kX (mH<|jI 0) QU NL [.ref n,.ref m,.ref d,x3,x4,x5,x6] S=.nx [.ref n,.ref m,.ref d,y3,y4,y5,y6] S'/\lX S' d=some (iv<|qA []<|BC a b)/\Kp (·=d) S S':=by
 have nd:=JA hd hn;have md:=JA hd hm;refine p5 (n:=n) (xs:=a.map f) (S1:=S) (mD (by dsimp[kh,bools]) hn) (λi τ T=>(∃y3 y4 y5 y6,τ=[.ref n,.ref m,.ref d,y3,y4,y5,y6])/\lX T d=some (iv<|qA []<|BC (a.take i) b)/\Kp (·=d) S T)
  (λr=>∃y3 y4 y5 y6 S',r=.nx [.ref n,.ref m,.ref d,y3,y4,y5,y6] S'/\lX S' d=some (iv<|qA []<|BC a b)/\Kp (·=d) S S') ⟨⟨_,_,_,_,rfl⟩,hd,Kp.refl⟩ (λi τ T h=>h.2.2.lst _ _ (cO nd) hn) ?_ ?_
 ·rintro i z τ T hz ⟨⟨y3,y4,y5,y6,rfl⟩,hD,kp⟩;rw[aV]at hz;obtain⟨p,hp,rfl⟩:=aY.mp hz;refine⟨[.ref n,.ref m,.ref d,.int p.1,.int p.2,y5,y6],T,hf _ _ _,.inl ?_⟩;have hlen:=nR (BC (a.take i) b) [];have hi:=(aK.mp hp).1;rw[we,bI,jA<|jt hi,cg,bR]at hlen;have hmul:i * b.length+b.length<=a.length * b.length:=by rw[<- d7];exact b7 _ hi
  obtain⟨z5,z6,T',e,hD',kp'⟩:=TF (x0:=.ref n) (x5:=y5) (x6:=y6) (k:=p.1) (v:=p.2) (kp.lst _ _ (cO md) hm) hD () (ha p<|aW hp) hb;refine⟨_,_,e,⟨_,_,_,_,rfl⟩,?_,kp.trans kp'⟩;rw[hD',dB,hp,Option.toList_some,QX,BJ]
 ·rintro τ T ⟨⟨y3,y4,y5,y6,rfl⟩,hD,kp⟩;rw[aG,c6]at hD;exact⟨y3,y4,y5,y6,T,rfl,hD,kp⟩
def Mz{n:Nat}{a b:Pl}(hn:jK S n=some (pl a))(hm:jK S m=some (pl b))(hd:lX S d=some [])(hl:a.length * b.length<16777216)(ha:∀p∈a,p.2.natAbs<big)(hb:∀p∈b,p.2.natAbs<big) :
  ∃y3 y4 y5 y6 S',kX (mH<|jI 0) QU NL [.ref n,.ref m,.ref d,x3,x4,x5,x6] S=.nx [.ref n,.ref m,.ref d,y3,y4,y5,y6] S'/\lX S' d=some (iv<|qA []<|BC a b)/\Kp (·=d) S S':=A7 pA (λ_ _ _=>rfl) hn hm hd hl ha hb
meta abbrev abD:Ex:=kJ [none,some 0] (mH<|j9 (f1 yZ)<|jH (jI 0)<|jR) (kD 0) (uW<|jT (wM true) (jT zz (jI 1)<|jI 0)<|eC<|.int 0)<|mW<|jH (jI 0)<|jH (jT zz (jI 1)<|jI 0)<|jR
def Qo{S:jM}{D:Pl}(hd:lX S d=some (iv D))(hl:D.length<=16777216):∃S',abD [.ref d] S=.ok (.ref<|S.length+1) S'/\jK S' (S.length+1)=some (pl<|II D)/\lA S S':=by
 have hd1:lX (S++[.lst<|(sortI<|D.map Prod.fst).map .int]) d=some (iv D):=OA hd;have ls:(S++[O.lst<|(sortI<|D.map Prod.fst).map A.int]).length=S.length+1:=by simp
 have cc:=MM (n:=S.length) (xs:=(sortI<|D.map Prod.fst).map A.int) (cap:=[some 0]) (src:=mH<|j9 (f1 yZ)<|jH (jI 0)<|jR) (t:=uW<|jT (wM true) (jT zz (jI 1)<|jI 0)<|eC<|.int 0) (e:=mW<|jH (jI 0)<|jH (jT zz (jI 1)<|jI 0)<|jR) (τ:=[.ref d]) (S:=S) (S1:=S++[.lst<|(sortI<|D.map Prod.fst).map .int])
  (mD (by dsimp[kh,bools,MV,hd,S0]) jX) jX (λx=>match x with | .int k=>val D k != 0|_=>false) (λx=>match x with | .int k=>pA (k,val D k)|_=>.non) (λx hx=>by
   obtain⟨k,hk,rfl⟩:=br.mp hx;have hk:=(sortI_perm _).mem_iff.mp hk;dsimp[kh,bools,LX,hd1,GD hk];rfl) (λx hx _=>by
   obtain⟨k,hk,rfl⟩:=br.mp hx;have hk:=(sortI_perm _).mem_iff.mp hk;dsimp[kh,bools,LX,hd1,GD hk];exact nI<|show 2<=16777216 by decide) (by rw[aG,(sortI_perm _).length_eq,aG];exact hl)
 refine⟨_,cc.trans<|by rw[ls],?_,Kp.refl.lay.lay⟩;rw[<- ls,jX];congr 1;unfold pl II;rw[bD,iO,bD];rfl
end Am
namespace Su
open Am Po PySem L2
meta abbrev En:=ag×Nat×Pl
meta abbrev Es:=List En
abbrev ent (e:En):A:=.tup [.tup<|e.1.map .int,.ref e.2.1]
abbrev kv (e:En):ag×A:=(e.1,.ref e.2.1)
abbrev At (S:jM)(es:Es):Prop:=∀e∈es,jK S e.2.1=some (pl e.2.2)
meta abbrev Ps:=List<|ag×Pl
abbrev sm (es:Es):Ps:=es.map λe=>(e.1,e.2.2)
def pK(es:Es):(sm es).length=es.length:=aG ..
def Em(a b:Es):sm (a++b)=sm a++sm b:=bN
abbrev vS (D:Ps)(o:ag):Pl:=((D.find? λe=>decide<|e.1=o).map (·.2)).getD []
abbrev hS (D:Ps)(o:ag):Bool:=D.any λe=>decide<|e.1=o
abbrev BX (D:Ps)(o:ag)(p:Pl):Ps:=if hS D o=true then D.map (λe=>if e.1=o then(e.1,p)else e)else D++[(o,p)]
abbrev Ac (D:Ps)(o:ag)(p:Pl):Ps:=BX D o<|nB (vS D o) p
abbrev adds (D l:Ps):Ps:=l.foldl (λD e=>Ac D e.1 e.2) D
def GG(D a b:Ps):adds D (a++b)=adds (adds D a) b:=by unfold adds;rw[dc]
abbrev toS (D:Ps):Ps:=((mF<|D.map Prod.fst).filter λo=>!(vS D o).isEmpty).map λo=>(o,vS D o)
abbrev fE (D:Es)(o:ag):Option En:=D.find? λe=>decide<|e.1=o
abbrev p6 (D:Es)(o:ag)(r:Nat)(p:Pl):Es:=if (fE D o).isSome=true then D.map (λe=>if e.1=o then(e.1,r,p)else e)else D++[(o,r,p)]
def UY(D:Es)(o:ag):(sm D).find? (λe=>decide<|e.1=o)=(fE D o).map λe=>(e.1,e.2.2):=by
 unfold sm fE;rw[iY];rfl
def QW(D:Es)(o:ag):vS (sm D) o=((fE D o).map λe=>e.2.2).getD []:=by
 unfold vS;rw[UY,ie];rfl
def acH(D:Es)(o:ag):hS (sm D) o=(fE D o).isSome:=by
 unfold hS sm fE;rw[List.any_map,jz,ja,gw];rfl
def Q3(D:Es)(o:ag)(r:Nat)(p:Pl):sm (p6 D o r p)=BX (sm D) o p:=by
 unfold p6 BX;rw[acH];unfold sm;split
 ·rw[bD,bD];apply cQ;intro e _;show((if e.1=o then(e.1,r,p)else e).1,(if e.1=o then(e.1,r,p)else e).2.2)=if e.1=o then(e.1,p)else(e.1,e.2.2)
  split<;>rfl
 ·rw[bN];rfl
def vX(D:Es)(o:ag):mG (D.map kv) o=(fE D o).map λe=>.ref e.2.1:=by
 unfold mG fE;rw[iY,ie];rfl
def HN(D:Es)(o:ag)(r:Nat)(p:Pl):putD (D.map kv) o (.ref r)=(p6 D o r p).map kv:=by
 unfold putD p6;rw[vX,gU];split
 ·rw[bD,bD];apply cQ;intro e _;show(if e.1=o then(e.1,A.ref r)else(e.1,.ref e.2.1))=kv (if e.1=o then(e.1,r,p)else e);split<;>rfl
 ·rw[bN];rfl
def uG{D:Es}{r:Nat}{p:Pl}{e:En}(h:e∈p6 D o r p):e∈D\/e=(o,r,p):=by
 unfold p6 at h;split at h
 ·obtain⟨e',h1,rfl⟩:=br.mp h;split
  ·rename_i c;exact .inr (by rw[c])
  ·exact .inl h1
 ·rcases bE.mp h with z|z
  ·exact .inl z
  ·exact .inr<|aP.mp z
def Ju{D:Es}{r:Nat}{p:Pl}:(p6 D o r p).length<=D.length+1:=by
 unfold p6;split
 ·rw[aG];lia
 ·rw[aS];exact aO _
def vI{D:Es}{e:En}(h:fE D o=some e):e∈D/\e.1=o:=⟨List.mem_of_find?_eq_some h,by
 unfold fE at h;have:=jB h;simpa using this⟩
def At.put{D:Es}{r:Nat}{p:Pl}(h:At S D)(hr:jK S r=some (pl p)):At S (p6 D o r p):=λe he=>by
 rcases uG he with z|z
 ·exact h e z
 ·rw[z];exact hr
def At.kp{D:Es}{b:Nat->Prop}(h:At S D)(k:Kp b S S')(hb:∀e∈D,¬b e.2.1):At S' D:=λe he=>k.lst _ _ (hb e he)<|h e he
def At.yz{D:Es}(h:At S D)(k:lA S S'):At S' D:=h.kp k λ_ _ z=>z
def At.app{a:Es}(h:At S a)(h':At S b):At S (a++b):=λe he=>(bE.mp he).elim (h e)<|h' e
def qD{n:Nat}(h:ko S n=some d)(h':jK S m=some xs):n≠m:=λz=>by
 subst z;have e1:=pF h;rw[j0 h']at e1
 cases e1
def At.Hv{D:Es}(h:At S D)(k:Kp (·=d) S S')(hd:ko S d=some kvs):At S' D:=h.kp k λe he z=>qD hd (h e he) z.symm
abbrev Vl (k b:Nat)(D:Es):Prop:=∀e∈D,Ok e.2.2/\e.2.2.length<=k/\b<=e.2.1
def Vl.mono{k:Nat}{D:Es}(h:Vl k b D)(hk:k<=k'):Vl k' b D:=λe he=>⟨(h e he).1,bB (h e he).2.1 hk,(h e he).2.2⟩
def Vl.v{k:Nat}{D:Es}(h:Vl k b D)(o:ag):Ok (vS (sm D) o)/\(vS (sm D) o).length<=k:=by
 rw[QW]
 cases e:fE D o with
 | none=>exact⟨⟨List.Pairwise.nil,nofun⟩,bP _⟩
 | some e'=>exact⟨(h e' (vI e).1).1,(h e' (vI e).1).2.1⟩
def Me(a b:Pl):(nB a b).length<=a.length+b.length:=by
 refine bB (DT _)<|bB (nR _ _) ?_;rw[aS,cg];lia
def yW(a b:Pl):(times a b).length<=a.length * b.length:=by
 refine bB (DT _)<|bB (nR _ _) ?_;rw[we,cg];lia
def Vl.add{k r:Nat}{D:Es}{p:Pl}(h:Vl k b D)(hp:p.length<=j)(hr:b<=r):Vl (k+j) b (p6 D o r<|nB (vS (sm D) o) p):=λe he=>by
 rcases uG he with z|z
 ·exact(h.mono<|iC _ _) e z
 ·rw[z];refine⟨FT _ _,?_,hr⟩;have:=Me (vS (sm D) o) p;have:=(h.v o).2;show(nB (vS (sm D) o) p).length<=_
  lia
def pG{S:jM}:ko (S++[.dct xs]) S.length=some xs:=yx Jg
def xX{o:O}{n:Nat}(h:ko S n=some xs):ko (S++[o]) n=some xs:=by
 have h':=pF h;exact yx<|by rw[bG (aK.mp h').1];exact h'
def DO{S:jM}{n:Nat}(h:ko S n=some xs):n<S.length:=(aK.mp<|pF h).1
def EL{S:jM}{n:Nat}(h:n<S.length):ko (S.set n<|.dct ys) n=some ys:=yx<|bW h
def K_{f:A->ae->jM->R A}{co:Ex}{d:sW}:UU f co d τ S=(co τ S).bind λx S1=>opt (dct? x S1) λ_=>(d τ S1).bind λas S2=>f x as S2:=rfl
def Ld{n:Nat}:dct? (.ref n) S=(ko S n).map λ_=>Unit.unit:=rfl
def tZ{S:jM}:ya τ S=.ok (.ref S.length) (S++[.dct []]):=rfl
def Ax{co ci:Ex}{a:A}:Mf co ci a τ S=(co τ S).bind λo S1=>(ci τ S1).bind λi S2=>(FY o i a S2).bind λ_ S3=>.ok τ S3:=rfl
def JN{n:Nat}{o:ag}:Ve (.ref n) [.tup<|o.map .int,y] S=opt (ko S n) λkvs=>.ok ((mG kvs o).getD y) S:=by
 show opt (ko S n) (λkvs=>opt (A.ints<|o.map .int) λk=>.ok ((mG kvs k).getD y) S)=_;rw[ints_map];rfl
def BS{n:Nat}{o:ag}{v:A}{S:jM}:FY (.ref n) (.tup<|o.map .int) v S=opt (ko S n) λkvs=>gd (kvs.length<sizeLine) (.ok Unit.unit<|S.set n<|.dct<|putD kvs o v):=by
 show opt (ko S n) (λkvs=>opt (A.ints<|o.map .int) λns=>gd (kvs.length<sizeLine)<|.ok Unit.unit<|S.set n<|.dct<|putD kvs ns v)=_;rw[ints_map];rfl
def wj{n:Nat}{o:ag}:xU (.ref n) (.tup<|o.map .int) S=opt (ko S n) λkvs=>opt (mG kvs o) λv=>.ok v S:=by
 show opt (ko S n) (λkvs=>opt (A.ints<|o.map .int) λns=>opt (mG kvs ns) λv=>.ok v S)=_;rw[ints_map];rfl
def get_or{S:jM}{D:Es}(hd:ko S d=some (D.map kv))(hA:At S D):∃x:Nat,(mG (D.map kv) o).getD (.ref S.length)=.ref x/\jK (S++[.lst []]) x=some (pl<|vS (sm D) o):=by
 rw[vX,QW]
 cases e:fE D o with
 | none=>exact⟨S.length,rfl,jX⟩
 | some e'=>exact⟨e'.2.1,rfl,j8<|hA e' (vI e).1⟩
def SJ{α:Type}{xs:List α}(g:α->A){n:Nat}{src:Ic}{t:Te}{e:Ex}(hs:src τ S=.ok (kY n (xs.map g).length) S1)(hx:jK S1 n=some (xs.map g))(d:α)(p:α->Bool)(f:α->A)
  (step:∀x∈xs,∀T,lA S1 T->∃T1,t (g x::mO cap τ) T=.ok (p x) T1/\lA S1 T1/\(p x=true->∃T2,e (g x::mO cap τ) T1=.ok (f x) T2/\lA S1 T2)) (hl:xs.length<=16777216) :
  ∃S',kJ (none::cap) src (kD 0) t e τ S=.ok (.ref S'.length) (S'++[.lst<|(xs.filter p).map f])/\lA S1 S':=by
 have hm:∀i,i<xs.length->xs.getD i d∈xs:=λi hi=>by
  rw[aI,aF hi];exact eL hi
 have hk:(xs.map g).length=xs.length:=aG ..;obtain⟨S',h1,h2⟩:=wI (s:=kY n (xs.map g).length) (g:=kD 0) (t:=t) (e:=e) (P:=λT=>lA S1 T) (T:=λτ'=>∃y,τ'=y::mO cap τ) (λi=>g<|xs.getD i d) (λi=>p<|xs.getD i d) (λi=>f<|xs.getD i d) (λi T hi h=>by
   have hi:i<(xs.map g).length:=hi;show(jK T n).bind _=_;rw[h.lst _ _ (λz=>z) hx,cE,aV,aF (),aI,aF ()];rfl) (λT h=>by
   show(match jK T n with
    | some ys=>decide (ys.length<=(xs.map g).length)
    | none=>false)=true
   rw[h.lst _ _ (λz=>z) hx];simp)
  (λi τ' T hi ⟨y,hy⟩ h=>by
   have hi:i<(xs.map g).length:=hi;subst hy;obtain⟨T1,e1,k1,e2⟩:=step _ (hm i ()) T h;exact⟨g (xs.getD i d)::mO cap τ,T,T1,rfl,e1,⟨_,rfl⟩,λ_=>k1,e2⟩) (xs.map g).length 0 (mO (none::cap) τ) S1 rfl ⟨_,rfl⟩ Kp.refl
 refine⟨S',?_,h2⟩;unfold kJ;rw[hs,R.pX];show(nH (kY n (xs.map g).length) (kD 0) t e (xs.map g).length 0 (mO (none::cap) τ) S1).uS _=_;rw[h1,R.l9,<- fm,hk,tQ xs p f d];refine kM ?_;rw[aG];exact bB (cN _ _) hl
def OZ{es:Es}{n:Nat}{src:Ic}{ex:Ex}{S:jM}(hs:src τ S=.ok (kY n (es.map ent).length) S)(hx:jK S n=some (es.map ent))(F:Pl->Pl)
  (step:∀e∈es,∀T,lA S T->∃(r:Nat) (T':jM),ex (.tup (e.1.map .int)::.ref e.2.1::mO cap τ) T=.ok (.tup [.tup<|e.1.map .int,.ref r]) T'/\jK T' r=some (pl<|F e.2.2)/\T.length<=r/\lA T T') (hl:es.length<=16777216) :
  ∃(m:Nat) (S':jM) (fs:Es),kJ (none::none::cap) src Zf xC ex τ S=.ok (.ref m) S'/\jK S' m=some (fs.map ent)/\At S' fs/\sm fs=es.map (λe=>(e.1,F e.2.2))/\(∀e∈fs,S.length<=e.2.1/\e.2.1<m)/\S.length<=m/\lA S S':=by
 have hk:(es.map ent).length=es.length:=aG ..;obtain⟨ys,S',h1,k1,fs,rfl,h2,h3,h4⟩:=Fp (s:=kY n (es.map ent).length) (g:=Zf) (e:=ex) (T:=λτ'=>∃y z,τ'=y::z::mO cap τ) (λi acc T=>lA S T/\∃fs:Es,acc=fs.map ent/\At T fs/\sm fs=(es.take i).map (λe=>(e.1,F e.2.2))/\∀e∈fs,S.length<=e.2.1/\e.2.1<T.length)
  (λi acc τ' T hi ⟨y,z,hy⟩ hP=>by
   have hi:i<(es.map ent).length:=hi;obtain⟨kT,fs,rfl,a1,a2,a3⟩:=hP;subst hy;have he:es[i]?=some es[i]:=aF ();obtain⟨r,T',e1,e2,e3,e4⟩:=step es[i] (aW he) T kT;have lr:=oG e2;refine⟨ent es[i],.tup (es[i].1.map .int)::.ref es[i].2.1::mO cap τ,T,_,T',?_,rfl,⟨_,_,rfl⟩,e1,kT.trans e4,fs++[(es[i].1,r,F es[i].2.2)],by rw[bN];rfl,?_,?_,?_⟩
   ·show(jK T n).bind _=_;rw[kT.lst _ _ (λz=>z) hx,cE,aV,he];rfl
   ·refine(a1.yz e4).app λe h=>?_;rw[aP.mp h];exact e2
   ·rw[Em,a2,dB,he,bN];rfl
   ·intro e h;have:=e4.len;have:=kT.len
    rcases bE.mp h with z|z
    ·have:=a3 e z;lia
    ·rw[aP.mp z];show S.length<=r/\r<_;lia) (λacc T hP=>by
   show(match jK T n with
    | some ys=>decide (ys.length<=(es.map ent).length)
    | none=>false)=true
   rw[hP.1.lst _ _ (λz=>z) hx];simp) (es.map ent).length 0 [] (mO (none::none::cap) τ) S rfl ⟨_,_,rfl⟩ ⟨Kp.refl,[],rfl,(nofun),by rw[fP];rfl,nofun⟩
 rw[show(kY n (es.map ent).length).k=es.length from hk,c6]at h3;have lf:fs.length=es.length:=by have:=dO List.length h3;rwa [pK,aG]at this
 refine⟨S'.length,S'++[.lst<|fs.map ent],fs,?_,jX,h2.yz Kp.refl.lay,h3,λe he=>h4 e he,k1.len,k1.lay⟩;unfold kJ;rw[hs,R.pX];show(nH (kY n (es.map ent).length) Zf xC ex (es.map ent).length 0 (mO (none::none::cap) τ) S).uS _=_;rw[h1,R.l9];exact kM<|by rw[aG,lf];exact hl
def L3{D:Es}{o:ag}(h:o∈D.map Prod.fst):∃e,fE D o=some e:=by
 unfold fE
 cases e:D.find? λe=>decide (e.1=o)with
 | some x=>exact⟨x,rfl⟩
 | none=>
  obtain⟨x,hx,rfl⟩:=br.mp h;exact absurd (bg rfl)<|iZ.mp e x hx
abbrev Ah (k:ag):A:=.tup<|k.map .int
def F4{S:jM}{D:Es}(hd:ko S d=some (D.map kv))(hne:∀e∈D,e.1≠[]):yO (.ref d) S=.ok (.ref S.length) (S++[.lst<|(mF<|D.map Prod.fst).map Ah]):=by
 have ek:(D.map kv).map Prod.fst=D.map Prod.fst:=by rw[bD];rfl
 show opt (ko S d) _=_;rw[hd,kL];have:((D.map kv).map Prod.fst).all (λks=>!ks.isEmpty)=true:=by
  rw[ek,all_map,ji];intro e he;have:=hne e he;show(!(e.1).isEmpty)=true
  cases h:e.1 with
  | nil=>exact absurd h this
  | cons=>rfl
 rw[ek]at this ⊢;rw[this];rfl
abbrev uX (D:Es)(p:Pl->Bool):Es:=((mF<|D.map Prod.fst).filter λo=>p<|vS (sm D) o).map λo=>(o,((fE D o).map λe=>e.2.1).getD 0,vS (sm D) o)
def wA(D:Es):sm (uX D λp=>!p.isEmpty)=toS (sm D):=by
 unfold uX toS sm;rw[bD,bD];rfl
def wH{D:Es}{p:Pl->Bool}{e:En}(h:e∈uX D p):e∈D/\p e.2.2=true:=by
 obtain⟨o,ho,rfl⟩:=br.mp h;obtain⟨h1,h2⟩:=b_.mp ho;obtain⟨e,he⟩:=L3<|(kB _).mem_iff.mp h1;rw[QW,he]at h2;rw[QW,he];obtain⟨m,rfl⟩:=vI he;exact⟨m,h2⟩
def F1{S:jM}{D:Es}{src:Ic}{t:Te}{e:Ex}(hd:ko S d=some (D.map kv))(hA:At S D)(hs:src τ S=.ok (kY S.length ((mF<|D.map Prod.fst).map Ah).length) (S++[.lst<|(mF<|D.map Prod.fst).map Ah]))(p:Pl->Bool)
  (ht:∀(o:ag) (r:Nat) (q:Pl) (T:jM),ko T d=some (D.map kv)->mG (D.map kv) o=some (.ref r)->jK T r=some (pl q)->∃T1,t (Ah o::mO cap τ) T=.ok (p q) T1/\lA T T1)
  (he:∀(o:ag) (r:Nat) (T:jM),ko T d=some (D.map kv)->mG (D.map kv) o=some (.ref r)->e (Ah o::mO cap τ) T=.ok (.tup [Ah o,.ref r]) T) (hl:D.length<=16777216) :
  ∃(n:Nat) (S':jM),kJ (none::cap) src (kD 0) t e τ S=.ok (.ref n) S'/\jK S' n=some ((uX D p).map ent)/\At S' (uX D p)/\S.length<n/\lA S S':=by
 have kx:lA S (S++[.lst<|(mF<|D.map Prod.fst).map Ah]):=Kp.refl.lay;obtain⟨S',e1,k1⟩:=SJ Ah (t:=t) (e:=e) (cap:=cap) hs jX [] (λo=>p<|vS (sm D) o) (λo=>ent (o,((fE D o).map λe=>e.2.1).getD 0,vS (sm D) o)) (λo ho T kT=>by
  obtain⟨e',he'⟩:=L3<|(kB _).mem_iff.mp ho;have lk:mG (D.map kv) o=some (.ref e'.2.1):=by rw[vX,he'];rfl
  have kST:=kx.trans kT;have dT:=kST.dct _ _ (λz=>z) hd;have lT:=kST.lst _ _ (λz=>z)<|hA e' (vI he').1;obtain⟨T1,h1,h2⟩:=ht o e'.2.1 e'.2.2 T dT lk lT;rw[QW,he'];exact⟨T1,h1,kT.trans h2,λ_=>⟨T1,he o e'.2.1 T1 (h2.dct _ _ (λz=>z) dT) lk,kT.trans h2⟩⟩) (by
  rw[(kB _).length_eq,aG];exact hl)
 have kS:=kx.trans k1;refine⟨S'.length,_,e1,?_,(?_:At S'<|uX D p).yz Kp.refl.lay,?_,kS.lay⟩
 ·rw[jX];unfold uX;rw[bD];rfl
 ·exact λe h=>kS.lst _ _ (λz=>z) (hA e (wH h).1)
 ·have:=k1.len;rw[aS]at this;exact this
abbrev AR (F:ae->jM->R A):Prop:=∀{S:jM}{d r:Nat}{D:Es}{o:ag}{p:Pl}{k b:Nat},ko S d=some (D.map kv)->At S D->Vl k b D->jK S r=some (pl p)->D.length<16777216->k+p.length<16777216 ->
  ∃(L:Nat) (S':jM),F [.ref d,.tup<|o.map .int,.ref r] S=.ok .non S'/\ko S' d=some ((p6 D o L<|nB (vS (sm D) o) p).map kv)/\At S' (p6 D o L<|nB (vS (sm D) o) p)/\S.length<=L/\Kp (·=d) S S'
abbrev M4 (F:ae->jM->R A):Prop:=∀{S:jM}{n m:Nat}{a b:Pl},jK S n=some (pl a)->jK S m=some (pl b)->a.length * b.length<16777216->(∀p∈a,p.2.natAbs<big)->(∀p∈b,p.2.natAbs<big) ->
  ∃(L:Nat) (S':jM),F [.ref n,.ref m] S=.ok (.ref L) S'/\jK S' L=some (pl<|times a b)/\S.length<=L/\lA S S'
abbrev Ap (D:Es):Prop:=D.Pairwise λe f=>e.1≠f.1/\e.2.1≠f.2.1
def Ap.put{D:Es}{r:Nat}{p:Pl}(h:Ap D)(hr:∀e∈D,e.2.1≠r):Ap (p6 D o r p):=by
 unfold p6;split
 ·unfold Ap;rw[cI];refine gG (λ{e f} he hf z=>?_) h;by_cases c1:e.1=o
  ·have c2:¬f.1=o:=λz2=>z.1<|c1.trans z2.symm;rw[aL c1,aJ c2];exact⟨z.1,λy=>hr f hf y.symm⟩
  ·rw[aJ c1];by_cases c2:f.1=o
   ·rw[aL c2];exact⟨z.1,hr e he⟩
   ·rw[aJ c2];exact z
 ·rename_i c;unfold Ap;rw[cC];refine⟨h,cu _ _,λe he f hf=>?_⟩;rw[aP.mp hf];refine⟨λz=>c ?_,hr e he⟩;unfold fE;rw[ja];exact⟨e,he,bg z⟩
theorem Ap.at{D:Es}(h:Ap D):∀e∈D,∀f∈D,e.1≠f.1->e.2.1≠f.2.1:=by
 unfold Ap at h
 induction h with
 | nil=>exact λe he=>nomatch he
 | @cons a D ha _ ih=>
  intro e he f hf z
  rcases bu.mp he with h1|h1<;>rcases bu.mp hf with h2|h2
  ·exact absurd (by rw[h1,h2]) z
  ·rw[h1];exact(ha f h2).2
  ·rw[h2];exact(ha e h1).2.symm
  ·exact ih e h1 f h2 z
def Ap.nd{D:Es}(h:Ap D):(D.map Prod.fst).Nodup:=by
 unfold List.Nodup;rw[cI];exact h.imp λz=>z.1
def Ap.out{D:Es}(h:Ap D)(p:Pl->Bool):Ap (uX D p):=by
 unfold Ap uX;rw[cI];have n:(mF<|D.map Prod.fst).Pairwise (·≠·):=(kB _).nodup_iff.mpr h.nd;refine gG (λ{a b} ha hb z=>?_)<|n.filter _;obtain⟨e,he⟩:=L3<|(kB _).mem_iff.mp (b_.mp ha).1;obtain⟨f,hf⟩:=L3<|(kB _).mem_iff.mp (b_.mp hb).1;obtain⟨m1,e1⟩:=vI he;obtain⟨m2,e2⟩:=vI hf;refine⟨z,?_⟩;rw[he,hf];exact h.at e m1 f m2<|by rw[e1,e2];exact z
structure Fil (T:jM)(d b i j:Nat)(P:Ps)(D:Es):Prop where
 dd:ko T d=some (D.map kv)
 aa:At T D
 ss:sm D=P
 vv:Vl (i * j) b D
 kk:∀e∈D,e.1≠[]
 ll:D.length<=i
 pw:Ap D
def Fil.mono{P:Ps}{D:Es}(h:Fil T d b i j P D)(hi:i<=i'):Fil T d b i' j P D:=⟨h.dd,h.aa,h.ss,h.vv.mono<|b7 _ hi,h.kk,bB h.ll hi,h.pw⟩
def Fil.new(hd:ko S d=some []):Fil S d b 0 j [] []:=⟨hd,(nofun),rfl,(nofun),(nofun),aO _,List.Pairwise.nil⟩
def Fil.yz{P:Ps}{D:Es}(h:Fil S d b i j P D)(k:lA S T):Fil T d b i j P D:=⟨k.dct _ _ (λz=>z) h.dd,h.aa.yz k,h.ss,h.vv,h.kk,h.ll,h.pw⟩
def Fil.add{F:ae->jM->R A}(hF:AR F){T:jM}{r:Nat}{P:Ps}{D:Es}{o:ag}{p:Pl}(h:Fil T d b i j P D)(hr:jK T r=some (pl p))(hp:p.length<=j)(ho:o≠[])(hb:b<=T.length)(hl:i * j+j<16777216)(hi:i<16777216) :
  ∃(D':Es) (T':jM),F [.ref d,.tup<|o.map .int,.ref r] T=.ok .non T'/\Fil T' d b (i+1) j (Ac P o p) D'/\Kp (·=d) T T':=by
 have hl0:=h.ll;obtain⟨L,T',e,h1,h2,h3,h4⟩:=hF (o:=o) h.dd h.aa h.vv hr () ();refine⟨_,T',e,⟨h1,h2,by rw[Q3,h.ss];rfl,?_,λe he=>?_,?_,h.pw.put λe he z=>by have:=oG<|h.aa e he;lia⟩,h4⟩
 ·have:=h.vv.add (o:=o) (p:=p) (j:=j) hp (show b<=L by lia);rw[d7];exact this
 ·rcases uG he with z|z
  ·exact h.kk e z
  ·rw[z];exact ho
 ·have:=Ju (D:=D) (o:=o) (r:=L) (p:=nB (vS (sm D) o) p)
  lia
def Tq{n w:Nat}{P:Ps}{es:Es}{src:Ic}{c:Sm}(G:En->Ps->Ps)(hs:src (x0::x1::.ref d::x3::x4::xs) S=.ok (kY n (es.map ent).length) S1)(hn:jK S1 n=some (es.map ent))(hd:Fil S1 d b i0 j P D0)
  (step:∀(i:Nat) (e:En) (T:jM) (Q:Ps) (D:Es),i<es.length->e∈es->Kp (·=d) S1 T->Fil T d b (i0+w * i) j Q D->∃(D':Es) (T':jM),c (x0::x1::.ref d::.tup (e.1.map .int)::.ref e.2.1::xs) T=.nx (x0::x1::.ref d::.tup (e.1.map .int)::.ref e.2.1::xs) T'/\Fil T' d b (i0+w * (i+1)) j (G e Q) D'/\Kp (·=d) T T') :
  ∃(y3 y4:A) (D:Es) (S':jM),kX src QU c (x0::x1::.ref d::x3::x4::xs) S=.nx (x0::x1::.ref d::y3::y4::xs) S'/\Fil S' d b (i0+w * es.length) j (es.foldl (λQ e=>G e Q) P) D/\Kp (·=d) S1 S':=by
 have hle:(es.map ent).length=es.length:=aG ..;refine p5 (n:=n) (xs:=es.map ent) (S1:=S1) hs (λi τ T=>(∃y3 y4,τ=x0::x1::.ref d::y3::y4::xs)/\(∃D,Fil T d b (i0+w * i) j ((es.take i).foldl (λQ e=>G e Q) P) D)/\Kp (·=d) S1 T)
  (λr=>∃(y3 y4:A) (D:Es) (S':jM),r=.nx (x0::x1::.ref d::y3::y4::xs) S'/\Fil S' d b (i0+w * es.length) j (es.foldl (λQ e=>G e Q) P) D/\Kp (·=d) S1 S') ⟨⟨_,_,rfl⟩,⟨D0,hd⟩,Kp.refl⟩ (λi τ T h=>h.2.2.lst _ _ (cO<|qD hd.dd hn) hn) ?_ ?_
 ·rintro i z τ T hz ⟨⟨y3,y4,rfl⟩,⟨D,f⟩,kp⟩;rw[aV]at hz;obtain⟨e,he,rfl⟩:=aY.mp hz;refine⟨x0::x1::.ref d::.tup (e.1.map .int)::.ref e.2.1::xs,T,rfl,.inl ?_⟩;obtain⟨D',T',e1,f',k'⟩:=step i e T _ D (aK.mp he).1 (aW he) kp f;refine⟨_,T',e1,⟨_,_,rfl⟩,⟨D',?_⟩,kp.trans k'⟩;rw[dB,he,dc];exact f'
 ·rintro τ T ⟨⟨y3,y4,rfl⟩,⟨D,f⟩,kp⟩;rw[hle,c6]at f;exact⟨y3,y4,D,T,rfl,f,kp⟩
def M9(P:Ps)(es:Es):es.foldl (λQ e=>Ac Q e.1 e.2.2) P=adds P (sm es):=by
 unfold adds sm;rw[jE]
def DA(q:Pl)(P:Ps)(es:Es):es.foldl (λQ e=>Ac Q e.1<|times q e.2.2) P=adds P ((sm es).map λe=>(e.1,times q e.2)):=by
 unfold adds sm;rw[jE,jE]
def LH{F:ae->jM->R A}(hF:AR F){S1:jM}{n:Nat}{P:Ps}{es:Es}{src:Ic}(hs:src (x0::x1::.ref d::x3::x4::xs) S=.ok (kY n (es.map ent).length) S1)(hn:jK S1 n=some (es.map ent))(hA:At S1 es)(hd:Fil S1 d b i0 j P D0)(hb:b<=S1.length)
  (hj:∀e∈es,e.2.2.length<=j/\e.1≠[]) (hl:(i0+es.length) * j+j<16777216) (hl':i0+es.length<16777216) :
  ∃(y3 y4:A) (D:Es) (S':jM),kX src QU (p8<|eFn F<|jH (jI 2)<|jH (jI 3)<|jH (jI 4) jR) (x0::x1::.ref d::x3::x4::xs) S=.nx (x0::x1::.ref d::y3::y4::xs) S'/\Fil S' d b (i0+es.length) j (adds P<|sm es) D/\Kp (·=d) S1 S':=by
 have:=Tq (w:=1) (c:=p8<|eFn F<|jH (jI 2)<|jH (jI 3)<|jH (jI 4) jR) (λe Q=>Ac Q e.1 e.2.2) hs hn hd λi e T Q D hi hm kp f=>by
  have hle':=kp.len;rw[fy]at f ⊢;have hmul:(i0+i) * j<=(i0+es.length) * j:=b7 _ ();obtain⟨D',T',e1,f',k'⟩:=f.add hF (o:=e.1) ((hA.Hv kp hd.dd) e hm) (hj e hm).1 (hj e hm).2 () () ();exact⟨D',T',by dsimp[kh,bools,e1],f',k'⟩
 rw[fy,M9]at this;exact this
def xZ{n w:Nat}{P:Ps}{es:Es}{src:Ic}{c:Sm}{g:Tg}(Fm:A->A->ae->ae)(Z:ae->Prop)(G:En->Ps->Ps)(hg:∀(e:En) (y z:A) (xs:ae) (T:jM),g (ent e) (Fm y z xs) T=.ok (Fm (.tup<|e.1.map .int) (.ref e.2.1) xs) T)
  {x3 x4:A} {xs0:ae} (hz:Z xs0) (hs:src (Fm x3 x4 xs0) S=.ok (kY n (es.map ent).length) S1) (hn:jK S1 n=some (es.map ent)) (hd:Fil S1 d b i0 j P D0)
  (step:∀(i:Nat) (e:En) (T:jM) (Q:Ps) (D:Es) (xs:ae),i<es.length->e∈es->Z xs->Kp (·=d) S1 T->Fil T d b (i0+w * i) j Q D->∃(D':Es) (T':jM) (xs':ae),Z xs'/\c (Fm (.tup<|e.1.map .int) (.ref e.2.1) xs) T=.nx (Fm (.tup<|e.1.map .int) (.ref e.2.1) xs') T'/\Fil T' d b (i0+w * (i+1)) j (G e Q) D'/\Kp (·=d) T T') :
  ∃(y3 y4:A) (xs:ae) (D:Es) (S':jM),Z xs/\kX src g c (Fm x3 x4 xs0) S=.nx (Fm y3 y4 xs) S'/\Fil S' d b (i0+w * es.length) j (es.foldl (λQ e=>G e Q) P) D/\Kp (·=d) S1 S':=by
 have hle:(es.map ent).length=es.length:=aG ..;refine p5 (n:=n) (xs:=es.map ent) (S1:=S1) hs (λi τ T=>(∃y3 y4 xs,τ=Fm y3 y4 xs/\Z xs)/\(∃D,Fil T d b (i0+w * i) j ((es.take i).foldl (λQ e=>G e Q) P) D)/\Kp (·=d) S1 T)
  (λr=>∃(y3 y4:A) (xs:ae) (D:Es) (S':jM),Z xs/\r=.nx (Fm y3 y4 xs) S'/\Fil S' d b (i0+w * es.length) j (es.foldl (λQ e=>G e Q) P) D/\Kp (·=d) S1 S') ⟨⟨_,_,_,rfl,hz⟩,⟨D0,hd⟩,Kp.refl⟩ (λi τ T h=>h.2.2.lst _ _ (cO<|qD hd.dd hn) hn) ?_ ?_
 ·rintro i z τ T hz ⟨⟨y3,y4,xs,rfl,hx⟩,⟨D,f⟩,kp⟩;rw[aV]at hz;obtain⟨e,he,rfl⟩:=aY.mp hz;refine⟨Fm (.tup<|e.1.map .int) (.ref e.2.1) xs,T,hg _ _ _ _ _,.inl ?_⟩;obtain⟨D',T',xs',hx',e1,f',k'⟩:=step i e T _ D xs (aK.mp he).1 (aW he) hx kp f;refine⟨_,T',e1,⟨_,_,_,rfl,hx'⟩,⟨D',?_⟩,kp.trans k'⟩;rw[dB,he,dc];exact f'
 ·rintro τ T ⟨⟨y3,y4,xs,rfl,hx⟩,⟨D,f⟩,kp⟩;rw[hle,c6]at f;exact⟨y3,y4,xs,D,T,hx,rfl,f,kp⟩
end Su
namespace Bl
open L2
abbrev cnt:ag->Int->Int
 | [],_=>0
 | x::l,j=>(if j<=x then 1 else 0)+cnt l j
abbrev Below (xs ys:ag):Prop:=∀(i:Nat) (j:Int),cnt (xs.take i) j<=cnt (ys.take i) j
def Below.refl(xs:ag):Below xs xs:=λ_ _=>gr _
def Below.trans{a c:ag}(h:Below a b)(k:Below b c):Below a c:=λi j=>Int.le_trans (h i j)<|k i j
def cnt_append(a b:ag)(j:Int):cnt (a++b) j=cnt a j+cnt b j:=by
 induction a with
 | nil=>simp[cnt]
 | cons x a ih=>rw[jl,cnt,cnt,ih];lia
def IP(l:ag)(j:Int):0<=cnt l j:=by
 induction l with
 | nil=>exact gr 0
 | cons x l ih=>rw[cnt];split<;>lia
def YJ(l:ag)(j:Int):cnt l j<=l.length:=by
 induction l with
 | nil=>exact gr 0
 | cons x l ih=>rw[cnt,bz];split<;>lia
def GF{a:ag}(p:a.Perm b)(j:Int):cnt a j=cnt b j:=by
 induction p with
 | nil=>rfl
 | cons x _ ih=>rw[cnt,cnt,ih]
 | swap x y l=>rw[cnt,cnt,cnt,cnt];lia
 | trans _ _ h1 h2=>exact h1.trans h2
def take_snoc{l:ag}{i:Nat}(h:i<l.length):l.take (i+1)=l.take i++[l[i]]:=by
 rw[List.take_succ,aF h];rfl
def mh{l:ag}{i:Nat}(h:i<l.length)(j:Int):cnt (l.take<|i+1) j=cnt (l.take i) j+(if j<=l[i]then 1 else 0):=by
 rw[take_snoc h,cnt_append,cnt,cnt];lia
def Below.antisymm{a b:ag}(hl:a.length=b.length)(h:Below a b)(k:Below b a):a=b:=by
 apply gv hl;intro i h1 h2;have e:∀(i:Nat) (j:Int),cnt (a.take i) j=cnt (b.take i) j:=λi j=>jy (h i j)<|k i j;have q:∀j:Int,(if j<=a[i]then(1:Int)else 0)=(if j<=b[i]then 1 else 0):=λj=>by
  have:=e (i+1) j;rw[mh h1,mh h2,e i j]at this
  lia
 have qa:=q a[i];have qb:=q b[i];rw[aL<|gr _]at qa qb;by_cases z:a[i]<=b[i]
 ·by_cases z2:b[i]<=a[i]
  ·lia
  ·rw[aJ z2]at qb;lia
 ·rw[aJ z]at qa;lia
def A2{l:ag}{p:Nat}(h:p<l.length)(v:Int)(i:Nat)(j:Int) :
  cnt ((l.set p v).take i) j=cnt (l.take i) j+(if p<i then(if j<=v then 1 else 0)-(if j<=l[p]then 1 else 0)else 0):=by
 induction l generalizing p i with
 | nil=>cases h
 | cons x l ih=>
  cases i with
  | zero=>simp[cnt]
  | succ i=>
   cases p with
   | zero=>
    show(if j<=v then 1 else 0)+cnt (l.take i) j=(if j<=x then 1 else 0)+cnt (l.take i) j+_;rw[aL<|Nat.succ_pos _];show _=(if j<=x then 1 else 0)+cnt (l.take i) j+((if j<=v then 1 else 0)-(if j<=x then 1 else 0))
    lia
   | succ p=>
    show(if j<=x then 1 else 0)+cnt ((l.set p v).take i) j=(if j<=x then 1 else 0)+cnt (l.take i) j+_;have hp:p<l.length:=ig h;rw[ih hp];by_cases z:p<i
    ·rw[aL z,aL<|Nat.succ_lt_succ z];show _=(if j<=x then 1 else 0)+cnt (l.take i) j+((if j<=v then 1 else 0)-(if j<=l[p]then 1 else 0))
     lia
    ·rw[aJ z,aJ λy=>z<|ig y]
     lia
def zP{l:ag}{p q:Nat}(hp:p<l.length)(hq:q<l.length)(hpq:p<q)(h:l[p]<l[q]):Below l ((l.set p l[q]).set q l[p]):=by
 intro i j;have hq':q<(l.set p l[q]).length:=by rw[bZ];exact hq
 rw[A2 hq',A2 hp];have e:(l.set p l[q])[q]=l[q]:=by rw[List.getElem_set_ne<|bC hpq]
 rw[e]
 (repeat' split)<;>lia
abbrev qo (a b:ag):Prop:=a.length=b.length/\∀(p:Nat) (h:p<a.length),b[(a[p]-1).toNat]?=some ((p:Int)+1)
end Bl
namespace Wd
open Bl L2
abbrev ex (l:ag)(k:Nat):ag:=(l.set (k-1)<|l.getD k 0).set k<|l.getD (k-1) 0
abbrev led (l:ag)(w:am):ag:=w.foldl ex l
def ku{l:ag}{k:Nat}(h:k<l.length):l.getD k 0=l[k]:=by rw[aI,aF h];rfl
def zX{l:ag}{k:Nat}(h0:1<=k)(h:k<l.length):ex l k=(l.set (k-1) l[k]).set k (l[k-1]'()):=by
 unfold ex;rw[ku h,ku<|show k-1<l.length by lia]
def lI(l:ag)(k:Nat):(ex l k).length=l.length:=by unfold ex;rw[bZ,bZ]
theorem EJ:∀(w:am) (l:ag),(led l w).length=l.length
 | [],_=>rfl
 | k::w,l=>by show(led (ex l k) w).length=_;rw[EJ w,lI]
def D_{l:ag}{k:Nat}(h0:1<=k)(h:k<l.length):(ex l k).Perm l:=by
 rw[zX h0 h];exact List.set_set_perm () h
def wo(a b:am)(l:ag):led l (a++b)=led (led l a) b:=dc
def yM{l:ag}{k:Nat}(h0:1<=k)(h:k<l.length)(i:Nat)(j:Int) :
  cnt ((ex l k).take i) j=cnt (l.take i) j+(if i=k then(if j<=l[k]then 1 else 0)-(if j<=l[k-1]'()then 1 else 0)else 0):=by
 rw[zX h0 h];have hq':k<(l.set (k-1) l[k]).length:=by rw[bZ];exact h
 rw[A2 hq',A2<|show k-1<l.length by lia];have e:(l.set (k-1) l[k])[k]=l[k]:=by rw[List.getElem_set_ne ()]
 rw[e];by_cases h1:i=k
 ·rw[aL h1,aL<|show k-1<i by lia,aJ<|show ¬k<i by lia];lia
 ·by_cases h2:k<i
  ·rw[aJ h1,aL<|show k-1<i by lia,aL h2];lia
  ·rw[aJ h1,aJ<|show ¬k-1<i by lia,aJ h2];lia
def up{l:ag}{k:Nat}(h0:1<=k)(h:k<l.length)(hr:l[k-1]'()<l[k]):Below l (ex l k):=by
 rw[zX h0 h];exact zP () h () hr
def lift{u w:ag}{k:Nat}(hl:u.length=w.length)(h0:1<=k)(h:k<w.length)(hr:w[k-1]'()<w[k])(hb:Below u w):Below (ex u k) (ex w k):=by
 have hu:k<u.length:=()
 intro i j;rw[yM h0 hu,yM h0 h];by_cases hi:i=k
 ·subst hi;rw[aL rfl,aL rfl];have b1:=hb (i-1) j;have b2:=hb i j;have b3:=hb (i+1) j;have c1:=mh (l:=u) (i:=i-1) () j;have c2:=mh (l:=w) (i:=i-1) () j;have c3:=mh (l:=u) (i:=i) hu j;have c4:=mh (l:=w) (i:=i) h j;rw[show i-1+1=i by lia]at c1 c2;rw[c3,c4]at b3;rw[c1,c2]at b2 b3;rw[c1,c2];revert b1 b2 b3
  (repeat' split)<;>intros<;>lia
 ·rw[aJ hi,aJ hi];have:=hb i j
  lia
abbrev j6:ag->am->Prop
 | _,[]=>True
 | l,k::w=>1<=k/\k<l.length/\l.getD (k-1) 0<l.getD k 0/\j6 (ex l k) w
theorem j6.snoc:∀{w:am}{l:ag}{k:Nat},j6 l w->1<=k->k<l.length->(led l w).getD (k-1) 0<(led l w).getD k 0->j6 l (w++[k])
 | [],l,k,_,h0,h1,h2=>⟨h0,h1,h2,trivial⟩
 | m::w,l,k,h,h0,h1,h2=>⟨h.1,h.2.1,h.2.2.1,j6.snoc h.2.2.2 h0 (by rw[lI];exact h1) h2⟩
theorem j6.valid:∀{w:am}{l:ag},j6 l w->∀k∈w,1<=k/\k<l.length
 | [],_,_,k,hk=>by cases hk
 | m::w,l,h,k,hk=>by
  rcases bu.mp hk with z|z
  ·rw[z];exact⟨h.1,h.2.1⟩
  ·have:=j6.valid h.2.2.2 k z;rw[lI]at this;exact this
abbrev sw (k:Nat)(x:Int):Int:=if x=k then(k:Int)+1 else if x=(k:Int)+1 then k else x
def ex_map(f:Int->Int){l:ag}{k:Nat}(h0:1<=k)(h:k<l.length):ex (l.map f) k=(ex l k).map f:=by
 rw[zX h0 h,zX h0<|by rw[aG];exact h,iU,iU,cZ,cZ]
theorem J6(f:Int->Int):∀{w:am}{l:ag},(∀k∈w,1<=k/\k<l.length)->led (l.map f) w=(led l w).map f
 | [],_,_=>rfl
 | k::w,l,h=>by
  have hk:=h k<|aM ..;show led (ex (l.map f) k) w=(led (ex l k) w).map f;rw[ex_map f hk.1 hk.2,J6 f λm hm=>by rw[lI];exact h m<|aN _ hm]
def qL{n p:Nat}(h:p<n):(kK 1<|(n:Int)+1)[p]?=some ((p:Int)+1):=by
 unfold kK;rw[aV,dS ()];simp;lia
def jZ(n:Nat):(kK 1<|(n:Int)+1).length=n:=by rw[oZ];lia
def o6{l:ag}{k:Nat}(h0:1<=k)(h:k<l.length)(p:Nat):(ex l k)[p]?=if p=k then l[k-1]? else if p=k-1 then l[k]? else l[p]?:=by
 rw[zX h0 h,List.getElem?_set];by_cases h1:k=p
 ·rw[aL h1,aL h1.symm,aL<|by rw[bZ];lia,aF]
 ·rw[aJ h1,aJ λz=>h1 z.symm,List.getElem?_set];by_cases h2:k-1=p
  ·rw[aL h2,aL h2.symm,aL (),aF]
  ·rw[aJ h2,aJ λz=>h2 z.symm]
def O0{n k:Nat}(h0:1<=k)(h:k<n):ex (kK 1<|(n:Int)+1) k=(kK 1<|(n:Int)+1).map (sw k):=by
 apply cW;intro p;rw[o6 h0<|by rw[jZ];exact h,aV];by_cases hp:p<n
 ·rw[qL hp,qL h,qL<|show k-1<n by lia];show _=some (sw k<|(p:Int)+1);unfold sw;by_cases h1:p=k
  ·rw[aL h1,aJ (),aL ()];congr 1;lia
  ·rw[aJ h1];by_cases h2:p=k-1
   ·rw[aL h2,aL ()]
   ·rw[aJ h2,aJ (),aJ ()]
 ·have e:(kK 1<|(n:Int)+1)[p]?=none:=b8 (by rw[jZ];lia);rw[aJ (),aJ (),e];rfl
def C_{A B:ag}{k:Nat}(h0:1<=k)(h:k<A.length)(hb:qo A B):qo (ex A k) (B.map<|sw k):=by
 refine⟨by rw[lI,aG];exact hb.1,λp hp=>?_⟩;rw[lI]at hp;have hg:(ex A k)[p]'(by rw[lI];exact hp)=if p=k then A[k-1]'()else if p=k-1 then A[k]else A[p]:=by
  have:=o6 h0 h p;rw[aF<|by rw[lI];exact hp]at this;by_cases h1:p=k
  ·rw[aL h1,aF<|show k-1<A.length by lia]at this;rw[aL h1];exact bh this
  ·rw[aJ h1]at this;rw[aJ h1];by_cases h2:p=k-1
   ·rw[aL h2,aF h]at this;rw[aL h2];exact bh this
   ·rw[aJ h2,aF hp]at this;rw[aJ h2];exact bh this
 rw[hg,aV];by_cases h1:p=k
 ·rw[aL h1,hb.2 (k-1) ()];show some (sw k _)=_;unfold sw;rw[aL ()];congr 1;lia
 ·rw[aJ h1];by_cases h2:p=k-1
  ·rw[aL h2,hb.2 k h];show some (sw k _)=_;unfold sw;rw[aJ (),aL ()];congr 1;lia
  ·rw[aJ h2,hb.2 p hp];show some (sw k _)=_;unfold sw;rw[aJ (),aJ ()]
theorem m5{n:Nat}:∀(w:am),(∀k∈w,1<=k/\k<n)->qo (led (kK 1<|(n:Int)+1) w.reverse) (led (kK 1<|(n:Int)+1) w)
 | [],_=>⟨rfl,λp hp=>by
  have hp:p<n:=by rw[show([]:am).reverse=[]from rfl]at hp;have:p<(kK 1<|(n:Int)+1).length:=hp;rw[jZ]at this;exact this
  have e:(kK 1<|(n:Int)+1)[p]'(by rw[jZ];exact hp)=(p:Int)+1:=by
   have:=qL hp;rw[aF<|by rw[jZ];exact hp]at this;exact bh this
  show(kK 1<|(n:Int)+1)[(((kK 1<|(n:Int)+1)[p]'(by rw[jZ];exact hp))-1).toNat]?=_;rw[e,show((p:Int)+1-1).toNat=p by lia];exact qL hp⟩
 | k::w,h=>by
  have hk:=h k<|aM ..;have hw:=λm hm=>h m<|aN k hm;have ih:=m5 w hw;rw[f_,wo];show qo (ex (led (kK 1<|(n:Int)+1) w.reverse) k) (led (ex (kK 1<|(n:Int)+1) k) w);rw[O0 hk.1 hk.2,J6 (sw k) λm hm=>by rw[jZ];exact hw m hm];exact C_ hk.1 (by rw[EJ,jZ];exact hk.2) ih
end Wd
namespace Iv
open L2 Bl
abbrev inv:ag->Nat
 | []=>0
 | x::l=>l.countP (λy=>decide<|y<x)+inv l
abbrev oV (a b:ag):Nat:=(a.map λx=>b.countP λy=>decide<|y<x).sum
def xF(x:Int)(a b:ag):oV (x::a) b=b.countP (λy=>decide<|y<x)+oV a b:=rfl
theorem mQ:∀(a b:ag),inv (a++b)=inv a+inv b+oV a b
 | [],b=>by show inv b=0+inv b+0;lia
 | x::a,b=>by
  show(a++b).countP _+inv (a++b)=(a.countP _+inv a)+inv b+oV (x::a) b;rw[List.countP_append,mQ a b,xF];lia
theorem xR:∀{a b:am},a.Perm b->a.sum=b.sum
 | _,_,.nil=>rfl
 | _,_,.cons x h=>by rw[gH,gH,xR h]
 | _,_,.swap x y l=>by rw[gH,gH,gH,gH];lia
 | _,_,.trans h k=>(xR h).trans<|xR k
def Ul{a:ag}(b:ag)(h:a.Perm a'):oV a b=oV a' b:=xR<|h.map _
def TL(a:ag){b:ag}(h:b.Perm b'):oV a b=oV a b':=by
 unfold oV;congr 1;refine cQ λx _=>h.countP_eq _
def Fc{M:ag}{x y:Int}(h:∀m∈M,m<x\/y<m)(hxy:x<y):M.countP (λm=>decide<|m<x)=M.countP (λm=>decide<|m<y):=by
 refine List.countP_congr λm hm=>?_;rw[i6,i6]
 rcases h m hm with z|z<;>omega
theorem zN:∀{M:ag}{x y:Int},(∀m∈M,m<x\/y<m)->x<y->oV M [x]=oV M [y]
 | [],_,_,_,_=>rfl
 | m::M,x,y,h,hxy=>by
  rw[xF,xF,zN (λm' hm=>h m'<|aN _ hm) hxy];congr 1;have:=h m<|aM ..;dsimp[jn,List.countP_nil];by_cases c:x<m
  ·rw[bg c,bg<|show y<m by omega]
  ·rw[bH c,bH<|show ¬y<m by omega]
def mid{M:ag}{x y:Int}(h:∀m∈M,m<x\/y<m)(hxy:x<y):inv ([y]++M++[x])=inv ([x]++M++[y])+1:=by
 rw[mQ,mQ,mQ<|[x]++M,mQ [x]];have e1:oV [y] M=oV [x] M:=by
  show M.countP _+0=M.countP _+0;rw[Fc h hxy]
 have e2:oV ([y]++M) [x]=1+oV M [x]:=by
  show[x].countP _+oV M [x]=_;rw[jn,bg hxy];rfl
 have e3:oV ([x]++M) [y]=oV M [y]:=by
  show[y].countP _+oV M [y]=_;rw[jn,bH (by lia:¬y<x)];simp
 rw[e1,e2,e3,zN h hxy]
 skip
 lia
def NN(M:ag)(x y:Int):([y]++M++[x]).Perm ([x]++M++[y]):=by
 refine(List.perm_append_comm (l₁:=[y]++M) (l₂:=[x])).trans ?_
 skip
 exact .cons x<|List.perm_append_comm (l₁:=[y]) (l₂:=M)
def step{P M R:ag}{x y:Int}(h:∀m∈M,m<x\/y<m)(hxy:x<y):inv (P++([y]++M++[x])++R)=inv (P++([x]++M++[y])++R)+1:=by
 have p:=NN M x y;rw[mQ,mQ P,mQ<|P++([x]++M++[y]),mQ P,mid h hxy,TL P p,Ul R<|p.append_left P]
 lia
theorem BH:∀(l:ag),inv l<=l.length * l.length
 | []=>aO _
 | x::l=>by
  show l.countP _+inv l<=(l.length+1) * (l.length+1);have h1:=List.countP_le_length (p:=λy=>decide<|y<x) (l:=l);have h2:=BH l;rw[jb,Nat.mul_add]
  lia
abbrev sw (a:ag)(i j:Nat):ag:=(a.set i<|a.getD j 0).set j<|a.getD i 0
def HE(a:ag)(i j:Nat):(sw a i j).length=a.length:=by unfold sw;rw[bZ,bZ]
def split{a:ag}(hij:i<j)(hj:j<a.length):∃P M R:ag,a=P++([a.getD i 0]++M++[a.getD j 0])++R/\P=a.take i/\(∀m∈M,∃k,i<k/\k<j/\a[k]?=some m)/\sw a i j=P++([a.getD j 0]++M++[a.getD i 0])++R:=by
 have gi:a.getD i 0=a[i]:=by rw[aI,aF ()];rfl
 have gj:a.getD j 0=a[j]:=by rw[aI,aF hj];rfl
 obtain⟨M,hM⟩:∃M,M=(a.drop<|i+1).take (j-i-1):=⟨_,rfl⟩;have lM:M.length=j-i-1:=by rw[hM,bI,cT];lia
 have ea:a=a.take i++([a.getD i 0]++M++[a.getD j 0])++a.drop (j+1):=by
  have h1:a.drop i=a[i]::a.drop (i+1):=di ();have h2:a.drop (i+1)=M++a.drop j:=by
   rw[hM];have:=eX (j-i-1)<|a.drop<|i+1;rw[List.drop_drop,show i+1+(j-i-1)=j by lia]at this;exact this.symm
  have h3:a.drop j=a[j]::a.drop (j+1):=di hj
  conv=>lhs;rw[<- eX i a,h1,h2,h3]
  rw[gi,gj];simp
 refine⟨a.take i,M,a.drop<|j+1,ea,rfl,λm hm=>?_,?_⟩
 ·rw[hM]at hm;obtain⟨k,hk⟩:=gg hm;have hlt:k<j-i-1:=by
   have:=(aK.mp hk).1;rw[bI]at this;lia
  rw[gB hlt,gK]at hk;exact⟨i+1+k,(),(),hk⟩
 ·have key:∀(P R:ag) (x y x' y':Int),P.length=i->((P++([x]++M++[y])++R).set i y').set j x'=P++([y']++M++[x'])++R:=λP R x y x' y' lP=>by
   rw[ck,f9 _ _ (),lP,gZ];show(P++(y'::((M++[y])++R))).set j x'=_;rw[f9 _ _ (),lP,show j-i=(j-i-1)+1 by lia,List.set_cons_succ,ck,f9 _ _ (),lM,gZ];simp
  have:=key (a.take i) (a.drop<|j+1) (a.getD i 0) (a.getD j 0) (a.getD i 0) (a.getD j 0) (by rw[bI];lia);rw[<- ea]at this;exact this
def abf{a:ag}{i:Nat}(h:i<a.length):a[i]?=some (a.getD i 0):=by rw[aI,aF h];rfl
end Iv
namespace Fw
open PySem L2 Bl
open Wd (ex led)
meta abbrev rg (n:Nat):ag:=kK 1<|(n:Int)+1
def sq{l:ag}{k:Nat}(h0:1<=k)(h:k<l.length):ex (ex l k) k=l:=by
 apply cW;intro p;have h':k<(ex l k).length:=by rw[Wd.lI];exact h
 rw[Wd.o6 h0 h',Wd.o6 h0 h,Wd.o6 h0 h,Wd.o6 h0 h];by_cases c3:p=k
 ·rw[aL c3,aJ (),aL rfl,c3]
 ·rw[aJ c3];by_cases c2:p=k-1
  ·rw[aL c2,aL rfl,c2]
  ·rw[aJ c2,aJ c3,aJ c2]
def L1{l:ag}{k:Nat}(h0:1<=k)(h:k<l.length):(ex l k).getD k 0=l.getD (k-1) 0:=by
 rw[aI,Wd.o6 h0 h,aL rfl,aI]
def Lc{l:ag}{k:Nat}(h0:1<=k)(h:k<l.length):(ex l k).getD (k-1) 0=l.getD k 0:=by
 rw[aI,Wd.o6 h0 h,aJ (),aL rfl,aI]
def Bv{l:ag}{k:Nat}(h0:1<=k)(h:k<l.length)(hr:l.getD (k-1) 0<l.getD k 0):Iv.inv (ex l k)=Iv.inv l+1:=by
 obtain⟨P,M,R,e,_,hM,es⟩:=Iv.split (a:=l) (i:=k-1) (j:=k) () h;have:=Iv.step (P:=P) (M:=M) (R:=R) (x:=l.getD (k-1) 0) (y:=l.getD k 0) (λm hm=>by obtain⟨_,_,_,_⟩:=hM m hm;lia) hr;rw[<- es,<- e]at this;exact this
def qz{l:ag}{k:Nat}(h0:1<=k)(h:k<l.length)(hr:l.getD k 0<l.getD (k-1) 0):Iv.inv l=Iv.inv (ex l k)+1:=by
 have:=Bv (l:=ex l k) h0 (by rw[Wd.lI];exact h) (by rw[L1 h0 h,Lc h0 h];exact hr);rw[sq h0 h]at this;exact this
abbrev Va (n:Nat)(w:am):Prop:=∀k∈w,1<=k/\k<n
def Va.tail{n k:Nat}{w:am}(h:Va n (k::w)):Va n w:=λj hj=>h j<|aN _ hj
def Va.head{n k:Nat}{w:am}(h:Va n (k::w)):1<=k/\k<n:=h k<|aM ..
theorem A3:∀{w:am}{l:ag},Va l.length w->led (led l w) w.reverse=l
 | [],l,_=>rfl
 | k::w,l,h=>by
  rw[f_,Wd.wo];show led (led (led (ex l k) w) w.reverse) [k]=l;rw[A3 (w:=w) (l:=ex l k)<|by rw[Wd.lI];exact h.tail];exact sq h.head.1 h.head.2
theorem DZ:∀{l:ag},l.Pairwise (·<=·)->Iv.inv l=0
 | [],_=>rfl
 | x::l,h=>by
  show l.countP (λy=>decide<|y<x)+Iv.inv l=0;rw[DZ (bQ.mp h).2,List.countP_eq_zero.mpr λa ha z=>by have:=bO z;have:=(bQ.mp h).1 a ha;lia]
def vO(n:Nat):Iv.inv (rg n)=0:=DZ<|ED _ _
abbrev yY (l:ag)(k:Nat):Prop:=1<=k/\k<l.length/\l.getD k 0<l.getD (k-1) 0
def Qa{l:ag}(h:∀k,¬yY l k):l.Pairwise (·<=·):=by
 have key:∀d i,i+d<l.length->l.getD i 0<=l.getD (i+d) 0:=by
  intro d
  induction d with
  | zero=>intro i _;exact gr _
  | succ d ih=>
   intro i hi;have h1:=ih i ();have h2:¬l.getD (i+d+1) 0<l.getD (i+d) 0:=λz=>h (i+d+1) ⟨(),hi,z⟩;rw[<- iF];lia
 rw[cA];intro i j hi hj hij;have:=key (j-i) i ();rw[show i+(j-i)=j by lia,Wd.ku hi,Wd.ku hj]at this;exact this
def GW{l:ag}{n:Nat}(p:l.Perm<|rg n)(h:∀k,¬yY l k):l=rg n:=
 d8 (λx y _ _ h1 h2=>jy h1 h2) (Qa h) (ED _ _) p
def Um{l:ag}(h:0<Iv.inv l):∃k,yY l k:=by
 refine dj λz=>?_;rw[DZ<|Qa λk hk=>z ⟨k,hk⟩]at h;exact absurd h<|fY _
abbrev Dn:ag->am->Prop
 | l,[]=>∀k,¬yY l k
 | l,k::ks=>(yY l k/\∀j,yY l j->k<=j)/\Dn (ex l k) ks
def mX{l:ag}{n k:Nat}(p:l.Perm<|rg n)(h0:1<=k)(h:k<l.length):(ex l k).Perm (rg n):=(Wd.D_ h0 h).trans p
def Dn.len:∀{ks:am}{l:ag},Dn l ks->ks.length=Iv.inv l
 | [],l,h=>(DZ<|Qa h).symm
 | k::ks,l,h=>by
  have:=h.2.len;rw[qz h.1.1.1 h.1.1.2.1 h.1.1.2.2,bz];lia
def Dn.va:∀{ks:am}{l:ag},Dn l ks->Va l.length ks
 | [],l,_=>λk hk=>absurd hk (by simp)
 | k::ks,l,h=>λj hj=>by
  rcases bu.mp hj with rfl|z
  ·exact⟨h.1.1.1,h.1.1.2.1⟩
  ·have:=h.2.va j z
   rwa [Wd.lI]at this
theorem Dn.led:∀{ks:am}{l:ag}{n:Nat},Dn l ks->l.Perm (rg n)->led l ks=rg n
 | [],l,n,h,p=>GW p h
 | k::ks,l,n,h,p=>Dn.led (ks:=ks) h.2<|mX p h.1.1.1 h.1.1.2.1
theorem F3:∀(m:Nat) (l:ag),Iv.inv l<=m->∃ks,Dn l ks
 | 0,l,h=>⟨[],λk hk=>by have:=qz hk.1 hk.2.1 hk.2.2;lia⟩
 | m+1,l,h=>by
  by_cases c:∃k,yY l k
  ·obtain⟨k,hk,hmin⟩:∃k,yY l k/\∀j,yY l j->k<=j:=by
    obtain⟨k,hk⟩:=c
    induction k using Nat.strongRecOn with
    | ind k ih=>
     by_cases z:∃j,yY l j/\j<k
     ·obtain⟨j,hj,hlt⟩:=z;exact ih j hlt hj
     ·exact⟨k,hk,λj hj=>iB λy=>z ⟨j,hj,y⟩⟩
   have:=qz hk.1 hk.2.1 hk.2.2;obtain⟨ks,hks⟩:=F3 m (ex l k) ();exact⟨k::ks,⟨hk,hmin⟩,hks⟩
  ·exact⟨[],λk hk=>c ⟨k,hk⟩⟩
def Ut{l:ag}{n k:Nat}(p:l.Perm<|rg n)(h0:1<=k)(h:k<l.length):l.getD (k-1) 0≠l.getD k 0:=λz=>by
 have nd:l.Nodup:=p.nodup_iff.mpr<|oz _ _;rw[Wd.ku h,Wd.ku<|show k-1<l.length by lia]at z;have:=(dJ nd).mp z
 lia
def Nf{a c:ag}{n:Nat}(pa:a.Perm<|rg n)(h1:qo a b)(h2:qo b c):a=c:=by
 have l1:=h1.1;have l2:=h2.1;refine gv () λq hq hq'=>?_;have e1:=h1.2 q hq;have hm:=(nU.mp<|pa.mem_iff.mp<|eL hq);obtain⟨hb,eb⟩:=aK.mp e1;have e2:=h2.2 _ hb;rw[eb,show((q:Int)+1-1).toNat=q by lia,aF hq']at e2;have:=bh e2
 lia
structure Two (n:Nat)(o u:ag):Prop where
 po:o.Perm (rg n)
 pu:u.Perm (rg n)
 ou:qo o u
def Two.lu{n:Nat}{u:ag}(t:Two n o u):u.length=n:=by rw[t.pu.length_eq,Wd.jZ]
def Two.lo{n:Nat}{o:ag}(t:Two n o u):o.length=n:=by rw[t.po.length_eq,Wd.jZ]
def Two.led{n:Nat}(t:Two n o u)(h:Dn u ks):Wd.led (rg n) ks=o:=by
 have v:Va n ks:=by have:=h.va;rwa [t.lu]at this
 have e:=h.led t.pu;have e2:u=Wd.led (rg n) ks.reverse:=by rw[<- e,A3<|by rw[t.lu];exact v]
 have b:=Wd.m5 ks v;rw[<- show u=Wd.led (kK 1<|(n:Int)+1) ks.reverse from e2]at b;exact(Nf t.po t.ou b).symm
def Two.uo{n:Nat}(t:Two n o u):qo u o:=by
 obtain⟨ks,h⟩:=F3 _ u<|aO _;have v:Va n ks:=by have:=h.va;rwa [t.lu]at this
 have e:=h.led t.pu;have e2:u=Wd.led (rg n) ks.reverse:=by rw[<- e,A3<|by rw[t.lu];exact v]
 have b:=Wd.m5 ks v;rw[<- show u=Wd.led (kK 1<|(n:Int)+1) ks.reverse from e2,show Wd.led (kK 1<|(n:Int)+1) ks=o from t.led h]at b;exact b
def Two.flip{n:Nat}(t:Two n o u):Two n u o:=⟨t.pu,t.po,t.uo⟩
def Two.step{n k:Nat}{o:ag}(t:Two n o u)(h0:1<=k)(h:k<n):Two n (o.map<|Wd.sw k) (ex u k):=by
 have lu:=t.lu;have b:=Wd.C_ h0 () t.uo;have p1:=mX t.pu h0 ();have p2:(o.map<|Wd.sw k).Perm (rg n):=(t.po.map _).trans (by rw[<- Wd.O0 h0 h];exact Wd.D_ h0<|by rw[Wd.jZ];exact h);exact(Two.mk p1 p2 b).flip
end Fw
namespace Su
open Am Po PySem L2
abbrev cS (l:Ps)(o:ag)(t:Int):Int:=match l with
 | []=>0
 | e::l=>(if e.1=o then cf e.2 t else 0)+cS l o t
def Bm(a b:Ps)(o:ag)(t:Int):cS (a++b) o t=cS a o t+cS b o t:=by
 induction a with
 | nil=>exact(dI _).symm
 | cons e a ih=>
  show _+cS (a++b) o t=_+_+_;rw[ih,iG]
def Jc(a b:Pl)(k:Int):cf (a++b) k=cf a k+cf b k:=by
 induction a with
 | nil=>exact(dI _).symm
 | cons p a ih=>
  show _+cf (a++b) k=_+_+_;rw[ih,iG]
def NJ(a b:Pl)(k:Int):cf (nB a b) k=cf a k+cf b k:=by
 unfold nB;rw[Ek<|wF _ (d:=[]) d9,yc,Jc];show 0+_=_;rw[dI]
def xP(a b:Pl)(k:Int):cf (times a b) k=cf (BC a b) k:=by
 unfold times;rw[Ek<|wF _ (d:=[]) d9,yc];show 0+_=_;rw[dI]
theorem Kh(s:Int):∀(b:Pl) (k c:Int),cf (b.map λq=>(c+q.1,s * q.2)) k=s * cf b (k-c)
 | [],k,c=>(jv s).symm
 | q::b,k,c=>by
  show(if c+q.1=k then s * q.2 else 0)+cf (b.map λq=>(c+q.1,s * q.2)) k=s * ((if q.1=k-c then q.2 else 0)+cf b (k-c));rw[Kh s b k c,Int.mul_add];by_cases h:c+q.1=k
  ·rw[aL h,aL ()]
  ·rw[aJ h,aJ (),jv]
meta abbrev AF:Pl:=[((-1:Int),(1:Int)),((1:Int),(-1:Int))]
def ZG(b:Pl)(k:Int):cf (times AF b) k=cf b (k+1)-cf b (k-1):=by
 rw[xP];show cf ((b.map λq=>((-1:Int)+q.1,(1:Int) * q.2))++((b.map λq=>((1:Int)+q.1,(-1:Int) * q.2))++[])) k=_;rw[cG,Jc,Kh,Kh,Int.one_mul,show k - -1=k+1 by lia]
 lia
def WS{D:Ps}{p:Pl}:vS (BX D o p) o'=if o'=o then p else vS D o':=by
 have cons:∀(e:ag×Pl) (D:Ps) (x:ag),vS (e::D) x=if e.1=x then e.2 else vS D x:=λe D x=>by
  unfold vS;rw[cR];by_cases h:e.1=x
  ·rw[bg h,aL h];rfl
  ·rw[bH h,aJ h]
 unfold BX
 cases h:hS D o with
 | true=>
  rw[aL rfl]
  induction D with
  | nil=>cases h
  | cons e D ih=>
   rw[bJ,cons,cons];have hc:hS (e::D) o=(decide (e.1=o) || hS D o):=rfl;rw[hc]at h;by_cases c:e.1=o
   ·rw[aL c]
    skip
    by_cases c2:o'=o
    ·rw[aL<|c.trans c2.symm,aL c2]
    ·rw[aJ λz=>c2<|z.symm.trans c,aJ c2,aJ λz=>c2<|z.symm.trans c];clear ih h hc
     induction D with
     | nil=>rfl
     | cons f D ih2=>
      rw[bJ,cons,cons,ih2];by_cases c3:f.1=o
      ·rw[aL c3]
       skip
       rw[aJ λz=>c2<|z.symm.trans c3,aJ λz=>c2<|z.symm.trans c3]
      ·rw[aJ c3]
   ·rw[aJ c];rw[bH c,gD]at h;rw[ih h];by_cases c2:e.1=o'
    ·rw[aL c2,aJ λz=>c<|c2.trans z,aL c2]
    ·rw[aJ c2,aJ c2]
 | false=>
  rw[aJ<|by simp]
  induction D with
  | nil=>
   show vS [(o,p)] o'=_;rw[cons];by_cases c:o=o'
   ·rw[aL c,aL c.symm]
   ·rw[aJ c,aJ λz=>c z.symm]
  | cons e D ih=>
   have hc:hS (e::D) o=(decide (e.1=o) || hS D o):=rfl;rw[hc,iK]at h;rw[jl,cons,cons,ih h.2];have:=dY h.1;by_cases c:e.1=o'
   ·rw[aL c,aL c,aJ λz=>this<|c.trans z]
   ·rw[aJ c,aJ c]
def QK(l:Ps):∀(D:Ps) (o:ag) (t:Int),cf (vS (adds D l) o) t=cf (vS D o) t+cS l o t:=by
 induction l with
 | nil=>intro D o t;exact(dH _).symm
 | cons e l ih=>
  intro D o t;show cf (vS (adds (Ac D e.1 e.2) l) o) t=_+((if e.1=o then cf e.2 t else 0)+cS l o t);rw[ih];unfold Ac;rw[WS];by_cases h:o=e.1
  ·rw[aL h,aL h.symm,NJ,h,iG]
  ·rw[aJ h,aJ λz=>h z.symm,dI]
structure Gd (D:Ps):Prop where
 nd:(D.map Prod.fst).Nodup
 ok:∀e∈D,Ok e.2
def Xa{D:Ps}{o:ag}:hS D o=true ↔ o∈D.map Prod.fst:=by
 unfold hS;rw[gw,br];constructor
 ·rintro⟨p,h1,h2⟩;exact⟨p,h1,bO h2⟩
 ·rintro⟨p,h1,h2⟩;exact⟨p,h1,bg h2⟩
def MU{D:Ps}{o:ag}{p:Pl}:(BX D o p).map Prod.fst=if hS D o=true then D.map Prod.fst else D.map Prod.fst++[o]:=by
 unfold BX;split
 ·rw[bD];apply cQ;intro e _;show(if e.1=o then(e.1,p)else e).1=e.1;split<;>rfl
 ·rw[bN];rfl
def Gd.put{D:Ps}{p:Pl}(h:Gd D)(hp:Ok p):Gd (BX D o p):=by
 refine⟨?_,λe he=>?_⟩
 ·rw[MU];split
  ·exact h.nd
  ·rename_i c;rw[dz];refine⟨h.nd,cu _ _,λa ha b hb z=>c ?_⟩;rw[aP]at hb;rw[Xa,<- hb,<- z];exact ha
 ·unfold BX at he;split at he
  ·obtain⟨f,hf,rfl⟩:=br.mp he;split
   ·exact hp
   ·exact h.ok f hf
  ·rcases bE.mp he with z|z
   ·exact h.ok e z
   ·rw[aP.mp z];exact hp
theorem Gd.adds(l:Ps):∀{D:Ps},Gd D->Gd (adds D l):=by
 induction l with
 | nil=>intro D h;exact h
 | cons e l ih=>intro D h;exact ih<|h.put<|FT _ _
def Gd.nil:Gd []:=⟨d9,nofun⟩
def vA{D:Ps}:(∃e∈D,e.1=o/\vS D o=e.2)\/(o∉D.map Prod.fst/\vS D o=[]):=by
 unfold vS
 cases h:D.find? λe=>decide (e.1=o)with
 | some e=>
  have h1:=jB h;exact .inl ⟨e,List.mem_of_find?_eq_some h,by simpa using h1,rfl⟩
 | none=>
  refine .inr ⟨λz=>?_,rfl⟩;obtain⟨e,he,ee⟩:=br.mp z;exact iZ.mp h e he<|bg ee
def Gd.v{D:Ps}(h:Gd D)(o:ag):Ok (vS D o):=by
 rcases vA (D:=D) (o:=o)with⟨e,h1,_,h2⟩|⟨_,h2⟩
 ·rw[h2];exact h.ok e h1
 ·rw[h2];exact⟨List.Pairwise.nil,nofun⟩
def Dr.anti{a:ag}(h1:Dr a b)(h2:Dr b a):a=b:=(Sx.yy h1 h2).symm
def Vn{D:Ps}(h:Gd D)(h':Gd E)(hv:∀o,vS D o=vS E o):toS D=toS E:=by
 have key:∀(D:Ps),Gd D->∀o,o∈(mF<|D.map Prod.fst).filter (λo=>!(vS D o).isEmpty) ↔ (vS D o)≠[]:=λD h o=>by
  rw[b_,(kB _).mem_iff];constructor
  ·rintro⟨_,h2⟩ z;rw[z]at h2;cases h2
  ·intro z;refine⟨?_,by cases e:vS D o with|nil=>exact absurd e z|cons=>rfl⟩
   rcases vA (D:=D) (o:=o)with⟨e,h1,h2,_⟩|⟨_,h2⟩
   ·exact br.mpr ⟨e,h1,h2⟩
   ·exact absurd h2 z
 have pw:∀(D:Ps),((mF<|D.map Prod.fst).filter λo=>!(vS D o).isEmpty).Pairwise Dr:=λD=>(t8 _).filter _;have nd:∀(D:Ps),Gd D->((mF<|D.map Prod.fst).filter λo=>!(vS D o).isEmpty).Nodup:=λD h=>((kB _).nodup_iff.mpr h.nd).filter _;have e:(mF<|D.map Prod.fst).filter (λo=>!(vS D o).isEmpty)=(mF<|E.map Prod.fst).filter (λo=>!(vS E o).isEmpty):=by
  refine d8 (λa b _ _ h1 h2=>Dr.anti h1 h2) (pw D) (pw E)<|(gq (nd D h)<|nd E h').mpr λo=>?_;rw[key D h,key E h',hv]
 unfold toS;rw[e];apply cQ;intro o _;rw[hv]
def FD{D:Ps}(h:Gd D)(h':Gd E)(hc:∀o t,cf (vS D o) t=cf (vS E o) t):toS D=toS E:=Vn h h' λo=>uniq (h.v o) (h'.v o)<|hc o
theorem Jf{f:ag->Pl}{o:ag}{t:Int}:∀{ks:List<|ag},ks.Nodup->cS (ks.map λk=>(k,f k)) o t=if o∈ks then cf (f o) t else 0
 | [],_=>by rw[aJ<|by simp];rfl
 | j::ks,h=>by
  obtain⟨h1,h2⟩:=dg.mp h;show(if j=o then cf (f j) t else 0)+cS (ks.map λk=>(k,f k)) o t=_;rw[Jf h2];by_cases c:j=o
  ·subst c;rw[aL rfl,aJ h1,aL<|aM ..,dH]
  ·rw[aJ c,dI];by_cases e:o∈ks
   ·rw[aL e,aL<|aN _ e]
   ·rw[aJ e,aJ λz=>(bu.mp z).elim (λz=>c z.symm) e]
def HL{D:Ps}(h:Gd D)(o:ag)(t:Int):cS (toS D) o t=cf (vS D o) t:=by
 unfold toS;rw[Jf<|((kB _).nodup_iff.mpr h.nd).filter _];split
 ·rfl
 ·rename_i c
  rcases vA (D:=D) (o:=o)with⟨e,h1,h2,h3⟩|⟨_,h2⟩
  ·by_cases z:vS D o=[]
   ·rw[z];rfl
   ·refine absurd (b_.mpr ⟨(kB _).mem_iff.mpr<|br.mpr ⟨e,h1,h2⟩,?_⟩) c
    cases e:vS D o with|nil=>exact absurd e z|cons=>rfl
  ·rw[h2];rfl
abbrev oW (o:ag)(k:Nat):Bool:=decide<|o.getD (k-1) 0>o.getD k 0
abbrev bxL (k:Nat)(l:Ps):Ps:=l.flatMap λe=>(Wd.ex e.1 k,e.2)::(if oW e.1 k=true then[(e.1,times AF e.2)]else[])
abbrev bx (k:Nat)(l:Ps):Ps:=toS<|adds []<|bxL k l
abbrev Go (N k:Nat)(o:ag):Prop:=o.length=N/\o.getD (k-1) 0≠o.getD k 0
def O1{N k:Nat}{o:ag}(h:o.length=N)(h1:1<=k)(h2:k<N):Wd.ex (Wd.ex o k) k=o:=Fw.sq h1 ()
def FE{k:Nat}{o:ag}(h1:1<=k)(h2:k<o.length):(Wd.ex o k).getD (k-1) 0=o.getD k 0/\(Wd.ex o k).getD k 0=o.getD (k-1) 0:=by
 constructor
 ·rw[aI,Wd.o6 h1 h2,aJ (),aL rfl,aI]
 ·rw[aI,Wd.o6 h1 h2,aL rfl,aI]
def Go.ex{N k:Nat}(h:Go N k o)(h1:1<=k)(h2:k<N):Go N k (Wd.ex o k)/\oW (Wd.ex o k) k=!oW o k:=by
 obtain⟨hl,hn⟩:=h;obtain⟨e1,e2⟩:=FE (o:=o) h1 ();refine⟨⟨by rw[Wd.lI];exact hl,by rw[e1,e2];exact λz=>hn z.symm⟩,?_⟩;unfold oW;rw[e1,e2];by_cases c:o.getD (k-1) 0>o.getD k 0
 ·rw[bg c,bH ()];rfl
 ·rw[bH c,bg ()];rfl
def LL{l:Ps}{t:Int}(h:∀e∈l,e.1≠o):cS l o t=0:=by
 induction l with
 | nil=>rfl
 | cons e l ih=>
  show(if e.1=o then _ else 0)+cS l o t=0;rw[aJ<|h e<|aM ..,ih λf hf=>h f<|aN _ hf];rfl
theorem V4{N k:Nat}(h1:1<=k)(h2:k<N):∀{l:Ps},(∀e∈l,Go N k e.1)->∀{o:ag}(t:Int),Go N k o->cS (bxL k l) o t=cS l (Wd.ex o k) t+(if oW o k=true then cS l o (t+1)-cS l o (t-1)else 0)
 | [],_,o,t,_=>by show(0:Int)=0+if _ then(0:Int)-0 else 0;split<;>rfl
 | e::l,h,o,t,ho=>by
  have he:=h e<|aM ..;have ih:=V4 h1 h2 (l:=l) (λf hf=>h f<|aN _ hf) t ho;have hx:(Wd.ex e.1 k=o) ↔ (e.1=Wd.ex o k):=⟨λz=>by rw[<- z,O1 he.1 h1 h2],λz=>by rw[z,O1 ho.1 h1 h2]⟩;show cS (((Wd.ex e.1 k,e.2)::(if oW e.1 k=true then[(e.1,times AF e.2)]else[]))++bxL k l) o t=_;rw[Bm,ih];show(if Wd.ex e.1 k=o then cf e.2 t else 0)+cS (if oW e.1 k=true then[(e.1,times AF e.2)]else[]) o t+_=((if e.1=Wd.ex o k then cf e.2 t else 0)+cS l (Wd.ex o k) t)+(if oW o k=true then((if e.1=o then cf e.2 (t+1)else 0)+cS l o (t+1))-((if e.1=o then cf e.2 (t-1)else 0)+cS l o (t-1))else 0);have h3:cS (if oW e.1 k=true then[(e.1,times AF e.2)]else[]) o t=if oW o k=true then((if e.1=o then cf e.2 (t+1)else 0)-(if e.1=o then cf e.2 (t-1)else 0))else 0:=by
   by_cases c:e.1=o
   ·rw[c,aL rfl,aL rfl]
    cases oW o k with
    | false=>rfl
    | true=>
     rw[aL rfl,aL rfl];show(if o=o then cf (times AF e.2) t else 0)+0=_;rw[aL rfl,ZG,dH]
   ·rw[aJ c,aJ c];have:cS (if oW e.1 k=true then[(e.1,times AF e.2)]else[]) o t=0:=LL λf hf=>by
     split at hf
     ·rw[aP.mp hf];exact c
     ·cases hf
    rw[this];split<;>rfl
  rw[h3];by_cases c:Wd.ex e.1 k=o
  ·rw[aL c,aL<|hx.mp c];split<;>lia
  ·rw[aJ c,aJ λz=>c<|hx.mpr z];split<;>lia
def vZ{P:ag->Prop}(l:Ps):∀{D:Ps},(∀e∈D,P e.1)->(∀e∈l,P e.1)->∀e∈adds D l,P e.1:=by
 induction l with
 | nil=>intro D h _;exact h
 | cons f l ih=>
  intro D h h';refine ih (λe he=>?_) λe he=>h' e<|aN _ he;have he:e∈BX D f.1 (nB (vS D f.1) f.2):=he;unfold BX at he;split at he
  ·obtain⟨g,hg,rfl⟩:=br.mp he;split
   ·exact h g hg
   ·exact h g hg
  ·rcases bE.mp he with z|z
   ·exact h e z
   ·rw[aP.mp z];exact h' f<|aM ..
def yu{P:ag->Prop}{D:Ps}(h:∀e∈D,P e.1):∀e∈toS D,P e.1:=λe he=>by
 obtain⟨o,ho,rfl⟩:=br.mp he;obtain⟨f,hf,e⟩:=br.mp ((kB _).mem_iff.mp (b_.mp ho).1)
 skip
 rw[<- e];exact h f hf
abbrev gX (k:Nat)(e:En)(Q:Ps):Ps:=if oW e.1 k=true then Ac (Ac Q (Wd.ex e.1 k) e.2.2) e.1 (times AF e.2.2)else Ac Q (Wd.ex e.1 k) e.2.2
theorem EA(k:Nat):∀(es:Es) (P:Ps),es.foldl (λQ e=>gX k e Q) P=adds P (bxL k<|sm es)
 | [],P=>rfl
 | e::es,P=>by
  show es.foldl (λQ e=>gX k e Q) (gX k e P)=adds P (((Wd.ex e.1 k,e.2.2)::(if oW e.1 k=true then[(e.1,times AF e.2.2)]else[]))++bxL k (sm es));rw[EA k es,GG];congr 1;unfold gX
  cases oW e.1 k<;>rfl
def ZR{p:Pl}(h:Ok p)(hb:Bd C p)(t:Int):(cf p t).natAbs<=C:=by
 rw[<- Oi h.nd];exact hb.val t
def Ok.HH{l:Pl}(h:Ok l){p:Int×Int}(hp:p∈l):cf l p.1=p.2:=by
 induction l with
 | nil=>cases hp
 | cons q l ih=>
  rcases bu.mp hp with z|z
  ·rw[z];exact h.head
  ·show(if q.1=p.1 then q.2 else 0)+cf l p.1=p.2;have:=(bQ.mp h.up).1 p z;rw[aJ (),ih h.tail z,dI]
end Su
namespace He
open PySem L2 Am
open Fw (Two rg yY)
open Bl (qo)
open Su (oW)
meta abbrev Fn:=ag->Int->Int
abbrev dl (g:Int->Int)(t:Int):Int:=g (t+1)-g (t-1)
abbrev X (k:Nat)(f:Fn):Fn:=λo t=>f (Wd.ex o k) t+if oW o k=true then dl (f o) t else 0
def pP{n:Nat}{v:ag}(h:Two n o u)(h':Two n o v):u=v:=by
 have l1:=h.lu;have l2:=h'.lu;have l3:=h.lo;apply cW;intro q;by_cases hq:q<n
 ·obtain⟨p,hp,ep⟩:∃p,∃hp:p<o.length,o[p]=(q:Int)+1:=by
   have:(q:Int)+1∈o:=h.po.mem_iff.mpr<|nU.mpr ⟨(),()⟩;obtain⟨p,hp,ep⟩:=List.getElem_of_mem this;exact⟨p,hp,ep⟩
  have a1:=h.ou.2 p hp;have a2:=h'.ou.2 p hp;rw[ep,show((q:Int)+1-1).toNat=q by lia]at a1 a2;rw[a1,a2]
 ·rw[b8 (),b8 ()]
abbrev bk (o:ag):ag:=(List.range o.length).map λi:Nat=>((o.idxOf ((i:Int)+1):Nat):Int)+1
def oY{n:Nat}{o:ag}(h:o.Perm<|rg n):Two n o (bk o):=by
 have lo:o.length=n:=by rw[h.length_eq,Wd.jZ]
 have nd:o.Nodup:=h.nodup_iff.mpr<|oz _ _;have mem:∀i,i<n->(i:Int)+1∈o:=λi hi=>h.mem_iff.mpr<|nU.mpr ⟨(),()⟩;have ix:∀i,i<n->o.idxOf ((i:Int)+1)<n:=λi hi=>by rw[<- lo];exact fF.mpr (mem i hi)
 have get:∀i (hi:i<n),o[o.idxOf<|(i:Int)+1]'(by rw[lo];exact ix i hi)=(i:Int)+1:=λi hi=>i7 _;refine⟨h,?_,?_,λp hp=>?_⟩
 ·have p:=Am.xj (N:=n) (g:=λi=>o.idxOf<|(i:Int)+1) ix λi j hij hj z=>by
   have a:=get i ();have b:=get j hj;dsimp[z]at a;rw[b]at a
   lia
  have p2:=p.map λi:Nat=>(i:Int)+1;rw[bD]at p2;unfold bk;rw[lo];refine List.Perm.trans p2 ?_;have:(List.range n).map (λi:Nat=>(i:Int)+1)=rg n:=by
   apply cW;intro q;rw[aV];by_cases c:q<n
   ·rw[dS c,Wd.qL c];rfl
   ·rw[b8<|by rw[cF];lia,b8<|by rw[Wd.jZ];lia];rfl
  rw[this]
 ·unfold bk;rw[aG,cF]
 ·have m:=nU.mp<|h.mem_iff.mp<|eL hp;have hq:(o[p]-1).toNat<o.length:=()
  unfold bk;rw[aV,dS hq];show some (((o.idxOf (((o[p]-1).toNat:Int)+1):Nat):Int)+1)=_;rw[show((o[p]-1).toNat:Int)+1=o[p]by lia,nd.idxOf_getElem]
def Wg{n:Nat}{o:ag}(h:o.Perm<|rg n):bk (bk o)=o:=pP (oY (oY h).pu) (oY h).flip
def DR{n:Nat}{o:ag}(h:o.Perm<|rg n):(bk o).Perm (rg n):=(oY h).pu
def aaU{n k:Nat}{o:ag}(h:o.Perm<|rg n)(h0:1<=k)(h1:k<n):bk (o.map<|Wd.sw k)=Wd.ex (bk o) k:=by
 have t:=(oY h).step h0 h1;exact pP (oY t.po) t
def ZP{n k:Nat}{o:ag}(h:o.Perm<|rg n)(h0:1<=k)(h1:k<n):bk (Wd.ex o k)=(bk o).map (Wd.sw k):=by
 have t:=((oY h).flip.step h0 h1).flip;exact pP (oY t.po) t
def wC{n k p:Nat}{o u:ag}(t:Two n o u)(h1:1<=k)(h2:k<=n)(hp:o.getD p 0=(k:Int))(hpn:p<n):u.getD (k-1) 0=(p:Int)+1:=by
 have lo:=t.lo;have lp:p<o.length:=()
 have:=t.ou.2 p lp;rw[Wd.ku lp]at hp;rw[hp,show((k:Int)-1).toNat=k-1 by lia]at this;rw[aI,this];rfl
def nb{n k:Nat}{o:ag}(h:o.Perm<|rg n)(h0:1<=k)(h1:k<n):o.getD (k-1) 0≠o.getD k 0:=λz=>by
 have lo:o.length=n:=by rw[h.length_eq,Wd.jZ]
 have nd:o.Nodup:=h.nodup_iff.mpr<|oz _ _;rw[Wd.ku (),Wd.ku ()]at z;have:=(dJ nd).mp z
 lia
abbrev Pr (o:ag)(k j:Nat):Prop:=(o.getD (k-1) 0=j/\o.getD k 0=(j:Int)+1)\/(o.getD (k-1) 0=(j:Int)+1/\o.getD k 0=j)
def Qh{n k:Nat}{u:ag}(h:u.Perm<|rg n)(h0:1<=j)(h1:j<n):(Pr u j k->oW (u.map<|Wd.sw k) j=!oW u j)/\(¬Pr u j k->oW (u.map<|Wd.sw k) j=oW u j):=by
 have lu:u.length=n:=by rw[h.length_eq,Wd.jZ]
 have ne:=nb h h0 h1;have e1:(u.map<|Wd.sw k).getD (j-1) 0=Wd.sw k (u.getD (j-1) 0):=by
  rw[Wd.ku<|by rw[aG];lia,Wd.ku (),cZ]
 have e2:(u.map<|Wd.sw k).getD j 0=Wd.sw k (u.getD j 0):=by
  rw[Wd.ku<|by rw[aG];lia,Wd.ku (),cZ]
 unfold oW Pr;rw[e1,e2];generalize u.getD (j-1) 0=a at *
 generalize u.getD j 0=b at *
 constructor
 ·rintro(⟨z1,z2⟩|⟨z1,z2⟩)
  ·subst z1;subst z2;unfold Wd.sw;rw[aL rfl,aJ (),aL rfl,bg (),bH ()];rfl
  ·subst z1;subst z2;unfold Wd.sw;rw[aJ (),aL rfl,aL rfl,bH (),bg ()];rfl
 ·intro z;rw[jo];unfold Wd.sw;split<;>split<;>(try split)<;>(try split)<;>lia
def AZ{n k:Nat}(t:Two n o u)(h0:1<=k)(h1:k<n)(h2:1<=j)(h3:j<n)(h:Pr o k j):Pr u j k:=by
 rcases h with⟨z1,z2⟩|⟨z1,z2⟩
 ·have a:=wC t h2 () z1 ();have b:=wC t (k:=j+1) () () (by rw[z2];lia) h1;rw[Nat.add_sub_cancel]at b;exact .inl ⟨by rw[a];lia,by rw[b]⟩
 ·have a:=wC t (k:=j+1) () () (by rw[z1];lia) (show k-1<n by lia);have b:=wC t h2 () z2 h1;rw[Nat.add_sub_cancel]at a;exact .inr ⟨by rw[b],by rw[a];lia⟩
def Yu{n k:Nat}(t:Two n o u)(h0:1<=k)(h1:k<n)(h2:1<=j)(h3:j<n)(h:Pr o k j):oW u j=oW o k:=by
 have a:∀x y:ag,∀i m:Nat,x.getD (i-1) 0=(m:Int)->x.getD i 0=(m:Int)+1->oW x i=false:=λx y i m p q=>by
  unfold oW;rw[p,q];exact bH ()
 have b:∀x y:ag,∀i m:Nat,x.getD (i-1) 0=(m:Int)+1->x.getD i 0=(m:Int)->oW x i=true:=λx y i m p q=>by
  unfold oW;rw[p,q];exact bg ()
 rcases h with⟨z1,z2⟩|⟨z1,z2⟩
 ·rw[a o [] k j z1 z2]
  rcases AZ t h0 h1 h2 h3 (.inl ⟨z1,z2⟩)with⟨y1,y2⟩|⟨y1,y2⟩
  ·exact a u [] j k y1 y2
  ·have:=wC t h2 () z1 ();lia
 ·rw[b o [] k j z1 z2]
  rcases AZ t h0 h1 h2 h3 (.inr ⟨z1,z2⟩)with⟨y1,y2⟩|⟨y1,y2⟩
  ·have:=wC t h2 () z2 h1;lia
  ·exact b u [] j k y1 y2
abbrev L (j:Nat)(f:Fn):Fn:=λo t=>f (o.map<|Wd.sw j) t+if oW (bk o) j=true then dl (f o) t else 0
def UW{n k:Nat}{o:ag}(h:o.Perm<|rg n)(h0:1<=k)(h1:k<n)(hp:Pr o k j):o.map (Wd.sw j)=Wd.ex o k:=by
 have lo:o.length=n:=by rw[h.length_eq,Wd.jZ]
 have nd:o.Nodup:=h.nodup_iff.mpr<|oz _ _;apply cW;intro p;rw[Wd.o6 h0 (),aV];unfold Pr at hp;rw[Wd.ku (),Wd.ku ()]at hp;by_cases c1:p=k
 ·subst c1;rw[aL rfl,aF (),aF (),dh];congr 1;unfold Wd.sw
  rcases hp with⟨z1,z2⟩|⟨z1,z2⟩
  ·rw[z1,z2,aJ (),aL rfl]
  ·rw[z1,z2,aL rfl]
 ·rw[aJ c1];by_cases c2:p=k-1
  ·subst c2;rw[aL rfl,aF (),aF (),dh];congr 1;unfold Wd.sw
   rcases hp with⟨z1,z2⟩|⟨z1,z2⟩
   ·rw[z1,z2,aL rfl]
   ·rw[z1,z2,aJ (),aL rfl]
  ·rw[aJ c2];by_cases c3:p<o.length
   ·rw[aF c3,dh];congr 1;have n1:o[p]≠o[k]:=λz=>c1<|(dJ nd).mp z;have n2:o[p]≠o[k-1]:=λz=>c2<|(dJ nd).mp z;unfold Wd.sw
    rcases hp with⟨z1,z2⟩|⟨z1,z2⟩
    ·rw[aJ<|by rw[<- z1];exact n2,aJ<|by rw[<- z2];exact n1]
    ·rw[aJ<|by rw[<- z2];exact n1,aJ<|by rw[<- z1];exact n2]
   ·rw[b8 ()];rfl
def VG(j:Nat)(o:ag):(o.map<|Wd.sw j).map (Wd.sw j)=o:=by
 rw[bD];have:(Wd.sw j ∘ Wd.sw j)=id:=funext λx=>by
  show Wd.sw j (Wd.sw j x)=x;unfold Wd.sw;split<;>(try split)<;>(try split)<;>lia
 rw[this,jF]
def comm{n k:Nat}(f:Fn){o:ag}(h:o.Perm<|rg n)(h0:1<=k)(h1:k<n)(h2:1<=j)(h3:j<n)(t:Int):X k (L j f) o t=L j (X k f) o t:=by
 have lo:o.length=n:=by rw[h.length_eq,Wd.jZ]
 have tw:=oY h;have e1:(Wd.ex o k).map (Wd.sw j)=Wd.ex (o.map<|Wd.sw j) k:=(Wd.ex_map _ h0 ()).symm;have e2:=ZP h h0 h1;have f1:=Qh (k:=j) h h0 h1;have f2:=Qh (k:=k) tw.pu h2 h3;unfold X L dl;dsimp only;rw[e1,e2];by_cases c:Pr o k j
 ·have c':=AZ tw h0 h1 h2 h3 c;have e3:=UW h h0 h1 c;rw[f1.1 c,f2.1 c',Yu tw h0 h1 h2 h3 c,<- e3]
 ·have c':¬Pr (bk o) j k:=λz=>c<|AZ tw.flip h2 h3 h0 h1 z;rw[f1.2 c,f2.2 c']
  cases oW o k<;>cases oW (bk o) j
  ·dsimp[bF,cj]
  ·dsimp[bF,c_,cj];lia
  ·dsimp[bF,c_,cj];lia
  ·dsimp[c_];lia
abbrev pI (n:Nat)(f g:Fn):Prop:=∀o:ag,o.Perm (rg n)->∀t,f o t=g o t
def pI.refl{n:Nat}{f:Fn}:pI n f f:=λ_ _ _=>rfl
def pI.symm{n:Nat}{f g:Fn}(h:pI n f g):pI n g f:=λo p t=>(h o p t).symm
def pI.trans{n:Nat}{f g e:Fn}(h:pI n f g)(h':pI n g e):pI n f e:=λo p t=>(h o p t).trans<|h' o p t
def mX{n k:Nat}{o:ag}(h:o.Perm<|rg n)(h0:1<=k)(h1:k<n):(Wd.ex o k).Perm (rg n):=(Wd.D_ h0<|by rw[h.length_eq,Wd.jZ];exact h1).trans h
def We{n k:Nat}{o:ag}(h:o.Perm<|rg n)(h0:1<=k)(h1:k<n):(o.map<|Wd.sw k).Perm (rg n):=((oY h).step h0 h1).po
def Y3{n k:Nat}{f g:Fn}(h:pI n f g)(h0:1<=k)(h1:k<n):pI n (X k f) (X k g):=λo p t=>by
 unfold X dl;rw[h _<|mX p h0 h1,h o p,h o p]
def abW{n k:Nat}{f g:Fn}(h:pI n f g)(h0:1<=k)(h1:k<n):pI n (L k f) (L k g):=λo p t=>by
 unfold L dl;rw[h _<|We p h0 h1,h o p,h o p]
abbrev Va (n:Nat)(w:am):Prop:=∀k∈w,1<=k/\k<n
abbrev Xw (w:am)(f:Fn):Fn:=w.foldl (λf k=>X k f) f
abbrev Lw (w:am)(f:Fn):Fn:=w.foldl (λf k=>L k f) f
theorem DC{n:Nat}:∀{w:am}{f g:Fn},Va n w->pI n f g->pI n (Xw w f) (Xw w g)
 | [],_,_,_,h=>h
 | k::w,_,_,v,h=>DC (w:=w) (λj hj=>v j<|aN _ hj)<|Y3 h (v k<|aM ..).1 (v k<|aM ..).2
theorem LG{n:Nat}:∀{w:am}{f g:Fn},Va n w->pI n f g->pI n (Lw w f) (Lw w g)
 | [],_,_,_,h=>h
 | k::w,_,_,v,h=>LG (w:=w) (λj hj=>v j<|aN _ hj)<|abW h (v k<|aM ..).1 (v k<|aM ..).2
theorem Zo{n:Nat}(h2:1<=j)(h3:j<n):∀{w:am}{f:Fn},Va n w->pI n (Xw w<|L j f) (L j<|Xw w f)
 | [],_,_=>.refl
 | k::w,f,v=>by
  have v1:=v k<|aM ..;have v2:Va n w:=λj hj=>v j (aN _ hj)
  skip
  exact(DC v2 λo p t=>comm f p v1.1 v1.2 h2 h3 t).trans (Zo h2 h3 v2)
theorem VI{n:Nat}{w:am}(v:Va n w):∀{u:am}{f:Fn},Va n u->pI n (Xw w<|Lw u f) (Lw u<|Xw w f)
 | [],_,_=>.refl
 | j::u,f,vu=>by
  have v1:=vu j<|aM ..;have v2:Va n u:=λi hi=>vu i (aN _ hi)
  skip
  exact(VI v v2).trans (LG v2<|Zo v1.1 v1.2 v)
abbrev D (u:ag)(g:Int->Int):Fn:=λo t=>if o=u then g t else 0
def X_D{n k:Nat}{u:ag}(g:Int->Int)(hu:u.Perm<|rg n)(h0:1<=k)(h1:k<n):pI n (X k<|D u g) λo t=>D (Wd.ex u k) g o t+if oW u k=true then D u (dl g) o t else 0:=λo p t=>by
 have lo:o.length=n:=by rw[p.length_eq,Wd.jZ]
 have lu:u.length=n:=by rw[hu.length_eq,Wd.jZ]
 have iff:Wd.ex o k=u ↔ o=Wd.ex u k:=⟨λz=>by rw[<- z,Fw.sq h0 ()],λz=>by rw[z,Fw.sq h0 ()]⟩;unfold X D dl;dsimp only;by_cases c:o=u
 ·subst c;rw[aL rfl,aL rfl,aL rfl];congr 1;by_cases c2:Wd.ex o k=o
  ·rw[aL c2,aL c2.symm]
  ·rw[aJ c2,aJ λz=>c2 z.symm]
 ·rw[aJ c,aJ c,aJ c];congr 1
  ·by_cases c2:Wd.ex o k=u
   ·rw[aL c2,aL<|iff.mp c2]
   ·rw[aJ c2,aJ λz=>c2<|iff.mpr z]
  ·split<;>split<;>rfl
def L_D{n k:Nat}{u:ag}(g:Int->Int)(hu:u.Perm<|rg n)(h0:1<=k)(h1:k<n):pI n (L k<|D u g) λo t=>D (u.map<|Wd.sw k) g o t+if oW (bk u) k=true then D u (dl g) o t else 0:=λo p t=>by
 have iff:o.map (Wd.sw k)=u ↔ o=u.map (Wd.sw k):=⟨λz=>by rw[<- z,VG],λz=>by rw[z,VG]⟩;unfold L D dl;dsimp only;by_cases c:o=u
 ·subst c;rw[aL rfl,aL rfl,aL rfl];congr 1;by_cases c2:o.map (Wd.sw k)=o
  ·rw[aL c2,aL c2.symm]
  ·rw[aJ c2,aJ λz=>c2 z.symm]
 ·rw[aJ c,aJ c,aJ c];congr 1
  ·by_cases c2:o.map (Wd.sw k)=u
   ·rw[aL c2,aL<|iff.mp c2]
   ·rw[aJ c2,aJ λz=>c2<|iff.mpr z]
  ·split<;>split<;>rfl
def F6{l:ag}{k:Nat}(h:l.getD (k-1) 0<l.getD k 0):oW l k=false:=bH ()
theorem ZF{n:Nat}{g:Int->Int}:∀{w:am}{u:ag},u.Perm (rg n)->Wd.j6 u w->pI n (Xw w<|D u g) (D (Wd.led u w) g)
 | [],_,_,_=>.refl
 | k::w,u,hu,h=>by
  obtain⟨h1,h2,h3,h4⟩:=h;have lu:u.length=n:=by rw[hu.length_eq,Wd.jZ]
  have pu:=mX hu h1 ();have e:pI n (X k<|D u g) (D (Wd.ex u k) g):=(X_D g hu h1 ()).trans λo p t=>by
   dsimp only;rw[F6 h3,aJ<|by simp,dH]
  have v:Va n w:=λj hj=>by
   have:=Wd.j6.valid h4 j hj;rw[Wd.lI,lu]at this;exact this
  skip
  exact(DC v e).trans (ZF pu h4)
theorem Zz{n:Nat}{g:Int->Int}:∀{w:am}{u:ag},u.Perm (rg n)->Wd.j6 (bk u) w->∃v:ag,v.Perm (rg n)/\bk v=Wd.led (bk u) w/\pI n (Lw w<|D u g) (D v g)
 | [],u,hu,_=>⟨u,hu,rfl,.refl⟩
 | k::w,u,hu,h=>by
  obtain⟨h1,h2,h3,h4⟩:=h;have lb:(bk u).length=n:=by rw[(DR hu).length_eq,Wd.jZ]
  have pu:=We hu h1 ();have eb:bk (u.map<|Wd.sw k)=Wd.ex (bk u) k:=aaU hu h1 ();have e:pI n (L k<|D u g) (D (u.map<|Wd.sw k) g):=(L_D g hu h1 ()).trans λo p t=>by
   dsimp only;rw[F6 h3,aJ<|by simp,dH]
  have v:Va n w:=λj hj=>by
   have:=Wd.j6.valid h4 j hj;rw[Wd.lI,lb]at this;exact this
  rw[<- eb]at h4;obtain⟨x,x1,x2,x3⟩:=Zz (g:=g) pu h4;refine⟨x,x1,?_,(LG v e).trans x3⟩;rw[x2,eb];rfl
def qh(n:Nat):(rg n).Perm (rg n):=.refl _
theorem vY{n:Nat}:∀(m:Nat) {u:ag},u.Perm (rg n)->Iv.inv u=m->∃w,Wd.j6 (rg n) w/\Wd.led (rg n) w=u
 | 0,u,hu,hm=>by
  refine⟨[],trivial,(Fw.GW hu λk hk=>?_).symm⟩;have:=Fw.qz hk.1 hk.2.1 hk.2.2
  lia
 | m+1,u,hu,hm=>by
  obtain⟨k,hk⟩:=Fw.Um (l:=u) ();have lu:u.length=n:=by rw[hu.length_eq,Wd.jZ]
  have hd:=Fw.qz hk.1 hk.2.1 hk.2.2;obtain⟨w,h1,h2⟩:=vY m (mX hu hk.1<|by rw[<- lu];exact hk.2.1) ();obtain⟨e1,e2⟩:=Su.FE (o:=u) hk.1 hk.2.1;refine⟨w++[k],Wd.j6.snoc h1 hk.1 (by rw[Wd.jZ,<- lu];exact hk.2.1)<|by rw[h2,e1,e2];exact hk.2.2,?_⟩;rw[Wd.wo,h2];exact Fw.sq hk.1 hk.2.1
def Wi(n:Nat):bk (rg n)=rg n:=by
 refine pP (oY<|qh n) ⟨qh n,qh n,rfl,λp hp=>?_⟩;have hp':p<n:=by rw[Wd.jZ]at hp;exact hp
 have e:=Wd.qL hp';rw[aF hp]at e;have e:=bh e;rw[show((rg n)[p]-1).toNat=p by rw[e];lia];exact Wd.qL hp'
def UD{n:Nat}{u:ag}(hu:u.Perm<|rg n):∃v,Va n v/\∀g,pI n (Lw v<|D (rg n) g) (D u g):=by
 obtain⟨w,h1,h2⟩:=vY _ (DR hu) rfl;have v:Va n w:=λk hk=>by have:=Wd.j6.valid h1 k hk;rwa [Wd.jZ]at this
 refine⟨w,v,λg=>?_⟩;have h1':Wd.j6 (bk<|rg n) w:=by rw[Wi];exact h1
 obtain⟨x,x1,x2,x3⟩:=Zz (g:=g) (qh n) h1';rw[Wi,h2]at x2;have:x=u:=by rw[<- Wg x1,x2,Wg hu]
 rw[<- this];exact x3
def X_{n:Nat}{w:am}(h:Wd.j6 (rg n) w)(h':Wd.j6 (rg n) w')(e:Wd.led (rg n) w=Wd.led (rg n) w'){u:ag}(hu:u.Perm<|rg n)(g:Int->Int):pI n (Xw w<|D u g) (Xw w'<|D u g):=by
 obtain⟨v,v1,v2⟩:=UD hu;have a:∀{w:am},Wd.j6 (rg n) w->pI n (Xw w<|D u g) (Lw v<|D (Wd.led (rg n) w) g):=λ{w} h=>by
  have vw:Va n w:=λk hk=>by have:=Wd.j6.valid h k hk;rwa [Wd.jZ]at this
  exact(DC vw (v2 g).symm).trans ((VI vw v1).trans<|LG v1<|ZF (qh n) h)
 refine(a h).trans ?_;rw[e];exact(a h').symm
abbrev add (f g:Fn):Fn:=λo t=>f o t+g o t
def aal(k:Nat)(f g:Fn):X k (add f g)=add (X k f) (X k g):=by
 funext o t
 unfold X add dl;dsimp only;split<;>lia
theorem Ie:∀(w:am) (f g:Fn),Xw w (add f g)=add (Xw w f) (Xw w g)
 | [],_,_=>rfl
 | k::w,f,g=>by
  show Xw w (X k<|add f g)=_;rw[aal,Ie w];rfl
def WZ(k:Nat):X k (λ_ _=>0)=λ_ _=>0:=by
 funext o t
 unfold X dl;split<;>rfl
theorem DN:∀w:am,Xw w (λ_ _=>0)=λ_ _=>0
 | []=>rfl
 | k::w=>by
  show Xw w (X k _)=_;rw[WZ,DN w]
def UG(e:ag×Po.Pl)(l:Su.Ps):Su.cS (e::l)=add (D e.1<|Po.cf e.2) (Su.cS l):=by
 funext o t
 show(if e.1=o then _ else _)+_=(if o=e.1 then _ else _)+_;by_cases c:e.1=o
 ·rw[aL c,aL c.symm]
 ·rw[aJ c,aJ λz=>c z.symm]
theorem Rh{n:Nat}{w:am}(h:Wd.j6 (rg n) w)(h':Wd.j6 (rg n) w')(e:Wd.led (rg n) w=Wd.led (rg n) w'):∀{l:Su.Ps},(∀x∈l,x.1.Perm<|rg n)->pI n (Xw w<|Su.cS l) (Xw w'<|Su.cS l)
 | [],_=>by
  have z:Su.cS []=λ_ _=>0:=rfl;rw[z,DN,DN];exact .refl
 | x::l,hx=>by
  rw[UG,Ie,Ie];intro o p t;unfold add;rw[X_ h h' e (hx x<|aM ..) _ o p t,Rh h h' e (λy hy=>hx y<|aN _ hy) o p t]
def aaa{n k:Nat}{l:Su.Ps}(h:∀x∈l,x.1.Perm<|rg n)(h0:1<=k)(h1:k<n):pI n (Su.cS<|Su.bx k l) (X k<|Su.cS l):=λo p t=>by
 have go:∀{x:ag},x.Perm (rg n)->Su.Go n k x:=λ{x} hx=>⟨by rw[hx.length_eq,Wd.jZ],nb hx h0 h1⟩;unfold Su.bx;rw[Su.HL<|Su.Gd.nil.adds _,Su.QK];show 0+_=_;rw[dI,Su.V4 h0 h1 (λe he=>go<|h e he) t<|go p];rfl
end He
namespace He
open PySem L2 Am Po
open Fw (Two rg yY)
open Su (oW Ps cS)
abbrev cv:Pl->(Int->Int)->Int->Int
 | [],_,_=>0
 | q::p,g,t=>q.2 * g (t-q.1)+cv p g t
def YQ(p:Pl)(g h:Int->Int)(t:Int):cv p (λt=>g t+h t) t=cv p g t+cv p h t:=by
 induction p with
 | nil=>rfl
 | cons q p ih=>
  show q.2 * (g (t-q.1)+h (t-q.1))+cv p _ t=(q.2 * g (t-q.1)+cv p g t)+(q.2 * h (t-q.1)+cv p h t);rw[ih,Int.mul_add];lia
def Ka(p:Pl)(t:Int):cv p (λ_=>0) t=0:=by
 induction p with
 | nil=>rfl
 | cons q p ih=>
  show q.2 * 0+cv p _ t=0;rw[ih,jv];rfl
def Z0(p q:Pl)(t:Int):cf (times p q) t=cv p (cf q) t:=by
 rw[Su.xP]
 induction p with
 | nil=>rfl
 | cons a p ih=>
  show cf ((q.map λb=>(a.1+b.1,a.2 * b.2))++BC p q) t=_;rw[Su.Jc,Su.Kh,ih];rfl
abbrev BL (p:Pl)(f:Fn):Fn:=λo t=>cv p (f o) t
abbrev sw (n:Nat)(o:ag):am:=by
 classical
 exact if h:o.Perm (rg n)then(vY _ h rfl).choose else[]
def Dq{n:Nat}{o:ag}(h:o.Perm<|rg n):Wd.j6 (rg n) (sw n o)/\Wd.led (rg n) (sw n o)=o:=by
 unfold sw;rw[dif_pos h];exact(vY _ h rfl).choose_spec
def VR{n:Nat}{o:ag}(h:o.Perm<|rg n):Va n (sw n o):=λk hk=>by have:=Wd.j6.valid (Dq h).1 k hk;rwa [Wd.jZ]at this
abbrev RG (G:ag->Fn):Ps->Fn
 | []=>λ_ _=>0
 | e::m=>add (BL e.2<|G e.1)<|RG G m
abbrev R (n:Nat)(m:Ps)(f:Fn):Fn:=RG (λo=>Xw (sw n o) f) m
def X_X{n k:Nat}(h0:1<=k)(h1:k<n)(f:Fn):pI n (X k<|X k f) λo t=>f o t+dl (X k f o) t:=λo p t=>by
 have lo:o.length=n:=by rw[p.length_eq,Wd.jZ]
 have go:Su.Go n k o:=⟨lo,nb p h0 h1⟩;obtain⟨_,hf⟩:=go.ex h0 h1;unfold X dl;dsimp only;rw[Fw.sq h0 (),hf]
 cases oW o k with
 | true=>dsimp[cV,bF,cj,c_];lia
 | false=>dsimp[eU,bF,cj,c_];lia
def KG{n:Nat}{f g:Fn}(p:Pl)(h:pI n f g):pI n (BL p f) (BL p g):=λo po t=>by
 show cv p (f o) t=cv p (g o) t;rw[show f o=g o from funext λt=>h o po t]
def VH{n k:Nat}{m:Ps}(h0:1<=k)(h1:k<n)(hm:∀x∈m,x.1.Perm<|rg n):∀x∈Su.bx k m,x.1.Perm (rg n):=Su.yu (P:=λo=>o.Perm<|rg n) (Su.vZ (P:=λo=>o.Perm<|rg n) _ (nofun) λx hx=>by
 obtain⟨f,hf,hx⟩:=fR.mp hx
 rcases bu.mp hx with z|z
 ·rw[z];exact mX (hm f hf) h0 h1
 ·split at z
  ·rw[aP.mp z];exact hm f hf
  ·cases z)
abbrev Hw (p:Pl)(l:Ps):Ps:=l.map λx=>(x.1,times p x.2)
def Eh(p:Pl)(l:Ps):cS (Hw p l)=BL p (cS l):=by
 funext o t
 induction l with
 | nil=>exact(Ka p t).symm
 | cons e l ih=>
  show(if e.1=o then cf (times p e.2) t else 0)+cS (Hw p l) o t=cv p (λt=>(if e.1=o then cf e.2 t else 0)+cS l o t) t;rw[YQ,ih];congr 1;by_cases c:e.1=o
  ·rw[aL c,Z0,show(λt=>if e.1=o then cf e.2 t else 0)=cf e.2 from funext λt=>aL c]
  ·rw[aJ c,show(λt=>if e.1=o then cf e.2 t else(0:Int))=λ_=>0 from funext λt=>aJ c,Ka]
def off{n:Nat}{m:Ps}(hm:∀x∈m,x.1.Perm<|rg n){o:ag}(h:¬o.Perm (rg n))(t:Int):cS m o t=0:=Su.LL λe he z=>h<|by rw[<- z];exact hm e he
def Wy{n:Nat}{m m':Ps}(hm:∀x∈m,x.1.Perm<|rg n)(hm':∀x∈m',x.1.Perm<|rg n)(h:pI n (cS m)<|cS m'):∀o t,cS m o t=cS m' o t:=λo t=>by
 by_cases c:o.Perm (rg n)
 ·exact h o c t
 ·rw[off hm c,off hm' c]
abbrev B (f:Fn):Fn:=λo=>f<|bk o
abbrev d0:Int->Int:=λt=>if t=0 then 1 else 0
end He
namespace Am
open PySem PySem.Spec PyProof.Rows L2
abbrev IW {α:Type}(x:ag×α):List (ag×α)->List (ag×α)
 | []=>[x]
 | y::ys=>if HT.lexLt y.1 x.1=true then y::IW x ys else x::y::ys
abbrev Bf {α:Type}:List (ag×α)->List (ag×α)
 | []=>[]
 | x::xs=>IW x<|Bf xs
section
variable {α:Type}
theorem C2(x:ag×α):∀ys:List<|ag×α,(IW x ys).Perm (x::ys)
 | []=>eV _
 | y::ys=>by
  unfold IW;by_cases h:HT.lexLt y.1 x.1=true
  ·rw[aL h];exact((C2 x ys).cons y).trans (List.Perm.swap x y ys)
  ·rw[aJ h]
theorem xG:∀xs:List<|ag×α,(Bf xs).Perm xs
 | []=>eV _
 | x::xs=>(C2 x<|Bf xs).trans<|(xG xs).cons x
theorem F_(x:ag×α):∀ys:List<|ag×α,(IW x ys).map Prod.fst=Eg x.1 (ys.map Prod.fst)
 | []=>rfl
 | y::ys=>by
  unfold IW;rw[bJ];unfold Eg;by_cases h:HT.lexLt y.1 x.1=true
  ·rw[aL h,aL h,bJ,F_]
  ·rw[aJ h,aJ h];rfl
theorem Dz:∀xs:List<|ag×α,(Bf xs).map Prod.fst=mF (xs.map Prod.fst)
 | []=>rfl
 | x::xs=>by
  show(IW x<|Bf xs).map Prod.fst=Eg x.1 (mF<|xs.map Prod.fst);rw[F_,Dz]
theorem DS:∀{l:List<|ag×α},(l.map Prod.fst).Nodup->∀a∈l,∀b∈l,a.1=b.1->a=b
 | [],_,_,h,_,_,_=>nomatch h
 | x::l,nd,a,ha,b,hb,e=>by
  obtain⟨h1,h2⟩:=dg.mp nd
  rcases bu.mp ha with ea|ha'
  ·rcases bu.mp hb with eb|hb'
   ·rw[ea,eb]
   ·subst ea;exact absurd (e ▸ fJ hb') h1
  ·rcases bu.mp hb with eb|hb'
   ·subst eb;exact absurd (e ▸ fJ ha') h1
   ·exact DS h2 a ha' b hb' e
def HX{xs ys:List<|ag×α}(nd:(ys.map Prod.fst).Nodup)(p:xs.Perm ys)(h:(xs.map Prod.fst).Pairwise Dr):xs=Bf ys:=by
 refine d8 (le:=λ(a b:ag×α)=>Dr a.1 b.1) (λ(a b:ag×α) ha hb h1 h2=>DS nd a (p.mem_iff.mp ha) b ((xG ys).mem_iff.mp hb) (Sx.yy (show HT.lexLt b.1 a.1=false from h1)<|show HT.lexLt a.1 b.1=false from h2).symm) ?_ ?_ (p.trans (xG ys).symm)
 ·exact cI.mp h
 ·have:=t8<|ys.map Prod.fst;rw[<- Dz]at this;exact cI.mp this
end
end Am
namespace He
open PySem L2 Am Po
open Fw (Two rg yY)
open Su (oW Ps cS Gd vS toS adds bx)
def zK{D:Ps}(h:Gd D){e:ag×Pl}(he:e∈D):vS D e.1=e.2:=by
 rcases Su.vA (D:=D) (o:=e.1)with⟨e',h1,h2,h3⟩|⟨h1,_⟩
 ·rw[h3,DS h.nd e' h1 e he h2]
 ·exact absurd (fJ he) h1
def GN{D:Ps}(h:Gd D):(D.map Prod.fst).map (λk=>(k,vS D k))=D:=by
 rw[bD]
 conv=>rhs;rw[<- jF D]
 exact cQ λe he=>by
  show(e.1,vS D e.1)=e;rw[zK h he]
def wV{D:Ps}(h:Gd D)(o:ag)(t:Int):cS D o t=cf (vS D o) t:=by
 conv=>lhs;rw[<- GN h]
 rw[Su.Jf h.nd];split
 ·rfl
 ·rename_i c
  rcases Su.vA (D:=D) (o:=o)with⟨e,h1,h2,_⟩|⟨_,h2⟩
  ·exact absurd (h2 ▸ fJ h1) c
  ·rw[h2];rfl
def HV{D:Ps}(h:Gd D):Gd (toS D):=by
 refine⟨?_,λe he=>?_⟩
 ·unfold toS;rw[bD,show(Prod.fst ∘ λo=>(o,vS D o))=id from rfl,jF];exact((kB _).nodup_iff.mpr h.nd).filter _
 ·obtain⟨o,_,rfl⟩:=br.mp he;exact h.v o
structure Cn (l:Ps):Prop where
 gd:Gd l
 eq:toS l=l
theorem Cn.toS{D:Ps}(h:Gd D):Cn (toS D):=⟨HV h,Su.FD (HV h) h λo t=>by rw[<- wV (HV h),Su.HL h]⟩
def Cn.uniq{l:Ps}(h:Cn l)(h':Cn m)(e:∀o t,cS l o t=cS m o t):l=m:=by
 rw[<- h.eq,<- h'.eq];exact Su.FD h.gd h'.gd λo t=>by rw[<- wV h.gd,<- wV h'.gd,e]
def Cn.ne{l:Ps}(h:Cn l){e:ag×Pl}(he:e∈l):e.2≠[]:=by
 rw[<- h.eq]at he;obtain⟨o,ho,rfl⟩:=br.mp he;have:=(b_.mp ho).2;intro z;have z:vS l o=[]:=z;rw[z]at this
 cases this
def Qs{P:Ps}(h:Gd P)(hn:∀e∈P,e.2≠[]):Bf P=toS P:=by
 symm
 have all:(mF<|P.map Prod.fst).filter (λo=>!(vS P o).isEmpty)=mF (P.map Prod.fst):=by
  rw[iS];intro o ho;obtain⟨e,he,rfl⟩:=br.mp<|(kB _).mem_iff.mp ho;rw[zK h he]
  cases e':e.2 with
  | nil=>exact absurd e' (hn e he)
  | cons=>rfl
 have ts:toS P=(mF<|P.map Prod.fst).map λo=>(o,vS P o):=by unfold toS;rw[all]
 refine HX h.nd ?_ ?_
 ·rw[ts];have:=(kB<|P.map Prod.fst).map λo=>(o,vS P o)
  rwa [GN h]at this
 ·rw[ts,bD,show(Prod.fst ∘ λo=>(o,vS P o))=id from rfl,jF];exact t8 _
def aaI(k:Nat)(l:Ps):Cn (bx k l):=.toS<|Gd.nil.adds _
def v5(l:Ps)(o:ag)(t:Int):cS (toS<|adds [] l) o t=cS l o t:=by
 rw[Su.HL<|Gd.nil.adds _,Su.QK];exact dI _
def JP{n:Nat}{a b:Ps}(ha:Cn a)(hb:Cn b)(pa:∀x∈a,x.1.Perm<|rg n)(pb:∀x∈b,x.1.Perm<|rg n)(h:pI n (cS a)<|cS b):a=b:=ha.uniq hb<|Wy pa pb h
abbrev IZ (l m:Ps):Ps:=toS<|adds []<|l++m
def Tf{n:Nat}{l m:Ps}(pl:∀x∈l,x.1.Perm<|rg n)(pm:∀x∈m,x.1.Perm<|rg n):Cn (IZ l m)/\(∀x∈IZ l m,x.1.Perm<|rg n)/\cS (IZ l m)=add (cS l) (cS m):=
 ⟨.toS<|Gd.nil.adds _,Su.yu (P:=λo=>o.Perm<|rg n)<|Su.vZ (P:=λo=>o.Perm<|rg n) _ (nofun) λx hx=>(bE.mp hx).elim (pl x)<|pm x,funext λo=>funext λt=>by
  show cS (toS<|adds []<|l++m) o t=_;rw[v5,Su.Bm];rfl⟩
abbrev one (n:Nat):Ps:=[(rg n,[((0:Int),(1:Int))])]
def OF(o:ag){p:Pl}(hp:Ok p)(h0:p≠[]):Cn [(o,p)]:=by
 have g:Gd [(o,p)]:=⟨dg.mpr ⟨(λz=>nomatch z),d9⟩,λe he=>by rw[aP.mp he];exact hp⟩;exact⟨g,(Qs g λe he=>by rw[aP.mp he];exact h0).symm⟩
def IG:Ok [((0:Int),(1:Int))]:=⟨cu _ _,λp hp=>by rw[aP.mp hp];decide⟩
def HM(n:Nat):∀x∈one n,x.1.Perm (rg n):=λx hx=>by rw[aP.mp hx]
end He
namespace He
open PySem L2 Am Po
open Fw (Two rg yY)
open Su (oW Ps cS Gd vS toS adds bx)
abbrev arr:Nat->ag->List (ag)
 | 0,_=>[[]]
 | m+1,l=>l.flatMap λx=>(arr m<|l.erase x).map (x::·)
theorem L7:∀{m:Nat}{l o:ag},o.Perm l->l.length=m->o∈arr m l
 | 0,l,o,p,h=>by
  have:l=[]:=eE.mp h;subst this;rw[p.eq_nil];exact aP.mpr rfl
 | m+1,l,[],p,h=>by rw[<- p.length_eq]at h;cases h
 | m+1,l,x::o,p,h=>by
  obtain⟨h1,h2⟩:=List.cons_perm_iff_perm_erase.mp p;refine fR.mpr ⟨x,h1,br.mpr ⟨o,L7 h2 ?_,rfl⟩⟩;rw[List.length_erase_of_mem h1,h];rfl
def Nd{α:Type}[DecidableEq α]{ks L:List α}(nd:ks.Nodup)(h:∀x∈ks,x∈L):ks.length<=L.length:=by
 have:=pig L.length (ks.map λx=>L.idxOf x) ?_ λi hi=>?_
 ·rwa [aG]at this
 ·refine cI.mpr<|nd.imp_of_mem λ{a b} ha hb hab z=>hab ?_;have e1:=i7<|fF.mpr<|h a ha;have e2:=i7<|fF.mpr<|h b hb;rw[<- e1,<- e2];congr 1
 ·obtain⟨x,hx,rfl⟩:=br.mp hi;exact fF.mpr<|h x hx
def UP:∀n,n<6->(arr n<|rg n).length<=120:=by decide +kernel
def many{n:Nat}(hn:n<6){ks:List<|ag}(nd:ks.Nodup)(h:∀o∈ks,o.Perm<|rg n):ks.length<=120:=
 bB (Nd nd λo ho=>L7 (h o ho)<|Wd.jZ n) (UP n hn)
structure FB (n P C:Nat)(f:Fn):Prop where
 c:∀o,o.Perm (rg n)->∀t,(f o t).natAbs<=C
 p:∀o,o.Perm (rg n)->∀t:Int,P<t.natAbs->f o t=0
def FB.mono{n P:Nat}{f:Fn}(h:FB n P C f)(hp:P<=P')(hc:C<=C'):FB n P' C' f:=⟨λo po t=>bB (h.c o po t) hc,λo po t ht=>h.p o po t ()⟩
def FB.eq{n P:Nat}{f g:Fn}(h:FB n P C f)(e:pI n g f):FB n P C g:=⟨λo po t=>by rw[e o po t];exact h.c o po t,λo po t ht=>by rw[e o po t];exact h.p o po t ht⟩
theorem FB.X{n P k:Nat}{f:Fn}(h:FB n P C f)(h0:1<=k)(h1:k<n):FB n (P+1) (3 * C) (X k f):=by
 refine⟨λo po t=>?_,λo po t ht=>?_⟩
 ·have a:=h.c _ (mX po h0 h1) t;have b:=h.c o po<|t+1;have d:=h.c o po<|t-1;unfold He.X dl;split<;>omega
 ·have a:=h.p _ (mX po h0 h1) t (by omega);have b:=h.p o po (t+1) (by omega);have d:=h.p o po (t-1) (by omega);unfold He.X dl;split<;>omega
theorem FB.add{n P:Nat}{f g:Fn}(h:FB n P C f)(h':FB n P C' g):FB n P (C+C') (add f g):=by
 refine⟨λo po t=>?_,λo po t ht=>?_⟩
 ·have a:=h.c o po t;have b:=h'.c o po t;show(f o t+g o t).natAbs<=_;omega
 ·show f o t+g o t=0;rw[h.p o po t ht,h'.p o po t ht];rfl
structure PB (Q c:Nat)(p:Pl):Prop where
 c:∀q∈p,q.2.natAbs<=c
 p:∀q∈p,q.1.natAbs<=Q
theorem YA{n P c:Nat}{f:Fn}(h:FB n P C f){o:ag}(po:o.Perm<|rg n):∀{p:Pl},PB Q c p->(∀t,(cv p (f o) t).natAbs<=p.length * (c * C))/\∀t:Int,P+Q<t.natAbs->cv p (f o) t=0
 | [],_=>⟨λ_=>bP _,λ_ _=>rfl⟩
 | q::p,b=>by
  obtain⟨i1,i2⟩:=YA h po (p:=p) ⟨λx hx=>b.c x<|aN _ hx,λx hx=>b.p x<|aN _ hx⟩;have q1:=b.c q<|aM ..;have q2:=b.p q<|aM ..;refine⟨λt=>?_,λt ht=>?_⟩
  ·show(q.2 * f o (t-q.1)+cv p (f o) t).natAbs<=(p.length+1) * (c * C);refine bB (Int.natAbs_add_le _ _) ?_;rw[Int.natAbs_mul,d7,add_comm];exact Nat.add_le_add (i1 t) (dG q1<|h.c o po _)
  ·show q.2 * f o (t-q.1)+cv p (f o) t=0;rw[i2 t ht,h.p o po _<|by omega,jv];rfl
theorem FB.BL{n P c:Nat}{f:Fn}(h:FB n P C f){p:Pl}(b:PB Q c p):FB n (P+Q) (p.length * (c * C)) (BL p f):=⟨λo po t=>(YA h po b).1 t,λo po t ht=>(YA h po b).2 t ht⟩
theorem pO:∀{w:am}{l:ag},Wd.j6 l w->Iv.inv (Wd.led l w)=Iv.inv l+w.length
 | [],_,_=>rfl
 | k::w,l,h=>by
  have:=pO h.2.2.2;rw[Fw.Bv h.1 h.2.1 h.2.2.1]at this;show Iv.inv (Wd.led (Wd.ex l k) w)=_+(w.length+1)
  lia
def HE{n:Nat}{o:ag}(h:o.Perm<|rg n):(sw n o).length=Iv.inv o:=by
 obtain⟨a,b⟩:=Dq h;have:=pO a;rw[b,Fw.vO]at this
 lia
def HW{n:Nat}(hn:n<6){o:ag}(h:o.Perm<|rg n):Iv.inv o<=25:=by
 have:=Iv.BH o;rw[h.length_eq,Wd.jZ]at this;exact bB this<|dG (show n<=5 by lia)<|show n<=5 by lia
def FB.zero(n P C:Nat):FB n P C λ_ _=>0:=⟨λ_ _ _=>bP _,λ_ _ _ _=>rfl⟩
theorem QD:∀{l:Pl}{a b:Int},l.Pairwise (λp q=>p.1<q.1)->(∀p∈l,a<=p.1/\p.1<=b)->l.length<=(b-a+1).toNat
 | [],_,_,_,_=>bP _
 | p::l,a,b,h,hb=>by
  obtain⟨h1,h2⟩:=bQ.mp h;have p1:=hb p<|aM ..;have i:=QD (l:=l) (a:=a+1) (b:=b) h2 λq hq=>by
   have:=h1 q hq;have:=hb q (aN _ hq)
   lia
  rw[bz]
  lia
def Nn{p:Pl}{P c:Nat}(h:Ok p)(b:PB P c p):p.length<=2 * P+1:=by
 have:=QD (a:=-(P:Int)) (b:=P) h.up λq hq=>by have:=b.p q hq;omega
 omega
def FB.pb{n P:Nat}{l:Ps}(h:FB n P C<|cS l)(hc:Gd l)(pl:∀x∈l,x.1.Perm<|rg n){e:ag×Pl}(he:e∈l):PB P C e.2/\e.2.length<=2 * P+1:=by
 have ok:=hc.ok e he;have at_:∀q∈e.2,cS l e.1 q.1=q.2:=λq hq=>by
  rw[wV hc,zK hc he];exact Su.Ok.HH ok hq
 have b:PB P C e.2:=⟨λq hq=>by rw[<- at_ q hq];exact h.c _ (pl e he) _,λq hq=>by
  refine iB λz=>ok.nz q hq ?_;rw[<- at_ q hq];exact h.p _ (pl e he) _ z⟩
 exact⟨b,Nn ok b⟩
structure Sz (n P C:Nat)(l:Ps):Prop where
 cn:Cn l
 pm:∀x∈l,x.1.Perm (rg n)
 fb:FB n P C<|cS l
def Sz.pb{n P:Nat}{l:Ps}(h:Sz n P C l){e:ag×Pl}(he:e∈l):PB P C e.2/\e.2.length<=2 * P+1:=h.fb.pb h.cn.gd h.pm he
def Sz.many{n P:Nat}{l:Ps}(hn:n<6)(h:Sz n P C l):l.length<=120:=by
 have:=He.many hn h.cn.gd.nd λo ho=>by obtain⟨e,he,rfl⟩:=br.mp ho;exact h.pm e he
 rwa [aG]at this
def Sz.mono{n P:Nat}{l:Ps}(h:Sz n P C l)(hp:P<=P')(hc:C<=C'):Sz n P' C' l:=⟨h.cn,h.pm,h.fb.mono hp hc⟩
theorem Sz.bx{n P k:Nat}{l:Ps}(h:Sz n P C l)(h0:1<=k)(h1:k<n):Sz n (P+1) (3 * C) (bx k l):=⟨aaI _ _,VH h0 h1 h.pm,(h.fb.X h0 h1).eq<|aaa h.pm h0 h1⟩
end He
namespace Su
open Am Po PySem L2
def MW{D:Es}{r:Nat}{p:Pl}:∃e,fE (p6 D o r p) o=some e/\e.2.1=r:=by
 unfold p6;by_cases c:(fE D o).isSome=true
 ·rw[aL c];obtain⟨e,he⟩:=fB.mp c;unfold fE at he ⊢;rw[iY];have eq:((λe:En=>decide<|e.1=o) ∘ λe:En=>if e.1=o then(e.1,r,p)else e)=λe:En=>decide (e.1=o):=by
   funext x
   show decide ((if x.1=o then(x.1,r,p)else x).1=o)=_;by_cases z:x.1=o
   ·rw[aL z]
   ·rw[aJ z]
  rw[eq,he];have:=jB he;have:=bO this;exact⟨_,rfl,by show(if e.1=o then(e.1,r,p)else e).2.1=r;rw[aL this]⟩
 ·rw[aJ c];have c:fE D o=none:=Option.not_isSome_iff_eq_none.mp c;unfold fE at c ⊢;rw[List.find?_append,c];exact⟨(o,r,p),by rw[cR,bg rfl];rfl,rfl⟩
end Su
namespace He
open PySem L2 Am Po
open Fw (Two rg yY)
open Su (oW Ps cS Gd vS toS adds bx)
def Sz.of{n P:Nat}{l:Ps}(h:Cn l)(pm:∀x∈l,x.1.Perm<|rg n)(pb:∀e∈l,PB P C e.2):Sz n P C l:=by
 refine⟨h,pm,⟨λo po t=>?_,λo po t ht=>?_⟩⟩
 ·rw[wV h.gd]
  rcases Su.vA (D:=l) (o:=o)with⟨e,h1,_,h3⟩|⟨_,h2⟩
  ·rw[h3];exact Su.ZR (h.gd.ok e h1) (λq hq=>(pb e h1).c q hq) t
  ·rw[h2];exact bP _
 ·rw[wV h.gd]
  rcases Su.vA (D:=l) (o:=o)with⟨e,h1,_,h3⟩|⟨_,h2⟩
  ·rw[h3];have:∀q∈e.2,q.1≠t:=λq hq z=>by have:=(pb e h1).p q hq;rw[z]at this;lia
   clear h3;revert this;generalize e.2=p0;intro this
   induction p0 with
   | nil=>rfl
   | cons q p ih=>
    have z:=this q<|aM ..;have i:=ih λx hx=>this x<|aN _ hx;show(if q.1=t then q.2 else 0)+cf p t=0;rw[aJ z,i];rfl
  ·rw[h2];rfl
theorem PB.times{P c:Nat}{p q:Pl}(hp:PB P C p)(hq:PB Q c q):(times p q).length<=2 * (P+Q)+1:=by
 refine Nn (c:=p.length * q.length * (C * c)) (Po.rR p q) ⟨λx hx=>?_,λx hx=>?_⟩
 ·have a:=Su.Ok.HH (Po.rR p q) hx;rw[Su.xP]at a;rw[<- a,<- Po.we];have:∀l:Pl,Bd (C * c) l->(cf l x.1).natAbs<=l.length * (C * c):=λl=>by
   induction l with
   | nil=>exact λ_=>bP _
   | cons y l ih=>
    intro hb;have i:=ih λz hz=>hb z<|aN _ hz;have j:=hb y<|aM ..;show((if y.1=x.1 then y.2 else 0)+cf l x.1).natAbs<=(l.length+1) * (C * c);rw[d7];split<;>omega
  exact this _<|Bd.BC (λz hz=>hp.c z hz) λz hz=>hq.c z hz
 ·refine iB λz=>(Po.rR p q).nz x hx ?_;rw[<- Su.Ok.HH (Po.rR p q) hx,Su.xP];have:∀l:Pl,(∀y∈l,y.1.natAbs<=P+Q)->cf l x.1=0:=λl=>by
   induction l with
   | nil=>exact λ_=>rfl
   | cons y l ih=>
    intro hb;have i:=ih λz hz=>hb z<|aN _ hz;have j:=hb y<|aM ..;show(if y.1=x.1 then y.2 else 0)+cf l x.1=0;rw[i,aJ λw=>by rw[w]at j;omega];rfl
  refine this _ λy hy=>?_;unfold BC at hy;obtain⟨u,hu,hy⟩:=fR.mp hy;obtain⟨v,hv,rfl⟩:=br.mp hy;have:=hp.p u hu;have:=hq.p v hv
  skip
  omega
end He
namespace He
open PySem L2 Am Po
open Fw (Two rg yY)
open Su (oW Ps cS Gd vS toS adds bx)
def ex_map(f:Int->Int){o:ag}{k:Nat}(h0:1<=k)(h1:k<o.length):Wd.ex (o.map f) k=(Wd.ex o k).map f:=by
 apply cW;intro p;rw[Wd.o6 h0<|by rw[aG];exact h1,aV,aV,aV,aV,Wd.o6 h0 h1];split
 ·rfl
 ·split<;>rfl
theorem BD{n:Nat}:∀{w:am}{l:ag},l.Perm (rg n)->Va n w->Iv.inv (Wd.led l w)<=Iv.inv l+w.length/\(Iv.inv (Wd.led l w)=Iv.inv l+w.length->Wd.j6 l w)
 | [],l,_,_=>⟨aO _,λ_=>trivial⟩
 | k::w,l,p,v=>by
  have v1:=v k<|aM ..;have ll:l.length=n:=by rw[p.length_eq,Wd.jZ]
  obtain⟨i1,i2⟩:=BD (w:=w) (mX p v1.1 v1.2) λj hj=>v j<|aN _ hj;have i1:Iv.inv (Wd.led l (k::w))<=Iv.inv (Wd.ex l k)+w.length:=i1;have i2:Iv.inv (Wd.led l (k::w))=Iv.inv (Wd.ex l k)+w.length->Wd.j6 (Wd.ex l k) w:=i2;rw[bz]
  rcases Nat.lt_or_ge 0 0 with z|_
  ·lia
  ·by_cases c:l.getD (k-1) 0<l.getD k 0
   ·have u:=Fw.Bv v1.1 () c;exact⟨(),λh=>⟨v1.1,(),c,i2 ()⟩⟩
   ·have ne:=nb p v1.1 v1.2;have u:=Fw.qz v1.1 () (show l.getD k 0<l.getD (k-1) 0 by lia);exact⟨(),λh=>absurd h ()⟩
theorem D5{n:Nat}:∀{w:am}{l:ag},l.Perm (rg n)->Va n w->(Wd.led l w).Perm (rg n)
 | [],_,p,_=>p
 | k::w,l,p,v=>D5 (w:=w) (mX p (v k<|aM ..).1 (v k<|aM ..).2) λj hj=>v j<|aN _ hj
end He
namespace He
open PySem L2 Am Po
open Fw (Two rg yY)
open Su (oW Ps cS Gd vS toS adds bx)
def Ef{n:Nat}{w:am}(h:Wd.j6 (rg n) w):Wd.j6 (rg n) w.reverse:=by
 have va:Va n w:=λk hk=>by have:=Wd.j6.valid h k hk;rwa [Wd.jZ]at this
 have var:Va n w.reverse:=λk hk=>va k<|eN.mp hk;have pr:=D5 (qh n) var;obtain⟨z1,z2⟩:=Dq pr;have vz:=VR pr;have vzr:Va n (sw n<|Wd.led (rg n) w.reverse).reverse:=λk hk=>vz k<|eN.mp hk;have b1:=Wd.m5 (sw n<|Wd.led (rg n) w.reverse).reverse vzr;rw[gh,z2]at b1;have e:=pP ⟨pr,D5 (qh n) vzr,b1⟩ ⟨pr,D5 (qh n) va,Wd.m5 w va⟩;have l1:=(BD (qh n) vzr).1;rw[e,Fw.vO,fK,HE pr]at l1;have l2:=pO h;have l3:=(BD (qh n) var).1;refine(BD (qh n) var).2 ?_;rw[Fw.vO,fK]at *
 lia
abbrev Y (k:Nat)(f:Fn):Fn:=λo t=>X k f o t-dl (f o) t
abbrev Yw (w:am)(f:Fn):Fn:=w.foldl (λf k=>Y k f) f
def acs{n k:Nat}{f g:Fn}(h:pI n f g)(h0:1<=k)(h1:k<n):pI n (Y k f) (Y k g):=λo p t=>by
 unfold Y;rw[Y3 h h0 h1 o p t,show f o=g o from funext λt=>h o p t]
theorem Lo{n:Nat}:∀{w:am}{f g:Fn},Va n w->pI n f g->pI n (Yw w f) (Yw w g)
 | [],_,_,_,h=>h
 | k::w,f,g,v,h=>Lo (w:=w) (λj hj=>v j<|aN _ hj)<|acs h (v k<|aM ..).1 (v k<|aM ..).2
def ab6(k:Nat)(f:Fn)(o:ag)(t:Int):X k (λo t=>dl (f o) t) o t=dl (X k f o) t:=by
 unfold X dl;dsimp only;split<;>lia
def Z1(k:Nat)(f g:Fn)(o:ag)(t:Int):X k (λo t=>f o t-g o t) o t=X k f o t-X k g o t:=by
 unfold X dl;dsimp only;split<;>lia
def X_Y{n k:Nat}(h0:1<=k)(h1:k<n)(f:Fn):pI n (X k<|Y k f) f:=λo p t=>by
 have a:X k (Y k f) o t=X k (X k f) o t-X k (λo t=>dl (f o) t) o t:=Z1 k (X k f) (λo t=>dl (f o) t) o t;rw[a,X_X h0 h1 f o p t,ab6];dsimp only
 lia
def Y_X{n k:Nat}(h0:1<=k)(h1:k<n)(f:Fn):pI n (Y k<|X k f) f:=λo p t=>by
 show X k (X k f) o t-dl (X k f o) t=_;rw[X_X h0 h1 f o p t];dsimp only
 lia
def SH(w:am)(k:Nat)(f:Fn):Yw (w++[k]) f=Y k (Yw w f):=by unfold Yw;rw[dc];rfl
def J4(w:am)(k:Nat)(f:Fn):Xw (w++[k]) f=X k (Xw w f):=by unfold Xw;rw[dc];rfl
theorem aab{n:Nat}:∀{w:am}{f:Fn},Va n w->pI n (Xw w.reverse<|Yw w f) f
 | [],_,_=>.refl
 | k::w,f,v=>by
  have v1:=v k<|aM ..;rw[f_,J4];exact(Y3 (aab (w:=w) (f:=Y k f) λj hj=>v j<|aN _ hj) v1.1 v1.2).trans (X_Y v1.1 v1.2 f)
theorem aav{n:Nat}:∀{w:am}{f:Fn},Va n w->pI n (Yw w<|Xw w.reverse f) f
 | [],_,_=>.refl
 | k::w,f,v=>by
  have v1:=v k<|aM ..;have v2:Va n w:=λj hj=>v j<|aN _ hj;rw[f_,J4]
  skip
  exact(Lo v2<|Y_X v1.1 v1.2 _).trans (aav v2)
abbrev LB:Pl:=[((-1:Int),(-1:Int)),((1:Int),(1:Int))]
def Z6(g:Int->Int)(t:Int):cv LB g t=- dl g t:=by
 show -1 * g (t - -1)+(1 * g (t-1)+0)=-(g (t+1)-g (t-1));rw[show t - -1=t+1 by lia];lia
abbrev P9 (p:Pl)(l:Ps):Ps:=toS<|adds []<|Hw p l
def O9(p:Pl)(l:Ps):cS (P9 p l)=BL p (cS l):=by
 funext o t
 unfold P9;rw[v5,Eh]
def QN{n:Nat}{p:Pl}{l:Ps}(pl:∀x∈l,x.1.Perm<|rg n):Cn (P9 p l)/\∀x∈P9 p l,x.1.Perm (rg n):=
 ⟨.toS<|Gd.nil.adds _,Su.yu (P:=λo=>o.Perm<|rg n) (Su.vZ (P:=λo=>o.Perm<|rg n) _ (nofun) λx hx=>by
  obtain⟨y,hy,rfl⟩:=br.mp hx;exact pl y hy)⟩
abbrev yb (k:Nat)(l:Ps):Ps:=IZ (bx k l)<|P9 LB l
def OI{n k:Nat}{l:Ps}(h0:1<=k)(h1:k<n)(pl:∀x∈l,x.1.Perm<|rg n):Cn (yb k l)/\(∀x∈yb k l,x.1.Perm<|rg n)/\pI n (cS<|yb k l) (Y k<|cS l):=by
 obtain⟨a,b,c⟩:=Tf (VH h0 h1 pl) (QN (p:=LB) pl).2;refine⟨a,b,λo p t=>?_⟩;show cS (IZ (bx k l)<|P9 LB l) o t=_;rw[c,O9];show cS (bx k l) o t+cv LB (cS l o) t=X k (cS l) o t-dl (cS l o) t;rw[aaa pl h0 h1 o p t,Z6];lia
abbrev A_ (w:am)(l:Ps):Ps:=w.foldl (λl k=>yb k l) l
def ND(w:am)(k:Nat)(l:Ps):A_ (w++[k]) l=yb k (A_ w l):=by unfold A_;rw[dc];rfl
theorem I_{n:Nat}:∀{w:am}{l:Ps},Va n w->Cn l->(∀x∈l,x.1.Perm<|rg n)->Cn (A_ w l)/\(∀x∈A_ w l,x.1.Perm<|rg n)/\pI n (cS<|A_ w l) (Yw w<|cS l)
 | [],_,_,c,p=>⟨c,p,.refl⟩
 | k::w,l,v,c,p=>by
  have v1:=v k<|aM ..;have v2:Va n w:=λj hj=>v j<|aN _ hj;obtain⟨a1,a2,a3⟩:=OI v1.1 v1.2 p;obtain⟨b1,b2,b3⟩:=I_ v2 a1 a2;exact⟨b1,b2,b3.trans<|Lo v2 a3⟩
def aak{n:Nat}{w:am}(h:Wd.j6 (rg n) w)(h':Wd.j6 (rg n) w')(e:Wd.led (rg n) w=Wd.led (rg n) w'){l:Ps}(hc:Cn l)(hl:∀x∈l,x.1.Perm<|rg n):pI n (Yw w<|cS l) (Yw w'<|cS l):=by
 have va:Va n w:=λk hk=>by have:=Wd.j6.valid h k hk;rwa [Wd.jZ]at this
 have va':Va n w':=λk hk=>by have:=Wd.j6.valid h' k hk;rwa [Wd.jZ]at this
 have var:Va n w.reverse:=λk hk=>va k<|eN.mp hk;have var':Va n w'.reverse:=λk hk=>va' k<|eN.mp hk;obtain⟨_,g2,g3⟩:=I_ va' hc hl;have b1:=Wd.m5 w va;have b2:=Wd.m5 w' va';have er:Wd.led (rg n) w.reverse=Wd.led (rg n) w'.reverse:=by
  have p:=D5 (qh n) va;have c1:=Wd.m5 w.reverse var;have c2:=Wd.m5 w'.reverse var';rw[gh]at c1 c2;rw[<- e]at c2;exact pP ⟨p,D5 (qh n) var,c1⟩ ⟨p,D5 (qh n) var',c2⟩
 have s:pI n (Xw w.reverse<|Yw w'<|cS l) (cS l):=by
  refine(DC var g3.symm).trans ((Rh (Ef h) (Ef h') er g2).trans<|(DC var' g3).trans ?_);exact aab va'
 exact(Lo va s.symm).trans (aav va)
abbrev bT (n:Nat)(o:ag):Fn:=Yw (sw n o)<|cS<|one n
def IU(n:Nat):Cn (one n):=OF _ IG<|by simp
def Ub{n:Nat}{o:ag}{w:am}(po:o.Perm<|rg n)(h:Wd.j6 (rg n) w)(e:Wd.led (rg n) w=o):pI n (bT n o) (Yw w<|cS<|one n):=by
 obtain⟨a,b⟩:=Dq po;exact aak a h (b.trans e.symm) (IU n)<|HM n
abbrev Bt (n:Nat):Ps->Fn
 | []=>λ_ _=>0
 | e::m=>add (BL (turn e.2)<|bT n e.1)<|Bt n m
abbrev tO (n:Nat)(w:am):Ps:=A_ w<|one n
def CV{n:Nat}{o:ag}{w:am}(po:o.Perm<|rg n)(h:Wd.j6 (rg n) w)(e:Wd.led (rg n) w=o):Cn (tO n w)/\(∀x∈tO n w,x.1.Perm<|rg n)/\pI n (cS<|tO n w) (bT n o):=by
 have va:Va n w:=λk hk=>by have:=Wd.j6.valid h k hk;rwa [Wd.jZ]at this
 obtain⟨a,b,c⟩:=I_ va (IU n)<|HM n;exact⟨a,b,c.trans (Ub po h e).symm⟩
structure Fwd (n:Nat)(W:ag->am):Prop where
 r:∀o,o.Perm (rg n)->Wd.j6 (rg n) (W o)
 e:∀o,o.Perm (rg n)->Wd.led (rg n) (W o)=o
def Fwd.va{n:Nat}{W:ag->am}(h:Fwd n W){o:ag}(po:o.Perm<|rg n):Va n (W o):=λk hk=>by have:=Wd.j6.valid (h.r o po) k hk;rwa [Wd.jZ]at this
abbrev Sk (n:Nat)(W:ag->am)(m:Ps):Ps:=m.flatMap λe=>Hw (turn e.2)<|tO n<|W e.1
abbrev tu (n:Nat)(W:ag->am)(m:Ps):Ps:=toS<|adds []<|Sk n W m
def W7{n:Nat}{W:ag->am}(hW:Fwd n W){m:Ps}(pm:∀x∈m,x.1.Perm<|rg n):∀x∈Sk n W m,x.1.Perm (rg n):=λx hx=>by
 obtain⟨e,he,hx⟩:=fR.mp hx;obtain⟨y,hy,rfl⟩:=br.mp hx;exact(CV (pm e he) (hW.r _<|pm e he)<|hW.e _<|pm e he).2.1 y hy
theorem VL{n:Nat}{W:ag->am}(hW:Fwd n W):∀{m:Ps},(∀x∈m,x.1.Perm<|rg n)->pI n (cS<|Sk n W m) (Bt n m)
 | [],_=>.refl
 | e::m,pm=>λo p t=>by
  have pe:=pm e<|aM ..;show cS (Hw (turn e.2) (tO n<|W e.1)++Sk n W m) o t=cv (turn e.2) (bT n e.1 o) t+Bt n m o t;rw[Su.Bm,Eh,VL hW (λx hx=>pm x<|aN _ hx) o p t];congr 1;exact KG _ (CV pe (hW.r _ pe)<|hW.e _ pe).2.2 o p t
def Ov{n:Nat}{W:ag->am}(hW:Fwd n W){m:Ps}(pm:∀x∈m,x.1.Perm<|rg n):Cn (tu n W m)/\(∀x∈tu n W m,x.1.Perm<|rg n)/\pI n (cS<|tu n W m) (Bt n m):=
 ⟨.toS<|Gd.nil.adds _,Su.yu (P:=λo=>o.Perm<|rg n)<|Su.vZ (P:=λo=>o.Perm<|rg n) _ (nofun)<|W7 hW pm,λo p t=>by
  show cS (toS<|adds []<|Sk n W m) o t=_;rw[v5];exact VL hW pm o p t⟩
end He
namespace He
open PySem L2 Am Po
open Fw (Two rg yY Dn)
open Su (oW Ps cS Gd vS toS adds bx)
def Xj{n:Nat}{o:ag}(po:o.Perm<|rg n):Iv.inv (bk o)=Iv.inv o:=by
 obtain⟨a,b⟩:=Dq po;have va:=VR po;have var:Va n (sw n o).reverse:=λk hk=>va k<|eN.mp hk;have c:=Wd.m5 (sw n o).reverse var;rw[gh,b]at c;have e:=pP ⟨po,D5 (qh n) var,c⟩<|oY po;have l:=pO<|Ef a;rw[e,Fw.vO,fK,HE po]at l
 lia
abbrev fwd (o:ag):am:=(Fw.F3 _ (bk o)<|aO _).choose
def QM(o:ag):Dn (bk o) (fwd o):=(Fw.F3 _ (bk o)<|aO _).choose_spec
def LP{n:Nat}{o:ag}(po:o.Perm<|rg n):Wd.j6 (rg n) (fwd o)/\Wd.led (rg n) (fwd o)=o:=by
 have d:=QM o;have va:Va n (fwd o):=by
  have:=d.va
  rwa [(DR po).length_eq,Wd.jZ]at this
 have e:=(oY po).led d;refine⟨(BD (qh n) va).2 ?_,e⟩;rw[e,Fw.vO,d.len,Xj po,bR]
theorem Bk:∀{w:am}{l:ag}{k:Nat},Wd.j6 l (w++[k])->Wd.j6 l w/\1<=k/\k<l.length/\(Wd.led l w).getD (k-1) 0<(Wd.led l w).getD k 0
 | [],_,_,h=>⟨trivial,h.1,h.2.1,h.2.2.1⟩
 | j::w,l,k,h=>by
  obtain⟨a,b,c,d⟩:=Bk (w:=w) h.2.2.2;rw[Wd.lI]at c;exact⟨⟨h.1,h.2.1,h.2.2.1,a⟩,b,c,d⟩
def Ce{n:Nat}{o:ag}(po:o.Perm<|rg n){k:Nat}(h:(fwd o).getLast?=some k):1<=k/\k<n/\oW o k=true:=by
 obtain⟨a,b⟩:=LP po;obtain⟨w,hw⟩:=List.getLast?_eq_some_iff.mp h;rw[hw]at a b;obtain⟨_,c,d,e⟩:=Bk a;rw[Wd.wo]at b;have b:Wd.ex (Wd.led (rg n) w) k=o:=b;have lw:(Wd.led (rg n) w).length=n:=by rw[Wd.EJ,Wd.jZ]
 rw[Wd.jZ]at d;obtain⟨z1,z2⟩:=Su.FE c (show k<(Wd.led (rg n) w).length by lia);refine⟨c,d,bg ?_⟩;rw[<- b,z1,z2];exact e
abbrev vwF:Nat->ag->am
 | 0,_=>[]
 | m+1,o=>match (fwd o).getLast? with
  | none=>[]
  | some k=>vwF m (Wd.ex o k)++[k]
abbrev vw (o:ag):am:=vwF (Iv.inv o) o
def JZ{n:Nat}{o:ag}(po:o.Perm<|rg n)(h:(fwd o).getLast?=none):o=rg n:=by
 have:=List.getLast?_eq_none_iff.mp h;have e:=(LP po).2;rw[this]at e;exact e.symm
def YS(h:(fwd o).getLast?=none):vw o=[]:=by
 unfold vw
 cases Iv.inv o with
 | zero=>rfl
 | succ m=>unfold vwF;rw[h]
def Lv{n:Nat}{o:ag}(po:o.Perm<|rg n){k:Nat}(h:(fwd o).getLast?=some k):vw o=vw (Wd.ex o k)++[k]:=by
 obtain⟨a,b,c⟩:=Ce po h;have lo:o.length=n:=by rw[po.length_eq,Wd.jZ]
 have d:=Fw.qz a () (show o.getD k 0<o.getD (k-1) 0 by have:=bO c;lia);unfold vw;rw[d]
 conv=>lhs;unfold vwF
 rw[h]
def GZ{n:Nat}:∀(m:Nat) {o:ag},Iv.inv o=m->o.Perm (rg n)->Wd.j6 (rg n) (vw o)/\Wd.led (rg n) (vw o)=o:=by
 intro m
 induction m with
 | zero=>
  intro o hm po;have e:o=rg n:=Fw.GW po λk hk=>by
   have:=Fw.qz hk.1 hk.2.1 hk.2.2
   lia
  have:vw o=[]:=by unfold vw;rw[hm];rfl
  rw[this,e];exact⟨trivial,rfl⟩
 | succ m ih=>
  intro o hm po
  cases h:(fwd o).getLast? with
  | none=>
   have e:=JZ po h;rw[e,Fw.vO]at hm
   cases hm
  | some k=>
   obtain⟨a,b,c⟩:=Ce po h;have lo:o.length=n:=by rw[po.length_eq,Wd.jZ]
   have cc:=bO c;have d:=Fw.qz a () (show o.getD k 0<o.getD (k-1) 0 by lia);obtain⟨i1,i2⟩:=ih (o:=Wd.ex o k) ()<|mX po a b;rw[Lv po h];obtain⟨z1,z2⟩:=Su.FE a (show k<o.length by lia);refine⟨Wd.j6.snoc i1 a (by rw[Wd.jZ];exact b)<|by rw[i2,z1,z2];lia,?_⟩;rw[Wd.wo,i2];exact Fw.sq a ()
def EN(n:Nat):Fwd n vw:=⟨λo po=>(GZ _ rfl po).1,λo po=>(GZ _ rfl po).2⟩
abbrev tV (n:Nat)(o:ag):Ps:=tO n<|vw o
def Xl{n:Nat}{o:ag}(po:o.Perm<|rg n)(h:(fwd o).getLast?=none):tV n o=[(o,[((0:Int),(1:Int))])]:=by
 unfold tV;rw[YS h,JZ po h];rfl
def Tc{n:Nat}{o:ag}(po:o.Perm<|rg n){k:Nat}(h:(fwd o).getLast?=some k):tV n o=yb k (tV n<|Wd.ex o k):=by
 unfold tV;rw[Lv po h];exact ND _ _ _
theorem FB.Y{n P k:Nat}{f:Fn}(h:FB n P C f)(h0:1<=k)(h1:k<n):FB n (P+1) (5 * C) (Y k f):=by
 have x:=h.X h0 h1;refine⟨λo po t=>?_,λo po t ht=>?_⟩
 ·have a:=x.c o po t;have b:=h.c o po<|t+1;have d:=h.c o po<|t-1;show(He.X k f o t-(f o (t+1)-f o (t-1))).natAbs<=_
  lia
 ·have a:=x.p o po t ();have b:=h.p o po (t+1) ();have d:=h.p o po (t-1) ();show He.X k f o t-(f o (t+1)-f o (t-1))=0
  lia
theorem Sz.yb{n P k:Nat}{l:Ps}(h:Sz n P C l)(h0:1<=k)(h1:k<n):Sz n (P+1) (5 * C) (yb k l):=by
 obtain⟨a,b,c⟩:=OI h0 h1 h.pm;exact⟨a,b,(h.fb.Y h0 h1).eq c⟩
theorem Sz.A_{n:Nat}:∀{w:am}{P C:Nat}{l:Ps},Sz n P C l->Va n w->Sz n (P+w.length) (5 ^ w.length * C) (A_ w l)
 | [],P,C,l,h,_=>by
  show Sz n (P+0) (1 * C) l;rw[add_zero,fy];exact h
 | k::w,P,C,l,h,v=>by
  have v1:=v k<|aM ..;have:=Sz.A_ (h.yb v1.1 v1.2) (w:=w) λj hj=>v j<|aN _ hj;show Sz n (P+(w.length+1)) (5 ^ (w.length+1) * C) (He.A_ w<|He.yb k l);rw[show P+(w.length+1)=P+1+w.length by lia,Nat.pow_succ,Nat.mul_assoc];exact this
def Iz(n:Nat):Sz n 0 1 (one n):=Sz.of (IU n) (HM n) λe he=>by
 rw[aP.mp he];exact⟨λq hq=>by rw[aP.mp hq];decide,λq hq=>by rw[aP.mp hq];decide⟩
def P6{n:Nat}(hn:n<6){o:ag}(po:o.Perm<|rg n):Sz n 25 (5 ^ 25) (tV n o):=by
 obtain⟨a,b⟩:=GZ _ rfl po;have l:=pO a;rw[b,Fw.vO]at l;have i:=HW hn po;have:=(Iz n).A_<|(EN n).va po;refine this.mono () ?_;rw[Nat.mul_one];exact dN ⋯ ()
theorem PB.turn{c:Nat}{p:Pl}(h:PB Q c p):PB Q c (turn p):=by
 refine⟨λq hq=>?_,λq hq=>?_⟩
 ·obtain⟨x,hx,rfl⟩:=br.mp hq;exact h.c x (eN.mp hx)
 ·obtain⟨x,hx,rfl⟩:=br.mp hq;have:=h.p x<|eN.mp hx;show(-x.1).natAbs<=Q
  lia
def Gu(p:Pl):(turn p).length=p.length:=by unfold turn;rw[aG,fK]
theorem FB.Bt{n c K:Nat}(hn:n<6):∀{m:Ps},(∀x∈m,x.1.Perm<|rg n)->(∀x∈m,PB Q c x.2/\x.2.length<=K)->FB n (25+Q) (m.length * (K * (c * 5 ^ 25))) (Bt n m)
 | [],_,_=>FB.zero ..
 | e::m,hm,hb=>by
  have he:=hm e<|aM ..;obtain⟨b1,b2⟩:=hb e<|aM ..;have i:=FB.Bt hn (m:=m) (λx hx=>hm x<|aN _ hx) λx hx=>hb x<|aN _ hx;have t:=(P6 hn he).fb.eq (CV he (GZ _ rfl he).1 (GZ _ rfl he).2).2.2.symm;have b:=(t.BL b1.turn).mono (P':=25+Q) (C':=K * (c * 5 ^ 25)) (aO _) (by rw[Gu];exact b7 _ b2);have d:=b.add i;show FB n _ ((m.length+1) * _) (He.add _ _);rw[d7,add_comm<|m.length * _];exact d
theorem Sz.tu{n c:Nat}(hn:n<6)(h:Sz n Q c m):Sz n (25+Q) (120 * ((2 * Q+1) * (c * 5 ^ 25))) (tu n vw m):=by
 obtain⟨a,b,d⟩:=Ov (EN n) h.pm;exact⟨a,b,((FB.Bt hn h.pm λx hx=>h.pb hx).mono (aO _)<|b7 _<|h.many hn).eq d⟩
theorem Sz.P9{n P c:Nat}{l:Ps}(h:Sz n P C l){p:Pl}(b:PB Q c p):Sz n (P+Q) (p.length * (c * C)) (P9 p l):=by
 obtain⟨a1,a2⟩:=QN (p:=p) h.pm;exact⟨a1,a2,by rw[O9];exact h.fb.BL b⟩
end He
namespace Nu
open PySem L2
abbrev fac:Nat->Nat
 | 0=>1
 | n+1=>(n+1) * fac n
abbrev unr:Nat->ag->Nat->ag
 | 0,_,_=>[]
 | n+1,l,m=>l.getD (m / fac n) 0::unr n (l.eraseIdx<|m / fac n) (m % fac n)
def YO(i j:Int):(kK i j).Pairwise (· < ·):=by
 unfold kK;rw[cI];exact gS.imp λh=>()
end Nu
namespace Stp
open PySem L2 Iv
abbrev mm (a:ag)(i j:Nat):ag:=(a.drop<|i+1).take<|j-i-1
abbrev btw (x y m:Int):Bool:=decide (x<m) && decide (m<y)
abbrev isS (a:ag)(i j:Nat):Bool:=!(mm a i j).any λm=>btw (if a.getD j 0<a.getD i 0 then a.getD j 0 else a.getD i 0) (if a.getD j 0>a.getD i 0 then a.getD j 0 else a.getD i 0) m
def ac9{a:ag}(hij:i<j)(hj:j<a.length):(sw a i j).getD i 0=a.getD j 0:=by
 unfold sw;rw[aI,cB (),bW ()];rfl
def adb{a:ag}(hij:i<j)(hj:j<a.length):(sw a i j).getD j 0=a.getD i 0:=by
 unfold sw;rw[aI,bW<|by rw[bZ];exact hj];rfl
end Stp
namespace Eu
open PySem L2 Bl
open Wd (ex yM)
open Fw (rg yY)
def ku{l:ag}{k:Nat}(h:k<l.length):l.getD k 0=l[k]:=by rw[aI,aF h];rfl
theorem low{a b:ag}{k:Nat}(hl:a.length=b.length)(h0:1<=k)(h:k<b.length)(hb:b.getD k 0<b.getD (k-1) 0)(ha:a.getD (k-1) 0<=a.getD k 0)(hab:Below a b):Below a (ex b k):=by
 have hu:k<a.length:=()
 rw[ku h,ku<|show k-1<b.length by lia]at hb;rw[ku hu,ku<|show k-1<a.length by lia]at ha;intro i j;rw[yM h0 h];by_cases hi:i=k
 ·subst hi;rw[aL rfl];have b1:=hab (i-1) j;have b3:=hab (i+1) j;have c1:=mh (l:=a) (i:=i-1) () j;have c2:=mh (l:=b) (i:=i-1) () j;have c3:=mh (l:=a) (i:=i) hu j;have c4:=mh (l:=b) (i:=i) h j;rw[show i-1+1=i by lia]at c1 c2;rw[c3,c4,c1,c2]at b3;rw[c1,c2];revert b1 b3
  (repeat' split)<;>intros<;>lia
 ·rw[aJ hi];have:=hab i j
  lia
def ab4{a b:ag}{k:Nat}(hl:a.length=b.length)(h0:1<=k)(h:k<b.length)(hb:b.getD k 0<b.getD (k-1) 0)(ha:a.getD k 0<=a.getD (k-1) 0)(hab:Below a b):Below (ex a k) (ex b k):=by
 have hu:k<a.length:=()
 rw[ku h,ku<|show k-1<b.length by lia]at hb;rw[ku hu,ku<|show k-1<a.length by lia]at ha;intro i j;rw[yM h0 h,yM h0 hu];by_cases hi:i=k
 ·subst hi;rw[aL rfl,aL rfl];have b1:=hab (i-1) j;have b3:=hab (i+1) j;have c1:=mh (l:=a) (i:=i-1) () j;have c2:=mh (l:=b) (i:=i-1) () j;have c3:=mh (l:=a) (i:=i) hu j;have c4:=mh (l:=b) (i:=i) h j;rw[show i-1+1=i by lia]at c1 c2;rw[c3,c4,c1,c2]at b3;rw[c1,c2];revert b1 b3
  (repeat' split)<;>intros<;>lia
 ·rw[aJ hi,aJ hi];have:=hab i j
  lia
section
variable {n:Nat}
def ln{z:ag}(p:z.Perm<|rg n):z.length=n:=by rw[p.length_eq,Wd.jZ]
end
abbrev al (n:Nat):List (ag):=(List.range<|Nu.fac n).map<|Nu.unr n<|rg n
abbrev sg (z:ag):Int:=if Iv.inv z % 2=1 then -1 else 1
open Classical in
abbrev sm (n:Nat)(P:ag->Prop):Int:=((al n).map λz=>if P z then sg z else 0).sum
abbrev Bt (u w z:ag):Prop:=Below u z/\Below z w
end Eu
namespace Gr
open PySem L2 Bl Fw
open Wd (ex led lI zX lift m5)
abbrev gk:ag->am->am
 | _,[]=>[]
 | l,k::ks=>if l.getD (k-1) 0>l.getD k 0 then k::gk (ex l k) ks else gk l ks
def BI{l:ag}{k:Nat}(f:yY l k):Below (ex l k) l:=by
 obtain⟨h0,h,hr⟩:=f;have e:=sq h0 h;have hl:(ex l k).length=l.length:=lI l k;have:=lift (u:=ex l k) (w:=ex l k) (k:=k) rfl h0 (by rw[hl];exact h);have a1:=L1 h0 h;have a2:=Lc h0 h;rw[Eu.ku<|show k<(ex l k).length by lia]at a1;rw[Eu.ku<|show k-1<(ex l k).length by lia]at a2;have hr':(ex l k)[k-1]'()<(ex l k)[k]'():=by rw[a1,a2];exact hr
 have:=zP (l:=ex l k) (p:=k-1) (q:=k) () () () hr';rw[<- zX h0 (),e]at this;exact this
theorem Hl:∀(ks:am) {n:Nat}{y:ag},y.Perm (rg n)->Dn y ks->Below (rg n) y
 | [],n,y,py,h=>by rw[GW py h];exact Below.refl _
 | k::ks,n,y,py,h=>(Hl ks (mX py h.1.1.1 h.1.1.2.1) h.2).trans<|BI h.1.1
end Gr
namespace Eu
open PySem L2 Bl Am
open Fw (rg)
structure Done (n:Nat)(u w:ag)(es:List (ag×Bool)):Prop where
 nd:(es.map (·.1)).Nodup
 pm:∀e∈es,e.1.Perm (rg n)
 up:∀e∈es,Below u e.1
 fl:∀e∈es,(e.2=true ↔ Below e.1 w)
 st:u∈es.map (·.1)
 cl:∀e∈es,e.2=true->∀i j,i<j->j<n->e.1.getD i 0<e.1.getD j 0->Stp.isS e.1 i j=true->Iv.sw e.1 i j∈es.map (·.1)
abbrev ext (n:Nat)(p:ag):List (ag):=((rg n).filter λt=>decide<|t∉p).map λt=>p++[t]
abbrev inj (n:Nat):Nat->List (ag)
 | 0=>[[]]
 | k+1=>(inj n k).flatMap<|ext n
theorem wc{n:Nat}:∀{k:Nat}{p:ag},p∈inj n k ↔ p.length=k/\p.Nodup/\∀t∈p,t∈rg n
 | 0,p=>by
  unfold inj;rw[aP];constructor
  ·rintro rfl;simp
  ·rintro⟨h,_⟩;exact eE.mp h
 | k+1,p=>by
  unfold inj;rw[fR];constructor
  ·rintro⟨q,hq,hp⟩;obtain⟨t,ht,rfl⟩:=br.mp hp;obtain⟨h1,h2⟩:=b_.mp ht;obtain⟨a,b,c⟩:=wc.mp hq;have h2:t∉q:=bO h2;refine⟨by simp[a],?_,λx hx=>?_⟩
   ·rw[dz];refine⟨b,by simp,λx hx y hy z=>h2 ?_⟩;have:y=t:=by simpa using hy
    rw[<- this,<- z];exact hx
   ·rcases bE.mp hx with z|z
    ·exact c x z
    ·have:x=t:=by simpa using z
     rw[this];exact h1
  ·rintro⟨h1,h2,h3⟩
   rcases List.eq_nil_or_concat p with c|⟨q,t,c⟩
   ·rw[c]at h1;simp at h1
   ·rw[List.concat_eq_append]at c;subst c;rw[dz]at h2;refine⟨q,wc.mpr ⟨by simpa using h1,h2.1,λx hx=>h3 x<|ff _ hx⟩,br.mpr ⟨t,b_.mpr ⟨h3 t<|by simp,bg λz=>h2.2.2 t z t (by simp) rfl⟩,rfl⟩⟩
def EV{n:Nat}{p:ag}:p∈inj n n ↔ p.Perm (rg n):=by
 rw[wc];constructor
 ·rintro⟨h1,h2,h3⟩;exact vB h2 h3 (by rw[h1,Wd.jZ];exact aO _)
 ·intro p';exact⟨ln p',p'.nodup_iff.mpr<|oz _ _,λt ht=>p'.mem_iff.mp ht⟩
theorem K6:∀{a b:ag}(x y:ag),a.length=b.length->HT.lexLt a b=true->HT.lexLt (a++x) (b++y)=true
 | [],[],_,_,_,h=>by cases h
 | [],_::_,_,_,h,_=>by simp at h
 | _::_,[],_,_,h,_=>by simp at h
 | p::a,q::b,x,y,hl,h=>by
  show HT.lexLt (p::(a++x)) (q::(b++y))=true;rw[HT.oF]at h ⊢;by_cases c:p=q
  ·rw[aL c]at h ⊢;exact K6 x y (by simpa using hl) h
  ·rw[aJ c]at h ⊢;exact h
theorem Hq:∀(p:ag) {s t:Int},s<t->HT.lexLt (p++[s]) (p++[t])=true
 | [],s,t,h=>by
  show HT.lexLt [s] [t]=true;rw[HT.oF,aJ (),bg h]
 | x::p,s,t,h=>by
  show HT.lexLt (x::(p++[s])) (x::(p++[t]))=true;rw[HT.oF,aL rfl];exact Hq p h
theorem Ig{n:Nat}:∀(k:Nat),(inj n k).Pairwise λa b=>HT.lexLt a b=true
 | 0=>cu _ _
 | k+1=>by
  unfold inj;rw[List.pairwise_flatMap];refine⟨λp hp=>?_,gG (λ{a b} ha hb hab x hx y hy=>?_)<|Ig k⟩
  ·unfold ext;rw[cI];refine List.Pairwise.imp (λ{a b} hab=>Hq p hab) ?_;exact(Nu.YO _ _).sublist fL
  ·obtain⟨s,_,rfl⟩:=br.mp hx;obtain⟨t,_,rfl⟩:=br.mp hy;exact K6 [s] [t] (by rw[(wc.mp ha).1,(wc.mp hb).1]) hab
def ZL{a:ag}(h:HT.lexLt a b=true):Dr a b:=by
 show HT.lexLt b a=false
 cases c:HT.lexLt b a with
 | false=>rfl
 | true=>
  have:=Sx.BU h c;rw[Sx.yr]at this;cases this
theorem Eo{n:Nat}:∀(k:Nat),(inj n k).length<=n ^ k
 | 0=>aO _
 | k+1=>by
  have:∀(l:List<|ag),(l.flatMap<|ext n).length<=l.length * n:=λl=>by
   induction l with
   | nil=>exact bP _
   | cons p l ih=>
    rw[gb,aS,bz,jb,fy];have:(ext n p).length<=n:=by
     unfold ext;rw[aG];exact bB (cN _ _)<|by rw[Wd.jZ];exact aO _
    lia
  unfold inj;exact bB (this _)<|by rw[Nat.pow_succ];exact b7 _<|Eo k
end Eu
namespace He
open PySem L2 Bl Am Fw
open Po (Pl Ok cf)
open Su (cS oW)
def Y_t{k:Nat}{f:Fn}(h:oW o k=true)(t:Int):Y k f o t=f (Wd.ex o k) t:=by
 unfold Y X;rw[aL h]
 lia
def Y_f{k:Nat}{f:Fn}(h:oW o k=false)(t:Int):Y k f o t=f (Wd.ex o k) t-(f o (t+1)-f o (t-1)):=by
 unfold Y X;rw[h,aJ bM];unfold dl
 lia
structure Top (n:Nat)(w:ag)(f:Fn):Prop where
 at_:∀x:ag,x.Perm (rg n)->Below x w->f x ((Iv.inv w:Int)-Iv.inv x)=1
 up:∀x:ag,x.Perm (rg n)->Below x w->∀t,(Iv.inv w:Int)-Iv.inv x<t->f x t=0
 no:∀x:ag,x.Perm (rg n)->¬Below x w->∀t,f x t=0
 me:∀t,f w t=cf [((0:Int),(1:Int))] t
def Top.step{n k:Nat}{w:ag}{f:Fn}(h:Top n w f)(pw:w.Perm<|rg n)(h0:1<=k)(h1:k<n)(hf:w.getD (k-1) 0<w.getD k 0):Top n (Wd.ex w k) (Y k f):=by
 have lw:w.length=n:=by rw[pw.length_eq,Wd.jZ]
 have iw:=Bv h0 (show k<w.length by lia) hf;have lw':(Wd.ex w k).length=n:=by rw[Wd.lI];exact lw
 have e1:=L1 h0 (show k<w.length by lia);have e2:=Lc h0 (show k<w.length by lia);have ee:Wd.ex (Wd.ex w k) k=w:=sq h0 ();have fw:yY (Wd.ex w k) k:=⟨h0,(),by rw[e1,e2];exact hf⟩;have bw:Below w (Wd.ex w k):=by have:=Gr.BI fw;rwa [ee]at this
 have hel:w[k-1]'()<w[k]'():=by
  rw[Eu.ku<|show k<w.length by lia,Eu.ku<|show k-1<w.length by lia]at hf;exact hf
 have bt:∀x:ag,x.Perm (rg n)->oW x k=true->(Below x (Wd.ex w k) ↔ Below (Wd.ex x k) w)/\Iv.inv x=Iv.inv (Wd.ex x k)+1:=λx px hx=>by
  have lx:x.length=n:=by rw[px.length_eq,Wd.jZ]
  have hx:=bO hx;refine⟨⟨λb=>?_,λb=>?_⟩,qz h0 () hx⟩
  ·have:=Eu.ab4 () h0 () fw.2.2 () b
   rwa [ee]at this
  ·have:=Wd.lift (u:=Wd.ex x k) (w:=w) (k:=k) (by rw[Wd.lI];lia) h0 () hel b
   rwa [sq h0 ()]at this
 have bf:∀x:ag,x.Perm (rg n)->oW x k=false->(Below x (Wd.ex w k) ↔ Below x w)/\Iv.inv (Wd.ex x k)=Iv.inv x+1/\Below x (Wd.ex x k):=λx px hx=>by
  have lx:x.length=n:=by rw[px.length_eq,Wd.jZ]
  have hx:=dY hx;have ne:=Ut px h0 ();have hx:x.getD (k-1) 0<x.getD k 0:=()
  refine⟨⟨λb=>?_,λb=>b.trans bw⟩,Bv h0 () hx,?_⟩
  ·have:=Eu.low () h0 () fw.2.2 () b
   rwa [ee]at this
  ·have fx:yY (Wd.ex x k) k:=⟨h0,by rw[Wd.lI];lia,by rw[L1 h0 (),Lc h0 ()];exact hx⟩;have:=Gr.BI fx
   rwa [sq h0 ()]at this
 refine⟨λx px b=>?_,λx px b t ht=>?_,λx px b t=>?_,λt=>by rw[Y_t<|bg fw.2.2,ee];exact h.me t⟩
 ·cases hx:oW x k with
  | true=>
   obtain⟨q1,q2⟩:=bt x px hx;rw[Y_t hx,<- h.at_ _ (mX px h0 h1) (q1.mp b)];congr 1
   lia
  | false=>
   obtain⟨q1,q2,q3⟩:=bf x px hx;have b':=q1.mp b;rw[Y_f hx,h.up x px b' _ (),show(Iv.inv (Wd.ex w k):Int)-Iv.inv x-1=(Iv.inv w:Int)-Iv.inv x by lia,h.at_ x px b'];by_cases c:Below (Wd.ex x k) w
   ·rw[h.up _ (mX px h0 h1) c _ ()];rfl
   ·rw[h.no _ (mX px h0 h1) c];rfl
 ·cases hx:oW x k with
  | true=>
   obtain⟨q1,q2⟩:=bt x px hx;rw[Y_t hx];exact h.up _ (mX px h0 h1) (q1.mp b) _ ()
  | false=>
   obtain⟨q1,q2,q3⟩:=bf x px hx;have b':=q1.mp b;rw[Y_f hx,h.up x px b' _ (),h.up x px b' _ ()];by_cases c:Below (Wd.ex x k) w
   ·rw[h.up _ (mX px h0 h1) c _ ()];rfl
   ·rw[h.no _ (mX px h0 h1) c];rfl
 ·cases hx:oW x k with
  | true=>
   obtain⟨q1,q2⟩:=bt x px hx;rw[Y_t hx];exact h.no _ (mX px h0 h1) (λz=>b<|q1.mpr z) _
  | false=>
   obtain⟨q1,q2,q3⟩:=bf x px hx;have b':¬Below x w:=λz=>b<|q1.mpr z;rw[Y_f hx,h.no x px b',h.no x px b',h.no _ (mX px h0 h1) λz=>b'<|q3.trans z];rfl
def Tw(n:Nat):Top n (rg n) (cS<|one n):=by
 have key:∀x:ag,x.Perm (rg n)->Below x (rg n)->x=rg n:=λx px b=>by
  obtain⟨js,hj⟩:=F3 _ x<|aO _;exact Below.antisymm px.length_eq b<|Gr.Hl js px hj
 have ce:∀x t,cS (one n) x t=(if rg n=x then cf [((0:Int),(1:Int))] t else 0)+0:=λx t=>rfl;refine⟨λx px b=>?_,λx px b t ht=>?_,λx px b t=>?_,λt=>by rw[ce,aL rfl];exact dH _⟩
 ·rw[key x px b,ce,aL rfl,Int.sub_self];rfl
 ·rw[key x px b]at ht ⊢;rw[ce,aL rfl];show(if (0:Int)=t then(1:Int)else 0)+0+0=0;rw[aJ ()];rfl
 ·rw[ce,aJ λz=>b<|by rw[<- z];exact Below.refl _];rfl
theorem Gy{n:Nat}:∀(m:Nat) {w:am},w.length=m->Wd.j6 (rg n) w->Top n (Wd.led (rg n) w) (Yw w<|cS<|one n)
 | 0,w,hl,_=>by rw[eE.mp hl];exact Tw n
 | m+1,w,hl,hr=>by
  obtain⟨v,k,rfl⟩:∃v k,w=v++[k]:=by
   rcases List.eq_nil_or_concat w with z|⟨v,k,z⟩
   ·rw[z]at hl;cases hl
   ·exact⟨v,k,by rw[z,List.concat_eq_append]⟩
  obtain⟨r1,h0,h1,h2⟩:=Bk hr;rw[Wd.jZ]at h1;have va:Va n v:=λj hj=>by have:=Wd.j6.valid r1 j hj;rwa [Wd.jZ]at this
  rw[SH,Wd.wo];exact(Gy m (by rw[aS]at hl;simpa using hl) r1).step (D5 (qh n) va) h0 h1 h2
def Ik{n:Nat}{o:ag}(po:o.Perm<|rg n):Top n o (bT n o):=by
 obtain⟨a,b⟩:=Dq po;have:=Gy _ rfl a;rw[b]at this;exact this
def Ug{n k:Nat}{l:Su.Ps}(h0:1<=k)(h1:k<n)(pl:∀x∈l,x.1.Perm<|rg n):Su.toS (Su.adds []<|Su.bx k l++Hw LB l)=yb k l:=by
 refine Cn.uniq (.toS<|Su.Gd.nil.adds _) (OI h0 h1 pl).1 λo t=>?_;unfold yb IZ;rw[v5,v5,Su.Bm,Su.Bm];congr 1;unfold P9;rw[v5]
def Di{l:Su.Ps}(h:Cn l):l.map Prod.fst=mF (l.map Prod.fst):=by
 have e:l.map Prod.fst=(mF<|l.map Prod.fst).filter λo=>!(Su.vS l o).isEmpty:=by
  conv=>lhs;rw[<- h.eq]
  unfold Su.toS;rw[bD];exact jw _
 refine xy (.refl _) ?_;rw[e];exact(t8 _).sublist fL
def Cn.of{D:Su.Ps}(g:Su.Gd D)(ne:∀e∈D,e.2≠[])(hs:D.map Prod.fst=mF (D.map Prod.fst)):Cn D:=by
 refine⟨g,?_⟩;unfold Su.toS;rw[<- hs,iS.mpr,bD]
 ·refine(cQ λe he=>?_).trans (jw D);show(e.1,Su.vS D e.1)=e;rw[zK g he]
 ·intro o ho;obtain⟨e,he,rfl⟩:=br.mp ho;rw[zK g he]
  cases c:e.2 with
  | nil=>exact absurd c (ne e he)
  | cons=>rfl
def xQ{l:Su.Ps}(h:Cn l){z:ag}:z∈l.map Prod.fst ↔ ∃t,cS l z t≠0:=by
 constructor
 ·intro hz;obtain⟨e,he,rfl⟩:=br.mp hz;refine dj λhn=>h.ne he ?_;refine Po.uniq (h.gd.ok e he) ⟨List.Pairwise.nil,nofun⟩ λk=>?_;have:cS l e.1 k=0:=dj λz=>hn ⟨k,z⟩;rw[wV h.gd,zK h.gd he]at this;exact this
 ·rintro⟨t,ht⟩
  rcases Su.vA (D:=l) (o:=z)with⟨e,he,rfl,_⟩|⟨_,e⟩
  ·exact br.mpr ⟨e,he,rfl⟩
  ·rw[wV h.gd,e]at ht;exact absurd rfl ht
def I0{n:Nat}{o:ag}{l:Su.Ps}(po:o.Perm<|rg n)(h:Cn l)(hp:∀x∈l,x.1.Perm<|rg n)(e:pI n (cS l)<|bT n o)(q:ag->Bool)(hq:∀z,z.Perm (rg n)->(q z=true ↔ Below z o)):l.map Prod.fst=(Eu.inj n n).filter q:=by
 have T:=Ik po;rw[Di h]
 symm
 refine xy ?_<|((Eu.Ig n).imp λ{a b} h=>Eu.ZL h).sublist fL;have nd:((Eu.inj n n).filter q).Nodup:=by
  refine List.Pairwise.sublist fL<|(Eu.Ig n).imp λ{a b} h z=>?_;rw[z,Sx.yr]at h
  cases h
 refine(gq nd h.gd.nd).mpr λz=>?_;rw[b_,Eu.EV,xQ h];constructor
 ·rintro⟨pz,hz⟩;have b:=(hq z pz).mp hz;exact⟨_,by rw[e z pz,T.at_ z pz b];decide⟩
 ·rintro⟨t,ht⟩;have hz:=(xQ h).mpr ⟨t,ht⟩;obtain⟨x,hx,rfl⟩:=br.mp hz;have pz:=hp x hx;refine⟨pz,(hq _ pz).mpr<|dj λz=>ht ?_⟩;rw[e _ pz,T.no _ pz z]
def Y8{n:Nat}{o:ag}{l:Su.Ps}(po:o.Perm<|rg n)(h:Cn l)(e:pI n (cS l)<|bT n o):(o,[((0:Int),(1:Int))])∈l:=by
 have T:=Ik po;have hz:=(xQ h (z:=o)).mpr ⟨0,by rw[e o po,T.me];decide⟩;obtain⟨x,hx,hxo⟩:=br.mp hz;have ex:x.2=[((0:Int),(1:Int))]:=Po.uniq (h.gd.ok x hx) IG λk=>by
  have:=T.me k;rw[<- e o po,wV h.gd,<- hxo,zK h.gd hx]at this;exact this
 rw[<- ex,<- hxo];exact hx
def SO{n:Nat}{o:ag}{l:Su.Ps}(po:o.Perm<|rg n)(h:Cn l)(hp:∀x∈l,x.1.Perm<|rg n)(e:pI n (cS l)<|bT n o){a b c d:Int}(ha:a<c)(hd:d≠0):Cn (Hw [(a,b),(c,d)] l):=by
 have T:=Ik po;have hk:(Hw [(a,b),(c,d)] l).map Prod.fst=l.map Prod.fst:=by
  unfold Hw;rw[bD];rfl
 refine Cn.of ⟨by rw[hk];exact h.gd.nd,λx hx=>?_⟩ (λx hx=>?_) (by rw[hk];exact Di h)
 ·obtain⟨y,_,rfl⟩:=br.mp hx;exact Po.rR _ _
 ·obtain⟨y,hy,rfl⟩:=br.mp hx;intro z;have z:Po.times [(a,b),(c,d)] y.2=[]:=z;have py:=hp y hy;have by_:Below y.1 o:=dj λz=>by
   obtain⟨t,ht⟩:=(xQ h).mp<|br.mpr ⟨y,hy,rfl⟩;exact ht<|by rw[e _ py,T.no _ py z]
  have cy:∀t,cf y.2 t=bT n o y.1 t:=λt=>by rw[<- e _ py,wV h.gd,zK h.gd hy]
  have:=congrFun (congrFun (Eh [(a,b),(c,d)] [y]) y.1)<|(Iv.inv o:Int)-Iv.inv y.1+c;have e1:cS (Hw [(a,b),(c,d)] [y]) y.1 ((Iv.inv o:Int)-Iv.inv y.1+c)=0:=by
   show(if y.1=y.1 then cf (Po.times [(a,b),(c,d)] y.2) _ else 0)+0=0;rw[aL rfl,z];rfl
  have e2:∀t,cS [y] y.1 t=bT n o y.1 t:=λt=>by
   show(if y.1=y.1 then cf y.2 t else 0)+0=_;rw[aL rfl,cy,dH]
  rw[e1]at this;have e3:BL [(a,b),(c,d)] (cS [y]) y.1 ((Iv.inv o:Int)-Iv.inv y.1+c)=b * cS [y] y.1 ((Iv.inv o:Int)-Iv.inv y.1+c-a)+(d * cS [y] y.1 ((Iv.inv o:Int)-Iv.inv y.1+c-c)+0):=rfl;rw[e3,e2,e2,T.up _ py by_ _ (),show(Iv.inv o:Int)-Iv.inv y.1+c-c=(Iv.inv o:Int)-Iv.inv y.1 by lia,T.at_ _ py by_]at this;simp at this;exact hd this.symm
def XQ{n:Nat}{o:ag}{w:am}(po:o.Perm<|rg n)(h:Wd.j6 (rg n) w)(e:Wd.led (rg n) w=o){a b c d:Int}(ha:a<c)(hb:b≠0):tu n vw [(o,[(a,b),(c,d)])]=Hw [(-c,d),(-a,b)] (A_ w<|one n):=by
 obtain⟨a1,a2,a3⟩:=CV po h e;have pm:∀x∈[(o,[(a,b),(c,d)])],x.1.Perm (rg n):=λx hx=>by rw[aP.mp hx];exact po
 obtain⟨b1,b2,b3⟩:=Ov (EN n) pm;have cc:=SO po a1 a2 a3 (a:=-c) (b:=d) (c:=-a) (d:=b) () hb;refine JP b1 cc b2 (λx hx=>?_) (b3.trans ?_)
 ·obtain⟨y,hy,rfl⟩:=br.mp hx;exact a2 y hy
 ·intro x px t;show cv (Po.turn [(a,b),(c,d)]) (bT n o x) t+0=_;rw[Eh,dH];exact(KG (Po.turn [(a,b),(c,d)]) a3 x px t).symm
def Qj{n:Nat}{o:ag}{w:am}(po:o.Perm<|rg n)(h:Wd.j6 (rg n) w)(e:Wd.led (rg n) w=o):tu n vw [(o,[((0:Int),(1:Int))])]=A_ w (one n):=by
 obtain⟨a1,a2,a3⟩:=CV po h e;have pm:∀x∈[(o,[((0:Int),(1:Int))])],x.1.Perm (rg n):=λx hx=>by rw[aP.mp hx];exact po
 obtain⟨b1,b2,b3⟩:=Ov (EN n) pm;refine JP b1 a1 b2 a2<|b3.trans ?_;intro x px t;show 1 * bT n o x (t - -0)+0+0=_;have:=a3 x px t;rw[show t - -0=t by lia];unfold tO at this
 lia
end He
namespace Am
open PySem L2 Bl
def Z2{S:jM}{n:Nat}{x:A}{k:Nat}(h:jK S n=some [x])(hk:k<=16777216):ET (.ref n) (.int k) S=.ok (.ref S.length) (S++[.lst<|List.replicate k x]):=by
 show opt (jK S n) _=_;rw[h,kL];have e:(List.replicate k [x]).flatten=List.replicate k x:=by
  induction k with
  | zero=>rfl
  | succ k ih=>rw[dm,eB,ih ()];rfl
 rw[m7 ⟨(),(),by rw[dw,c9];simpa using hk⟩,c9,e]
def Oq{xs:ag}{n:Int}(h:xs.Perm<|kK 1<|n+1)(hn:0<=n):(xs.length:Int)=n:=by
 rw[h.length_eq,oZ];lia
def Gz{xs:ag}{n x:Int}(h:xs.Perm<|kK 1<|n+1)(hx:x∈xs):1<=x/\x<=n:=by
 have:=nU.mp (h.mem_iff.mp hx)
 lia
end Am
namespace K31
open PySem L2 Am
abbrev Fl (S:jM)(b:Nat):Prop:=∃g st:Int,jK S b=some [.int g,.int st]/\0<=g/\0<=st/\st<4294967296
def Fl.kp{c:Nat->Prop}(h:Fl S b)(k:Kp c S S')(hb:¬c b):Fl S' b:=by
 obtain⟨g,st,e,q⟩:=h;exact⟨g,st,k.lst b _ hb e,q⟩
def Fl.lt{S:jM}(h:Fl S b):b<S.length:=by obtain⟨_,_,e,_⟩:=h;exact oG e
def UX{S:jM}{ns:ag}{k:Int}(h0:0<=k)(h1:k<=100):∃S',t6 [.frz<|ns.map .int,.int k] S=.ok (.ref S.length) S'/\Fl S' S.length/\lA S S':=by
 have e3:TY (.int 10) (.int 18)=λS=>R.ok (.int 1000000000000000000) S:=by
  funext S;exact m7 ⟨by decide,by decide,by decide⟩
 have m1:∀x:Int,ER (.int x) (.int 2147483647)=λS=>R.ok (.int<|x % 2147483647) S:=λx=>by funext S;exact GC ⋯
 have m3:∀x:Int,ET (.int 7919) (.int x)=λS=>R.ok (.int<|7919 * x) S:=λx=>by funext S;exact Ox ⋯ ⋯
 have s0:∀x:Int,0<=x % 2147483647:=λx=>iP _ ⋯;have s1:∀x:Int,x % 2147483647<4294967296:=λx=>by have:=gM x (show(0:Int)<2147483647 by decide);lia
 have go:∀cell:Int,∃S',((RS.seq (.nx [A.frz<|ns.map .int,.int k,.int cell,.unb] S) (kg (kG (eC<|.int 0)<|kD 3)
  (kg (Aj (uW<|jT aGe (jI 2)<|jT TY (eC<|.int 10)<|eC<|.int 18) (kG (jI 2)<|kD 3)<|qM)
  (lN<|pC<|jH (jI 3)<|jH (jT ER (jT lK (jT lK (jI 2)<|jT ET (eC<|.int 7919)<|jI 1)<|eC<|.int 13)<|eC<|.int 2147483647)<|jR)))).end=.ok (.ref S.length) S')/\Fl S' S.length/\lA S S':=by
  intro cell;by_cases hc:1000000000000000000<=cell
  ·dsimp[kh,bools,e3,m1,m3,bg hc];exact⟨_,rfl,⟨_,_,jX,(),s0 _,s1 _⟩,Kp.refl.lay⟩
  ·dsimp[kh,bools,e3,m1,m3,bH hc];exact⟨_,rfl,⟨_,_,jX,gr 0,s0 _,s1 _⟩,Kp.refl.lay⟩
 unfold t6 zu zJ;dsimp[kh,bools,mP,Nat.reduceAdd,Nat.reduceSub,aG];by_cases hk:k<(ns.length:Int)
 ·have hn:k.toNat<ns.length:=()
  have ha:rW (ns.map A.int) k=some (.int ns[k.toNat]):=EB (k:=k.toNat) ()<|aF hn;rw[bg hk];dsimp[kh,bools,ha];have:=go ns[k.toNat];simpa only [kh,bools]using this
 ·rw[bH hk];dsimp[kh,bools];have:=go 0;simpa only [kh,bools]using this
def digit{m:Int}(h:Fl S b)(h1:1<=m)(h2:m<1073741824):∃d S',kj [.ref b,.int m] S=.ok (.int d) S'/\0<=d/\d<m/\Fl S' b/\Kp (·=b) S S':=by
 obtain⟨g,st,hl,hg,hs,hs2⟩:=h;have hb:=oG hl;have i0:DJ 2 0=some 0:=Bp rfl ⋯;have i1:DJ 2 1=some 1:=Bp rfl ⋯;have fin:∀d g' st':Int,0<=d->d<m->0<=g'->0<=st'->st'<4294967296->kj [.ref b,.int m] S=.ok (.int d) (S.set b<|.lst [.int g',.int st'])->∃d S',kj [.ref b,.int m] S=.ok (.int d) S'/\0<=d/\d<m/\Fl S' b/\Kp (·=b) S S':=
  λd g' st' a1 a2 a3 a4 a5 e=>⟨d,_,e,a1,a2,⟨g',st',pW hb,a3,a4,a5⟩,Kp.refl.set<|.inl rfl⟩
 by_cases hg0:0<g
 ·refine fin (g % m) (g / m) st (iP _ ()) (gM _ ()) (Int.ediv_nonneg hg ()) hs hs2 ?_;unfold kj sD r9;rw[AK];simp[hl,Du,LW,hg0,GC<|show 0<m by lia,NG (show 0<m by lia) h2,i0]
 ·have e1:0<=(st * 48271+11) % 2147483647:=iP _ ⋯;have e2:(st * 48271+11) % 2147483647<2147483647:=gM _ ⋯;have e3:0<=(st * 48271+11) % 2147483647 / 8:=()
  refine fin ((st * 48271+11) % 2147483647 / 8 * 69621 % 2147483629 % m) g ((st * 48271+11) % 2147483647) (iP _ ()) (gM _ ()) hg e1 () ?_;unfold kj sD r9;rw[AK];simp[hl,Du,LW,hg0,i1,Ox (show -18446744073709551616<st by lia) (),GC<|show(0:Int)<2147483647 by decide,pW hb,NG (show(0:Int)<8 by decide) ⋯,Ox (show -18446744073709551616<(st * 48271+11) % 2147483647 / 8 by lia) (),GC<|show(0:Int)<2147483629 by decide,GC<|show 0<m by lia]
open Po (Pl Ok Bd)
def Rp{S:jM}{D:Pl}(hd:lX S d=some (Po.iv D))(hl:D.length<=16777216):∃S',lH [.ref d] S=.ok (.ref<|S.length+1) S'/\jK S' (S.length+1)=some (Po.pl<|Po.II D)/\lA S S':=by
 obtain⟨S',e,h1,h2⟩:=Qo hd hl;refine⟨S',?_,h1,h2⟩;unfold lH qq qC;dsimp[kh,bools,mP,Nat.reduceAdd,Nat.reduceSub];rw[show kJ [none,some 0] _ _ _ _ _ _=_ from e];rfl
def Uv{S:jM}{n:Nat}{a b:Pl}(hn:jK S n=some (Po.pl a))(hm:jK S m=some (Po.pl b))(ha:Ok a)(hl:a.length+b.length<16777216) :
  ∃(L:Nat) (S':jM),Ci [.ref n,.ref m] S=.ok (.ref L) S'/\jK S' L=some (Po.pl<|Po.nB a b)/\S.length<=L/\lA S S':=by
 have hd:lX (S++[.pU<|Po.iv a]) S.length=some (Po.iv a):=E4;obtain⟨y3,y4,T,e,hD,kp⟩:=JM (S:=S++[.pU<|Po.iv a]) (S1:=S++[.pU<|Po.iv a]) (x0:=.ref n) (x1:=.ref m) (x3:=.unb) (x4:=.unb) (src:=xV) (l:=b) (show xV _ _=_ from mD (by dsimp[kh,bools])<|j8 hm) (j8 hm) hd hl;have ln:=Po.nR b a;obtain⟨S',e2,h1,h2⟩:=Rp hD ();have k1:lA S T:=(Kp.refl.lay (o:=.pU<|Po.iv a)).old kp λq hq _ z=>()
 refine⟨T.length+1,S',?_,by rw[h1,<- Po.Tz ha];rfl,by have:=k1.len;lia,k1.trans h2⟩;unfold Ci Jd Ij;dsimp[kh,bools,mP,Nat.reduceAdd,Nat.reduceSub,MA,hn,Po.Vy,Po.T6,Po.T9 ha];rw[show kX xV _ GI _ _=_ from e];dsimp[kh,bools,e2]
def zp(f:Int×Int->A)(hf:∀p τ S,QU (f p) τ S=QU (Po.pA p) τ S){S:jM}{n:Nat}{a b:Pl}(hn:jK S n=some (a.map f))(hm:jK S m=some (Po.pl b))(hl:a.length * b.length<16777216)(ha:∀p∈a,p.2.natAbs<big)(hb:∀p∈b,p.2.natAbs<big) :
  ∃(L:Nat) (S':jM),oU [.ref n,.ref m] S=.ok (.ref L) S'/\jK S' L=some (Po.pl<|Po.times a b)/\S.length<=L/\lA S S':=by
 have hd:lX (S++[.pU []]) S.length=some []:=E4;obtain⟨y3,y4,y5,y6,T,e,hD,kp⟩:=A7 f hf (S:=S++[.pU []]) (x3:=.unb) (x4:=.unb) (x5:=.unb) (x6:=.unb) (j8 hn) (j8 hm) hd hl ha hb;have ln:=Po.nR (Po.BC a b) [];rw[Po.we,cg,bR]at ln;obtain⟨S',e2,h1,h2⟩:=Rp hD ();have k1:lA S T:=(Kp.refl.lay (o:=.pU [])).old kp λq hq _ z=>()
 refine⟨T.length+1,S',?_,h1,by have:=k1.len;lia,k1.trans h2⟩;unfold oU DX Eb;dsimp[kh,bools,mP,Nat.reduceAdd,Nat.reduceSub,zb];rw[show kX CO _ CU _ _=_ from e];dsimp[kh,bools,e2]
def rR{S:jM}{n:Nat}{a b:Pl}(hn:jK S n=some (Po.pl a))(hm:jK S m=some (Po.pl b))(hl:a.length * b.length<16777216)(ha:∀p∈a,p.2.natAbs<big)(hb:∀p∈b,p.2.natAbs<big) :
  ∃(L:Nat) (S':jM),oU [.ref n,.ref m] S=.ok (.ref L) S'/\jK S' L=some (Po.pl<|Po.times a b)/\S.length<=L/\lA S S':=zp Po.pA (λ_ _ _=>rfl) hn hm hl ha hb
def Mn{S:jM}{n:Nat}{a:Pl}(hn:jK S n=some (Po.pl a))(hl:a.length<=16777216) :
  vR [.ref n] S=.ok (.ref S.length) (S++[.lst<|Po.pl<|Po.turn a]):=by
 have cc:=FA (l:=a) (n:=n) (cap:=[]) (src:=VN<|jI 0) (e:=mW<|jH (Hz xm<|jI 0)<|jH (jI 1)<|jR) (τ:=[.ref n]) (S:=S) (S1:=S) (N8 (by dsimp[kh,bools]) hn) hn (λp=>Po.pA (-p.1,p.2)) (λp=>by
  dsimp[kh,bools];exact nI<|show 2<=16777216 by decide) hl
 unfold vR Bx B0;dsimp[kh,bools,mP,Nat.reduceAdd,Nat.reduceSub];rw[show kJ [none,none] _ _ _ _ _ _=_ from cc];unfold Po.pl Po.turn;rw[bD];rfl
end K31
namespace K31
open PySem L2 Am
open Po (Pl Ok Bd)
open Su (Es At Vl)
def XJ{S:jM}{r:Nat}{D:Es}{o:ag}{p:Pl}{k:Nat}(hd:ko S d=some (D.map Su.kv))(hA:At S D)(hv:Vl k b D)(hr:jK S r=some (Po.pl p))(hl:D.length<16777216)(hk:k+p.length<16777216) :
  ∃(L:Nat) (S':jM),kH [.ref d,.tup<|o.map .int,.ref r] S=.ok .non S'/\ko S' d=some ((Su.p6 D o L<|Po.nB (Su.vS (Su.sm D) o) p).map Su.kv)/\At S' (Su.p6 D o L<|Po.nB (Su.vS (Su.sm D) o) p)/\S.length<=L/\Kp (·=d) S S':=by
 obtain⟨x,ex,hx⟩:=Su.get_or (o:=o) hd hA;have vo:=hv.v o;obtain⟨L,S2,e2,h1,h2,k2⟩:=Uv hx (j8 (o:=.lst []) hr) vo.1 ();have kS:lA S S2:=(Kp.refl.lay).trans k2;have hd2:=kS.dct _ _ (λz=>z) hd;have hd1:ko (S++[.lst []]) d=some (D.map Su.kv):=Su.xX hd;refine⟨L,S2.set d<|.dct<|(Su.p6 D o L<|Po.nB (Su.vS (Su.sm D) o) p).map Su.kv,?_,Su.EL<|Su.DO hd2,?_,by simp at h2;lia,kS.of0.GL<|.inl rfl⟩
 ·unfold kH uL ur;mg_lt;dsimp[kh,bools,mP,Nat.reduceAdd,Nat.reduceSub,Su.K_,Su.Ld,hd,dh,n0,Su.JN,hd1,ex,e2,Su.Ax,Su.BS,hd2,BP<|show(D.map Su.kv).length<16777216 by rw[aG];exact hl,Su.HN (p:=Po.nB (Su.vS (Su.sm D) o) p)]
 ·refine(Su.At.put (hA.yz kS) h1).kp (Kp.refl.GL<|.inl rfl) λe he z=>?_
  rcases Su.uG he with y|y
  ·exact Su.qD hd (hA e y) z
  ·rw[y]at z;exact Su.qD hd2 h1 z
def E1{S:jM}{D:Es}(hd:ko S d=some (D.map Su.kv))(hA:At S D)(hne:∀e∈D,e.1≠[])(hl:D.length<=16777216) :
  ∃(n:Nat) (S':jM),nh [.ref d] S=.ok (.ref n) S'/\jK S' n=some ((Su.uX D λp=>!p.isEmpty).map Su.ent)/\At S' (Su.uX D λp=>!p.isEmpty)/\S.length<n/\lA S S':=by
 have n0:=Su.F4 hd hne;obtain⟨n,S',e,h1,h2,h3,h4⟩:=Su.F1 (cap:=[some 0]) (τ:=[.ref d]) (src:=mH<|j9 (f1 yO)<|jH (jI 0)<|jR) (t:=tX<|jT xU (jI 1)<|jI 0) (e:=mW<|jH (jI 0)<|jH (jT xU (jI 1)<|jI 0)<|jR) hd hA (mD (by dsimp[kh,bools,n0]) jX) (λp=>!p.isEmpty)
  (λo r q T hT hk hr=>⟨T,by
   have tr:A.VY (.ref r) T=some (!q.isEmpty):=by
    show(jK T r).map _=_;rw[hr]
    cases q<;>rfl
   dsimp[kh,bools,Su.Ah,Su.wj,hT,hk,tr],Kp.refl⟩)
  (λo r T hT hk=>by
   dsimp[kh,bools,Su.Ah,Su.wj,hT,hk];exact nI<|show 2<=16777216 by decide) hl
 refine⟨n,S',?_,h1,h2,h3,h4⟩;unfold nh B_ Bh;dsimp[kh,bools,mP,Nat.reduceAdd,Nat.reduceSub,e]
def u9:Su.AR kH:=λh1 h2 h3 h4 h5 h6=>XJ h1 h2 h3 h4 h5 h6
def H_:Su.M4 oU:=λh1 h2 h3 h4 h5=>rR h1 h2 h3 h4 h5
open Po (Pl Ok Bd)
open Su (Es At Vl)
structure Sm (S:jM)(n:Nat)(es:Es):Prop where
 l:jK S n=some (es.map Su.ent)
 a:At S es
def Sm.kp{n:Nat}(h:Sm S n es)(k:lA S S'):Sm S' n es:=⟨k.lst _ _ (λz=>z) h.l,h.a.yz k⟩
def E5{a b:ag}(h:a.length=b.length):qk [.tup<|a.map .int,.tup<|b.map .int] S=.ok .non S:=by
 unfold qk vP vW;have:((a.length:Int) == (b.length:Int))=true:=by rw[h];exact bV _
 dsimp[kh,wU,bools,mP,Nat.reduceAdd,Nat.reduceSub,aG,this,cV]
def F5{n:Nat}{xs:ae}(h:jK S n=some xs):A.VY (.ref n) S=some (!xs.isEmpty):=by
 show(jK S n).map _=_;rw[h];rfl
def Ea{n N:Nat}{es fs:Es}(h:Sm S n es)(h':Sm S m fs)(h1:∀e∈es,e.1.length=N)(h2:∀e∈fs,e.1.length=N):qj [.ref n,.ref m] S=.ok .non S:=by
 unfold qj vQ vN;dsimp[kh,wU,bools,mP,Nat.reduceAdd,Nat.reduceSub,F5 h.l,F5 h'.l]
 cases es with
 | nil=>dsimp[kh,wU,bools,gR,jq,cV]
 | cons e es=>cases fs with
  | nil=>dsimp[kh,wU,bools,gR,jq,cV,bJ,List.isEmpty_cons,eU,F5 h'.l]
  | cons f fs=>
   have q:=E5 (S:=S)<|(h1 e<|aM ..).trans (h2 f<|aM ..).symm;have hl:=h.l;have hl':=h'.l;rw[bJ]at hl hl';dsimp[kh,wU,bools,bJ,List.isEmpty_cons,eU,F5 hl',hl,hl',Du,Su.ent,q]
meta abbrev wd (w:am):ae:=w.map λk:Nat=>A.int (k:Int)
def Vb{l:ag}{k:Nat}{i:Int}(h:i=k)(hk:k<l.length):rW (l.map A.int) i=some (.int<|l.getD k 0):=EB h<|by rw[aI,aF hk];rfl
def SX{l:ag}{k:Nat}:((l.map A.int).set (k-1)<|.int<|l.getD k 0).set k (.int<|l.getD (k-1) 0)=(Wd.ex l k).map A.int:=by
 unfold Wd.ex;rw[iU,iU]
def aco{f g:A->A->jM->R A}{ca cb cc:Ex}{a c:A}(h1:ca τ S=.ok a S)(h2:cb τ S=.ok b S)(h3:f a b S=.ok (.bl true) S)(h4:cc τ S=.ok c S):Zk f g ca cb cc τ S=g b c S:=by
 unfold Zk;rw[h1,R.pX,h2,R.pX,h3,R.pX];unfold kCh;show(cc τ S).bind _=_;rw[h4];rfl
def Y_{i:Int}:rD [.int i] S=.ok (.bl true) S:=by
 unfold rD w9 w_;dsimp[kh,bools,mP,Nat.reduceAdd,Nat.reduceSub,show z_ .int "int" = some true from rfl,show z_ .int "bool" = some false from rfl,eU]
def abN{n k:Int}(h1:1<=k)(h2:k<n):nS [.int n,.int k] S=.ok (.bl true) S:=by
 unfold nS sS sI;have c:Zk aLe X5 (eC<|.int 1) (jI 1) (jI 0) [.int n,.int k] S=.ok (.bl true) S:=by
  rw[aco (a:=.int 1) (b:=.int k) (c:=.int n) rfl rfl (by dsimp[kh,bg h1]) rfl];dsimp[kh,bg h2]
 dsimp[kh,bools,mP,Nat.reduceAdd,Nat.reduceSub,Y_,c]
def E3{xs:ag}{k:Nat}(h1:1<=k)(h2:k<xs.length)(hl:xs.length<=1000):∃S',lQ [.tup<|xs.map .int,.int k] S=.ok (.tup<|(Wd.ex xs k).map .int) S'/\lA S S':=by
 have e1:=abN (S:=S) (n:=(xs.length:Int)) (k:=(k:Int)) () ();have a1:rW (xs.map A.int) (k:Int)=some (.int<|xs.getD k 0):=Vb rfl ();have a2:rW (xs.map A.int) ((k:Int)-1)=some (.int<|xs.getD (k-1) 0):=Vb (k:=k-1) () ();have x1:DJ xs.length ((k:Int)-1)=some (k-1):=Bp () ();have x2:DJ xs.length (k:Int)=some k:=Bp rfl ();have hL:jK (S++[O.lst<|xs.map .int]) S.length=some (xs.map .int):=jX;have lS:∀ys,jK ((S++[O.lst<|xs.map .int]).set S.length<|.lst ys) S.length=some ys:=λys=>pW (by simp);have e2:lZ [.tup<|xs.map .int,.int k,.int<|(k:Int)+1] S=.ok (.tup<|(Wd.ex xs k).map .int) (((S++[O.lst<|xs.map .int]).set S.length<|.lst<|(xs.map A.int).set (k-1)<|.int<|xs.getD k 0).set S.length<|.lst<|(Wd.ex xs k).map .int):=by
  unfold lZ oM oB;dsimp[kh,bools,mP,Nat.reduceAdd,Nat.reduceSub,hL,show(k:Int)+1-1=k by lia,a1,a2,m7<|show 2<=sizeLine by decide,m7<|show 2=2 from rfl,aG,x1,lS,bZ,x2,SX];rw[pW<|by simp];dsimp[kh,bools]
 unfold lQ u_ vm;dsimp[kh,wU,bools,mP,Nat.reduceAdd,Nat.reduceSub,aG,e1,cV,e2];exact⟨_,rfl,((Kp.refl.lay).set<|.inr<|aO _).set<|.inr<|aO _⟩
def ixG{xs:ag}{i:Int}(h1:0<=i)(h2:i<xs.length):rW (xs.map A.int) i=some (.int<|xs.getD i.toNat 0):=Vb (k:=i.toNat) () ()
abbrev fl (xs:ag)(n:Nat):ag:=(kK 1 (n:Int)).filter λk=>decide<|xs.getD (k-1).toNat 0>xs.getD k.toNat 0
def Cf{S:jM}{n:Nat}{xs:ag}(hlen:xs.length=n)(h2:n<=20):r6 [.tup<|xs.map .int] S=.ok (.ref S.length) (S++[.lst<|(fl xs n).map .int]):=by
 have ec:=yC (lo:=1) (hi:=(n:Int)) (cap:=[some 0]) (src:=sj (eC<|.int 1)<|j9 (f1 qP)<|jH (jI 0)<|jR) (t:=uW<|jT Mu (jT p_ (jI 1)<|jT aSub (jI 0)<|eC<|.int 1)<|jT p_ (jI 1)<|jI 0) (e:=jI 0) (τ:=[.tup<|xs.map .int]) (S:=S) (S1:=S)
  (yJ (S1:=S) (by dsimp[kh,bools]) (by dsimp[kh,bools,aG,hlen]) (pQ () ())<|pQ () ())
  (λk=>decide<|xs.getD (k-1).toNat 0>xs.getD k.toNat 0) (λk=>.int k) (λk h1 h2=>by
   have x1:rW (xs.map A.int) (k-1)=some (.int<|xs.getD (k-1).toNat 0):=ixG () ();have x2:rW (xs.map A.int) k=some (.int<|xs.getD k.toNat 0):=ixG () ();dsimp[kh,bools,x1,x2]) (λk _ _ _=>by dsimp[kh,bools]) ()
 unfold r6 E8 Ey;dsimp[kh,bools,mP,Nat.reduceAdd,Nat.reduceSub,ec];rfl
theorem EI{t:Int}:∀(p:ag),Vq S (.int t) (p.map .int)=some (decide<|t∈p)
 | []=>rfl
 | x::p=>by
  show(qK S 12 (.int x)<|.int t).bind (λa=>(Vq S (.int t)<|p.map .int).map λb=>a || b)=_;rw[EI p];show some ((x == t) || decide (t∈p))=_;by_cases c:x=t
  ·subst c;rw[bV,bg (show x∈x::p from aM ..)];rfl
  ·rw[eG.mpr c];congr 1;rw[gD,jo];constructor
   ·exact λz=>aN _ z
   ·intro z
    rcases bu.mp z with z|z
    ·exact absurd z.symm c
    ·exact z
open Po (Pl Ok Bd)
open Su (Es At Vl AF)
def DQ{o:ag}{N k:Nat}(hl:o.length=N)(h1:1<=k)(h2:k<N):decide ((k:Int)∈fl o N)=Su.oW o k:=by
 unfold fl Su.oW;rw[jo,b_,nU,eF,show((k:Int)-1).toNat=k-1 by lia,c9];constructor
 ·exact λh=>h.2
 ·exact λh=>⟨⟨(),()⟩,h⟩
def T_{S:jM}{n N k:Nat}{es:Es}(h:Sm S n es)(h1:∀e∈es,e.1.length=N/\2 * e.2.2.length<=j/\∀p∈e.2.2,p.2.natAbs<big)(k1:1<=k)(k2:k<N)(hN:N<=20)(hl:(2 * es.length+2) * j<16777216)(hl':es.length<=100000) :
  ∃(L:Nat) (S':jM) (rs:Es),mV [.ref n,.int k] S=.ok (.ref L) S'/\Sm S' L rs/\Su.sm rs=Su.bx k (Su.sm es)/\(∀e∈rs,Ok e.2.2/\e.2.2≠[]/\e.2.2.length<=2 * es.length * j/\S.length<=e.2.1/\e.2.1<L)/\Su.Ap rs/\rs.length<=2 * es.length/\S.length<=L/\lA S S':=by
 have k0:lA S (S++[.dct []]):=Kp.refl.lay;obtain⟨y3,y4,xs,D,T,hz,e1,f,kp⟩:=Su.xZ (w:=2) (j:=j) (b:=S.length) (i0:=0) (S:=S++[.dct []]) (S1:=S++[.dct []]) (d:=S.length) (n:=n) (es:=es) (src:=oq) (c:=mR) (g:=xD 2<|oR (kD 3)<|oR (kD 4)<|xB) (λy z _=>[.ref n,.int k,.ref S.length,y,z]) (λ_=>True) (Su.gX k) (λ_ _ _ _ _=>rfl) (x3:=.unb) (x4:=.unb) (xs0:=[]) trivial
  (show oq _ _=_ from mD (by dsimp[kh,bools])<|j8 h.l) (j8 h.l) (Su.Fil.new Su.pG) λi e T Q D xs hi he _ kT f=>by
   obtain⟨b1,b2,b3⟩:=h1 e he;have tl:=kT.len;have hm:2 * i+2<=2 * es.length:=()
   have hm2:(2 * i+2) * j<=(2 * es.length) * j:=b7 _ hm;have hm3:(2 * es.length+2) * j=2 * es.length * j+2 * j:=by rw[jb]
   have hm4:(2 * i+2) * j=(2 * i+1) * j+j:=d7 _ _;have hm5:(2 * i+1) * j=2 * i * j+j:=d7 _ _;rw[aS]at tl;obtain⟨T0,e0,kq⟩:=E3 (S:=T) (xs:=e.1) (k:=k) k1 () ();have aT:=((h.a.yz k0).Hv kT Su.pG).yz kq;have f0:=f.yz kq;have qtl:=kq.len;rw[bR]at f0;have ne1:Wd.ex e.1 k≠[]:=λz=>by have:=Wd.lI e.1 k;rw[z]at this;simp at this;lia
   obtain⟨D1,T1,e1,f1,k1'⟩:=f0.add u9 (o:=Wd.ex e.1 k) (aT e he) () ne1 () () ();have k1l:=k1'.len;have fo:=Cf (S:=T1) (xs:=e.1) (n:=N) b1 hN;have in1:UT false (.int k) (.ref T1.length) (T1++[.lst<|(fl e.1 N).map .int])=.ok (.bl<|Su.oW e.1 k) (T1++[.lst<|(fl e.1 N).map .int]):=by
    show opt (jK _ _) _=_;rw[jX,kL,EI,DQ b1 k1 k2];rfl
   have kE:lA T1 (T1++[.lst<|(fl e.1 N).map .int]):=Kp.refl.lay;obtain⟨U,hU⟩:∃U,U=T1++[O.lst<|(fl e.1 N).map .int]:=⟨_,rfl⟩;rw[<- hU]at in1 kE fo;have fU:=f1.yz kE;have kTU:Kp (·=S.length) T U:=(kq.of0.trans k1').trans kE.of0
   cases hf:Su.oW e.1 k with
   | false=>
    refine⟨D1,U,[],trivial,?_,?_,kTU⟩
    ·rw[hf]at in1;unfold mR;dsimp[kh,wU,bools,e0,e1,fo,in1]
    ·rw[bR];unfold Su.gX;rw[hf,aJ<|by simp];exact fU.mono ()
   | true=>
    have aU:=(aT.Hv k1' f0.dd).yz kE;have n0:jK (U++[.lst<|AF.map kA]) U.length=some (AF.map kA):=jX;obtain⟨L,T2,e2,l1,l2,k2'⟩:=zp kA (λ_ _ _=>rfl) n0 (j8 (o:=.lst<|AF.map kA)<|aU e he) (show 2 * e.2.2.length<16777216 by lia) (λp hp=>by
     rw[sC]
     rcases bu.mp hp with z|z
     ·rw[z];exact show 1<2 ^ 4096 by decide +kernel
     ·rw[aP.mp z];exact show 1<2 ^ 4096 by decide +kernel) b3
    have kU2:lA U T2:=(Kp.refl.lay).trans k2';have tl2:=kU2.len;have tle:=kE.len;obtain⟨D2,T3,e3,f3,k3'⟩:=(fU.yz kU2).add u9 (o:=e.1) l1 (bB (Su.yW _ _)<|show 2 * e.2.2.length<=j from b2) (λz=>by rw[z]at b1;simp at b1;lia) () () ();refine⟨D2,T3,[],trivial,?_,?_,(kTU.trans kU2.of0).trans k3'⟩
    ·rw[hf]at in1;unfold mR;dsimp[kh,wU,bools,e0,e1,fo,in1];rw[show[((-1:Int),(1:Int)),((1:Int),(-1:Int))].map kA=AF.map kA from rfl];dsimp[kh,wU,bools,e2,e3]
    ·rw[bR];unfold Su.gX;rw[hf,aL rfl];exact f3
 have kT:lA S T:=k0.old kp λq hq _ z=>()
 have fl:=f.ll;rw[bR]at fl;obtain⟨L,S',e2,r1,r2,r3,r4⟩:=E1 f.dd f.aa f.kk ();have tl:=kT.len;have fs:=f.ss;rw[Su.EA]at fs;refine⟨L,S',_,?_,⟨r1,r2⟩,by rw[Su.wA,fs];rfl,λe he=>?_,f.pw.out _,?_,(),kT.trans r4⟩
 ·unfold mV tB sG;dsimp[kh,wU,bools,mP,Nat.reduceAdd,Nat.reduceSub,Su.tZ];rw[show kX oq _ mR _ _=_ from e1];dsimp[kh,wU,bools,e2]
 ·obtain⟨m1,m2⟩:=Su.wH he;obtain⟨v1,v2,v3⟩:=f.vv e m1;have lt:=oG<|f.aa e m1;rw[bR]at v2;exact⟨v1,λz=>(by rw[z]at m2;cases m2),v2,v3,()⟩
 ·unfold Su.uX;rw[aG];refine bB (cN _ _) ?_;rw[(kB _).length_eq,aG];exact fl
end K31
namespace K31
open PySem L2 Am
open Po (Pl Ok Bd)
open Su (Es At Vl AF)
open He (Sz)
open Fw (rg)
def Sm.Hv{n:Nat}(h:Sm S n es)(k:Kp (·=d) S S')(hd:ko S d=some kvs):Sm S' n es:=⟨k.lst _ _ (λz=>Su.qD hd h.l z.symm) h.l,h.a.Hv k hd⟩
def nG{N:Nat}{o:ag}(h:o.Perm<|rg N):o.length=N:=by rw[h.length_eq,Wd.jZ]
def mC{es:Es}{l:Su.Ps}(h:Su.sm es=l){e:Su.En}(he:e∈es):(e.1,e.2.2)∈l:=by rw[<- h];exact br.mpr ⟨e,he,rfl⟩
structure Kn (N:Nat)(Φ:ag->Su.Ps)(T:jM)(d:Nat)(K:Es):Prop where
 dd:ko T d=some (K.map Su.kv)
 gd:Su.Gd (Su.sm K)
 pm:∀e∈K,e.1.Perm (rg N)
 at_:∀e∈K,∃es:Es,Sm T e.2.1 es/\Su.sm es=Φ e.1
def Kn.yz{N:Nat}{Φ:ag->Su.Ps}{K:Es}(h:Kn N Φ T d K)(k:lA T T'):Kn N Φ T' d K:=⟨k.dct _ _ (λz=>z) h.dd,h.gd,h.pm,λe he=>by obtain⟨es,a,b⟩:=h.at_ e he;exact⟨es,a.kp k,b⟩⟩
def Kn.Hv{N f:Nat}{Φ:ag->Su.Ps}{K:Es}(h:Kn N Φ T d K)(k:Kp (·=f) T T')(hf:ko T f=some kvs)(ne:d≠f):Kn N Φ T' d K:=⟨k.dct _ _ ne h.dd,h.gd,h.pm,λe he=>by obtain⟨es,a,b⟩:=h.at_ e he;exact⟨es,a.Hv k hf,b⟩⟩
def Kn.many{N:Nat}{Φ:ag->Su.Ps}{K:Es}(hN:N<6)(h:Kn N Φ T d K):K.length<=120:=by
 have:=He.many hN h.gd.nd λo ho=>by
  obtain⟨e,he,rfl⟩:=br.mp ho;obtain⟨f,hf,rfl⟩:=br.mp he;exact h.pm f hf
 rwa [aG,Su.pK]at this
def XT:Ok []:=⟨List.Pairwise.nil,nofun⟩
def Kn.put{N r:Nat}{Φ:ag->Su.Ps}{K:Es}{o:ag}(hN:N<6)(h:Kn N Φ T d K)(po:o.Perm<|rg N)(hr:Sm T r es)(he:Su.sm es=Φ o) :
  ∃T' K',FY (.ref d) (.tup<|o.map .int) (.ref r) T=.ok Unit.unit T'/\Kn N Φ T' d K'/\xU (.ref d) (.tup<|o.map .int) T'=.ok (.ref r) T'/\Sm T' r es/\Kp (·=d) T T':=by
 have k:Kp (·=d) T (T.set d<|.dct<|(Su.p6 K o r []).map Su.kv):=Kp.refl.GL<|.inl rfl;have dd:ko (T.set d<|.dct<|(Su.p6 K o r []).map Su.kv) d=some ((Su.p6 K o r []).map Su.kv):=Su.EL<|Su.DO h.dd;obtain⟨e,e1,e2⟩:=Su.MW (D:=K) (o:=o) (r:=r) (p:=[]);have hm:=h.many hN;refine⟨_,Su.p6 K o r [],?_,⟨dd,?_,λe he=>?_,λe he'=>?_⟩,?_,hr.Hv k h.dd,k⟩
 ·rw[Su.BS,h.dd,kL,Su.HN (p:=[])];exact BP (show(K.map Su.kv).length<16777216 by rw[aG];lia)
 ·rw[Su.Q3];exact h.gd.put XT
 ·rcases Su.uG he with z|z
  ·exact h.pm e z
  ·rw[z];exact po
 ·rcases Su.uG he' with z|z
  ·obtain⟨fs,a,b⟩:=h.at_ e z;exact⟨fs,a.Hv k h.dd,b⟩
  ·rw[z];exact⟨es,hr.Hv k h.dd,he⟩
 ·rw[Su.wj,dd,kL,Su.vX,e1,dh,kL,e2]
def WM{o:ag}:SA true (.tup<|o.map .int) (.ref d) S=opt (ko S d) λkvs=>.ok (.bl<|!(mG kvs o).isSome) S:=by
 show opt (ko S d) (λkvs=>opt (A.ints<|o.map .int) λns=>_)=_;rw[ints_map];rfl
open Po (Pl Ok Bd)
open Su (Es At Vl AF)
open He (Sz)
open Fw (rg)
structure Nw (b L:Nat)(rs:Es):Prop where
 ap:Su.Ap rs
 nw:∀e∈rs,b<=e.2.1/\e.2.1<L
def sF{xs:ag}{n:Nat}(px:xs.Perm<|kK 1<|(n:Int)+1):xs.length=n:=by have:=Oq px ();lia
def HK{xs:ag}{n:Int}(px:xs.Perm<|kK 1<|n+1):xs.Nodup:=px.nodup_iff.mpr<|oz _ _
def Ue{xs:ag}{n:Nat}(px:xs.Perm<|kK 1<|(n:Int)+1)(h2:n<=1000):∃(ys:ag) (S':jM),Ct [.tup<|xs.map .int] S=.ok (.tup<|ys.map .int) S'/\Bl.qo xs ys/\ys.Perm (kK 1<|(n:Int)+1)/\lA S S':=by
 have lx:=sF px;unfold Ct IX HR;dsimp[kh,bools,mP,Nat.reduceAdd,Nat.reduceSub,aG,lx];rw[Z2 (k:=n) jX ()];dsimp[kh,bools];have hlen:(S++[O.lst [.int 0]]).length=S.length+1:=by simp
 rw[hlen];refine YH (xs:=xs.map .int) (S1:=S++[O.lst [.int 0]]++[O.lst<|List.replicate n<|.int 0]) (Zd<|by dsimp[kh,bools])
  (λt τ S'=>∃(a2 a3:A) (ps:ag),τ=[.tup<|xs.map .int,.ref<|S.length+1,a2,a3]/\jK S' (S.length+1)=some (ps.map .int)/\ps.length=n/\(∀(p:Nat) (h:p<xs.length),p<t->ps[(xs[p]-1).toNat]?=some ((p:Int)+1))/\lA S S')
  (λr=>∃(ys:ag) (S':jM),RS.end (RS.seq r _)=.ok (.tup<|ys.map .int) S'/\Bl.qo xs ys/\ys.Perm (kK 1<|(n:Int)+1)/\lA S S') ⟨.unb,.unb,List.replicate n 0,rfl,?_,by simp,λ_ _ h=>absurd h<|e_ _,Kp.refl.lay.lay⟩ ?_ ?_
 ·rw[List.map_replicate,<- hlen];exact jX
 ·rintro t x τ S' hx ⟨a2,a3,ps,rfl,hL,hl,hps,hk⟩;rw[aV]at hx;obtain⟨v,hv,rfl⟩:=aY.mp hx;obtain⟨ht,ev⟩:=aK.mp hv;have mv:=Gz px<|aW hv;refine⟨_,_,by dsimp[kh,bools,m7<|show([_,_]:ae).length=2 from rfl];rfl,.inl ?_⟩;have hi:DJ ps.length (v-1)=some (v-1).toNat:=Bp () ();have lL:=oG hL;unfold FP;dsimp[kh,bools,hL,aG,hi];refine⟨_,_,rfl,_,_,ps.set (v-1).toNat<|(t:Int)+1,rfl,?_,by rw[bZ];exact hl,λp hp hpt=>?_,hk.set<|.inr ()⟩
  ·rw[pW lL,iU]
  ·by_cases e:p=t
   ·subst e;rw[ev,bW ()]
   ·have ne:(xs[p]-1).toNat≠(v-1).toNat:=λz=>by
     have mp:=Gz px<|eL hp;have:xs[p]=xs[t]:=by rw[ev];lia
     exact e<|(dJ<|HK px).mp this
    rw[cB<|cO ne];exact hps p hp ()
 ·rintro τ S' ⟨a2,a3,ps,rfl,hL,hl,hps,hk⟩;rw[aG]at hps;refine⟨ps,S',by dsimp[kh,bools,hL],⟨(),λp h=>hps p h h⟩,?_,hk⟩;refine(vB (oz _ _) (λv hv=>?_)<|by rw[oZ];lia).symm;have:=nU.mp hv;have hp:(v-1).toNat<xs.length:=()
  have:=aW (hps (v-1).toNat hp hp)
  rwa [show(((v-1).toNat:Nat):Int)+1=v by lia]at this
end K31
namespace K31
open PySem L2 Am
open Po (Pl Ok Bd)
def Lz{S:jM}{D:Pl}(hd:lX S d=some (Po.iv D))(hl:D.length<=16777216):∃S',lY [.ref d] S=.ok (.ref<|S.length+1) S'/\jK S' (S.length+1)=some (Po.pl<|Po.II D)/\lA S S':=by
 obtain⟨S',e,h1,h2⟩:=Qo hd hl;refine⟨S',?_,h1,h2⟩;unfold lY rV rz;dsimp[kh,bools,mP,Nat.reduceAdd,Nat.reduceSub];rw[show kJ [none,some 0] _ _ _ _ _ _=_ from e];rfl
def N_{S:jM}{n:Nat}{a b:Pl}(hn:jK S n=some (Po.pl a))(hm:jK S m=some (Po.pl b))(hl:a.length+b.length<16777216) :
  ∃(L:Nat) (S':jM),nc [.ref n,.ref m] S=.ok (.ref L) S'/\jK S' L=some (Po.pl<|Po.nB a b)/\S.length<=L/\lA S S':=by
 have hd:lX (S++[.pU []]++[.lst<|Po.pl<|a++b]) S.length=some (Po.iv []):=OA E4;have ad:lK (.ref n) (.ref m) (S++[.pU []])=.ok (.ref (S++[O.pU []]).length) (S++[.pU []]++[.lst<|Po.pl<|a++b]):=by
  show opt (jK (S++[.pU []]) n) _=_;rw[j8 hn,kL,j8 hm,kL];unfold Po.pl;rw[bN];exact nI<|show(a.map Po.pA).length+(b.map Po.pA).length<=16777216 by rw[aG,aG];lia
 obtain⟨y3,y4,T,e,hD,kp⟩:=JM (S:=S++[.pU []]) (S1:=S++[.pU []]++[.lst<|Po.pl<|a++b]) (x0:=.ref n) (x1:=.ref m) (x3:=.unb) (x4:=.unb) (src:=ni) (l:=a++b) (show ni _ _=_ from mD (by dsimp[kh,bools,ad]) jX) jX hd (by rw[aS];simpa using hl);have ln:=Po.nR (a++b) [];rw[aS,cg,bR]at ln;obtain⟨S',e2,h1,h2⟩:=Lz hD ();have k1:lA S T:=((Kp.refl.lay (o:=.pU [])).lay (o:=.lst<|Po.pl<|a++b)).old kp λq hq _ z=>()
 refine⟨T.length+1,S',?_,h1,by have:=k1.len;lia,k1.trans h2⟩;unfold nc rq rG;dsimp[kh,bools,mP,Nat.reduceAdd,Nat.reduceSub,zb];rw[show kX ni _ tK _ _=_ from e];dsimp[kh,bools,e2]
def Dg{S:jM}{n:Nat}{a b:Pl}(hn:jK S n=some (Po.pl a))(hm:jK S m=some (Po.pl b))(hl:a.length * b.length<16777216)(ha:∀p∈a,p.2.natAbs<big)(hb:∀p∈b,p.2.natAbs<big) :
  ∃(L:Nat) (S':jM),kP [.ref n,.ref m] S=.ok (.ref L) S'/\jK S' L=some (Po.pl<|Po.times a b)/\S.length<=L/\lA S S':=by
 have hd:lX (S++[.pU []]) S.length=some []:=E4;obtain⟨y3,y4,y5,y6,T,e,hD,kp⟩:=Mz (S:=S++[.pU []]) (x3:=.unb) (x4:=.unb) (x5:=.unb) (x6:=.unb) (j8 hn) (j8 hm) hd hl ha hb;have ln:=Po.nR (Po.BC a b) [];rw[Po.we,cg,bR]at ln;obtain⟨S',e2,h1,h2⟩:=Lz hD ();have k1:lA S T:=(Kp.refl.lay (o:=.pU [])).old kp λq hq _ z=>()
 refine⟨T.length+1,S',?_,h1,by have:=k1.len;lia,k1.trans h2⟩;unfold kP qp qt;dsimp[kh,bools,mP,Nat.reduceAdd,Nat.reduceSub,zb];rw[show kX rZ _ sE _ _=_ from e];dsimp[kh,bools,e2]
open Po (Pl Ok Bd)
def RM{L:Nat}{l:Pl}(hL:jK S L=some (Po.pl l))(ok:Ok l)(hl:l.length<=1000000):∃S',nQ [.ref L] S=.ok (.bl true) S'/\lA S S':=by
 unfold nQ sZ sP;dsimp[kh,bools,mP,Nat.reduceAdd,Nat.reduceSub,hL,dh,show z_ .lst "list" = some true from rfl,cV];refine p5 (n:=L) (xs:=Po.pl l) (S1:=S) (show uP _ _=_ from mD (by dsimp[kh,bools]) hL)
  (λi τ T=>(∃a1 a2:A,τ=[.ref L,a1,a2])/\T=S) (λr=>∃S',RS.end (RS.seq r _)=.ok (.bl true) S'/\lA S S') ⟨⟨_,_,rfl⟩,rfl⟩ (λi τ T h=>by rw[h.2];exact hL) ?_ ?_
 ·rintro i z τ T hz ⟨⟨a1,a2,rfl⟩,rfl⟩;unfold Po.pl at hz;rw[aV]at hz;obtain⟨p,hp,rfl⟩:=aY.mp hz;have nz:(p.2 == 0)=false:=by simpa using ok.nz p (aW hp)
  refine⟨[.ref L,.tup [.int p.1,.int p.2],a2],T,rfl,.inl ?_⟩;unfold uU;dsimp[kh,bools,show z_ .tup "tuple" = some true from rfl,cV,bz,cg,bR,Nat.reduceAdd,show(((2:Nat):Int) == 2)=true from rfl,LW,nz];refine Jy (xs:=[.int p.1,.int p.2]) (S1:=T) (show uV _ _=_ from Y5<|by dsimp[kh,bools])
   (λj τ T'=>(∃a2:A,τ=[.ref L,.tup [.int p.1,.int p.2],a2])/\T'=T) (λr=>∃τ' S',r=.nx τ' S'/\(∃a1 a2:A,τ'=[.ref L,a1,a2])/\S'=T) ⟨⟨_,rfl⟩,rfl⟩ ?_ ?_
  ·rintro j y τ T' hy ⟨⟨a2,rfl⟩,rfl⟩;obtain⟨q,rfl⟩:∃q:Int,y=.int q:=by
    have:=aW hy;simp at this
    rcases this with z|z
    ·exact⟨_,z⟩
    ·exact⟨_,z⟩
   refine⟨[.ref L,.tup [.int p.1,.int p.2],.int q],T',rfl,.inl ?_⟩;unfold uR;dsimp[kh,bools,show z_ .int "int" = some true from rfl,show z_ .int "bool" = some false from rfl,cV];exact⟨_,_,rfl,⟨_,rfl⟩,rfl⟩
  ·rintro τ T' ⟨⟨a2,rfl⟩,rfl⟩;exact⟨_,_,rfl,⟨_,_,rfl⟩,rfl⟩
 ·rintro τ T ⟨⟨a1,a2,rfl⟩,rfl⟩;have ix:∀j:Int,0<=j->j<(l.length:Int)->rW (Po.pl l) j=some (.tup [.int (l.getD j.toNat (0,0)).1,.int (l.getD j.toNat (0,0)).2]):=λj h0 h1=>D6 (k:=j.toNat) ()<|Vu ();have cc:=yC (lo:=0) (hi:=(l.length:Int)-1) (cap:=[some 0]) (src:=yw<|jT aSub (j9 (f1 qP)<|jH (jI 0)<|jR)<|eC<|.int 1) (t:=xC) (e:=jT X5 (jT p_ (jT p_ (jI 1)<|jI 0)<|eC<|.int 0)<|jT p_ (jT p_ (jI 1)<|jT lK (jI 0)<|eC<|.int 1)<|eC<|.int 0) (τ:=[.ref L,a1,a2]) (S:=T) (S1:=T)
   (Bo (by dsimp[kh,bools,hL,xx])<|pQ () ()) (λ_=>true) (λ_=>.bl true) (λ_ _ _=>rfl) (λj h0 h1 _=>by
    have lt:(l.getD j.toNat (0,0)).1<(l.getD (j+1).toNat (0,0)).1:=by
     have e1:(j+1).toNat=j.toNat+1:=()
     rw[e1,aI,aI,aF<|show j.toNat<l.length by lia,aF<|show j.toNat+1<l.length by lia];exact cA.mp ok.up _ _ _ _ ()
    dsimp[kh,bools,hL,ix j h0 (),ix (j+1) () (),Du,bg lt]) ()
  have al:∀(xs:ag) (S:jM) (n:Nat),jK S n=some (xs.map λ_=>.bl true)->YM (.ref n) S=.ok (.bl true) S:=λxs S n h=>by
   show opt (jK S n) _=_;rw[h];show opt (A.Vd _) _=_;have b1:∀xs:ag,A.Vd (xs.map λ_=>A.bl true)=some (xs.map λ_=>true):=λxs=>by
    induction xs with
    | nil=>rfl
    | cons x xs ih=>rw[bJ,yP,ih];rfl
   rw[b1];have b2:∀xs:ag,((xs.map λ_=>true).all λb=>b)=true:=λxs=>by
    induction xs with
    | nil=>rfl
    | cons x xs ih=>exact ih
   show Am.R.ok (A.bl _) S=_;rw[b2]
  dsimp[kh,bools,cc,al _ _ _ jX];exact⟨_,rfl,Kp.refl.lay⟩
open Po (Pl Ok Bd)
theorem Ku{k:Nat}:∀l:Pl,oX (qK S<|k+2) (Po.pl l) (Po.pl l)=some true
 | []=>rfl
 | p::l=>by
  have e:qK S (k+2) (Po.pA p) (Po.pA p)=some true:=by
   show oX (qK S<|k+1) (([p.1,p.2]:ag).map .int) (([p.1,p.2]:ag).map .int)=_;rw[ug,bg rfl]
  show(qK S (k+2) (Po.pA p)<|Po.pA p).bind _=_;rw[e];show Option.map _ (oX (qK S<|k+2) (Po.pl l)<|Po.pl l)=_;rw[Ku l];rfl
open Po (Pl Ok Bd)
open Su (Es At Vl)
def SI{S:jM}{r:Nat}{D:Es}{o:ag}{p:Pl}{k:Nat}(hd:ko S d=some (D.map Su.kv))(hA:At S D)(hv:Vl k b D)(hr:jK S r=some (Po.pl p))(hl:D.length<16777216)(hk:k+p.length<16777216) :
  ∃(L:Nat) (S':jM),kI [.ref d,.tup<|o.map .int,.ref r] S=.ok .non S'/\ko S' d=some ((Su.p6 D o L<|Po.nB (Su.vS (Su.sm D) o) p).map Su.kv)/\At S' (Su.p6 D o L<|Po.nB (Su.vS (Su.sm D) o) p)/\S.length<=L/\Kp (·=d) S S':=by
 obtain⟨x,ex,hx⟩:=Su.get_or (o:=o) hd hA;have vo:=hv.v o;obtain⟨L,S2,e2,h1,h2,k2⟩:=N_ hx (j8 (o:=.lst []) hr) ();have kS:lA S S2:=(Kp.refl.lay).trans k2;have hd2:=kS.dct _ _ (λz=>z) hd;have hd1:ko (S++[.lst []]) d=some (D.map Su.kv):=Su.xX hd;refine⟨L,S2.set d<|.dct<|(Su.p6 D o L<|Po.nB (Su.vS (Su.sm D) o) p).map Su.kv,?_,Su.EL<|Su.DO hd2,?_,by simp at h2;lia,kS.of0.GL<|.inl rfl⟩
 ·unfold kI qx qv;mg_lt;dsimp[kh,bools,mP,Nat.reduceAdd,Nat.reduceSub,Su.K_,Su.Ld,hd,dh,n0,Su.JN,hd1,ex,e2,Su.Ax,Su.BS,hd2,BP<|show(D.map Su.kv).length<16777216 by rw[aG];exact hl,Su.HN (p:=Po.nB (Su.vS (Su.sm D) o) p)]
 ·refine(Su.At.put (hA.yz kS) h1).kp (Kp.refl.GL<|.inl rfl) λe he z=>?_
  rcases Su.uG he with y|y
  ·exact Su.qD hd (hA e y) z
  ·rw[y]at z;exact Su.qD hd2 h1 z
def y_:Su.AR kI:=λh1 h2 h3 h4 h5 h6=>SI h1 h2 h3 h4 h5 h6
def NX{a:Nat}{q:Pl}(h:jK S a=some (Po.pl q))(h':jK S b=some []):qK S 12 (.ref a) (.ref b)=some q.isEmpty:=by
 show(jK S a).bind (λxs=>(jK S b).bind λys=>oX (qK S 11) xs ys)=_;rw[h,h']
 cases q<;>rfl
def LU{S:jM}{D:Es}(hd:ko S d=some (D.map Su.kv))(hA:At S D)(hne:∀e∈D,e.1≠[])(hl:D.length<=16777216) :
  ∃(n:Nat) (S':jM),mE [.ref d] S=.ok (.ref n) S'/\jK S' n=some ((Su.uX D λp=>!p.isEmpty).map Su.ent)/\At S' (Su.uX D λp=>!p.isEmpty)/\S.length<n/\lA S S':=by
 have n0:=Su.F4 hd hne;obtain⟨n,S',e,h1,h2,h3,h4⟩:=Su.F1 (cap:=[some 0]) (τ:=[.ref d]) (src:=mH<|j9 (f1 yO)<|jH (jI 0)<|jR) (t:=uW<|jT (wM true) (jT xU (jI 1)<|jI 0)<|pC<|jR) (e:=mW<|jH (jI 0)<|jH (jT xU (jI 1)<|jI 0)<|jR) hd hA (mD (by dsimp[kh,bools,n0]) jX) (λp=>!p.isEmpty)
  (λo r q T hT hk hr=>⟨T++[.lst []],by
   have nl:newL [] T=.ok (.ref T.length) (T++[.lst []]):=kM (show 0<=16777216 by decide);have q1:wM true (.ref r) (.ref T.length) (T++[.lst []])=.ok (.bl<|!q.isEmpty) (T++[.lst []]):=B8<|NX (j8 hr) jX;dsimp[kh,bools,Su.Ah,Su.wj,hT,hk,nl,q1],Kp.refl.lay⟩)
  (λo r T hT hk=>by
   dsimp[kh,bools,Su.Ah,Su.wj,hT,hk];exact nI<|show 2<=16777216 by decide) hl
 refine⟨n,S',?_,h1,h2,h3,h4⟩;unfold mE tD sR;dsimp[kh,bools,mP,Nat.reduceAdd,Nat.reduceSub,e]
def Qq{n:Nat}{es:Es}(h:Sm S n es)(hv:∀e∈es,Ok e.2.2/\e.2.2≠[]/\e.2.2.length<=1000000):∃S',pB [.ref n] S=.ok (.bl true) S'/\lA S S':=by
 unfold pB uy um;dsimp[kh,bools,mP,Nat.reduceAdd,Nat.reduceSub,h.l,dh,show z_ .lst "list" = some true from rfl,cV];refine p5 (n:=n) (xs:=es.map Su.ent) (S1:=S) (show vj _ _=_ from mD (by dsimp[kh,bools]) h.l)
  (λi τ T=>(∃a1:A,τ=[.ref n,a1])/\lA S T) (λr=>∃S',RS.end (RS.seq r _)=.ok (.bl true) S'/\lA S S') ⟨⟨_,rfl⟩,Kp.refl⟩ (λi τ T k=>k.2.lst _ _ (λz=>z) h.l) ?_ ?_
 ·rintro i z τ T hz ⟨⟨a1,rfl⟩,kT⟩;rw[aV]at hz;obtain⟨e,he,rfl⟩:=aY.mp hz;have hm:=aW he;obtain⟨v1,v2,v3⟩:=hv e hm;have hr:=(h.a.yz kT) e hm;obtain⟨T1,e1,k1⟩:=RM hr v1 v3;have nl:newL [] T1=.ok (.ref T1.length) (T1++[.lst []]):=kM (show 0<=16777216 by decide);have q1:wM false (.ref e.2.1) (.ref T1.length) (T1++[.lst []])=.ok (.bl false) (T1++[.lst []]):=by
   rw[XW<|NX (j8<|k1.lst _ _ (λz=>z) hr) jX]
   cases hq:e.2.2 with
   | nil=>exact absurd hq v2
   | cons=>rfl
  refine⟨[.ref n,Su.ent e],T,rfl,.inl ?_⟩;unfold vp;dsimp[kh,bools,Su.ent,show z_ .tup "tuple" = some true from rfl,cV,bz,cg,bR,Nat.reduceAdd,show(((2:Nat):Int) == 2)=true from rfl,Du,LW,e1,nl,q1];exact⟨_,_,rfl,⟨_,rfl⟩,(kT.trans k1).lay⟩
 ·rintro τ T ⟨⟨a1,rfl⟩,kT⟩;dsimp[kh,bools];exact⟨_,rfl,kT⟩
theorem Hh{k:Nat}:∀{es fs:Es},At S es->At S fs->Su.sm es=Su.sm fs->oX (qK S<|k+4) (es.map Su.ent) (fs.map Su.ent)=some true
 | [],[],_,_,_=>rfl
 | [],f::fs,_,_,h=>nomatch h
 | e::es,[],_,_,h=>nomatch h
 | e::es,f::fs,h1,h2,h3=>by
  obtain⟨h4,h5⟩:=List.cons.inj h3;have h4:(e.1,e.2.2)=(f.1,f.2.2):=h4;obtain⟨e1,e2⟩:=Prod.mk.inj h4;have a1:=h1 e<|aM ..;have a2:=h2 f<|aM ..;rw[<- e2]at a2;have q1:qK S (k+3) (.tup<|e.1.map .int) (.tup<|f.1.map .int)=some true:=by
   rw[<- e1];show oX (qK S<|k+2) _ _=_;rw[ug,bg rfl]
  have q2:qK S (k+3) (.ref e.2.1) (.ref f.2.1)=some true:=by
   show(jK S e.2.1).bind (λxs=>(jK S f.2.1).bind λys=>oX (qK S<|k+2) xs ys)=_;rw[a1,a2];exact Ku (k:=k) _
  have q:qK S (k+4) (Su.ent e) (Su.ent f)=some true:=by
   skip
   show(qK S (k+3) _ _).bind (λp=>((qK S (k+3) _ _).bind λq=>(oX (qK S<|k+3) [] []).map λr=>q && r).map λq=>p && q)=_;rw[q1,q2];rfl
  show(qK S (k+4) (Su.ent e)<|Su.ent f).bind _=_;rw[q]
  skip
  rw[Hh (λx hx=>h1 x<|aN _ hx) (λx hx=>h2 x<|aN _ hx) h5];rfl
def PJ{n:Nat}{fs:Es}(h:Sm S n es)(h':Sm S m fs)(e:Su.sm es=Su.sm fs):qK S 12 (.ref n) (.ref m)=some true:=by
 show(jK S n).bind (λxs=>(jK S m).bind λys=>oX (qK S 11) xs ys)=_;rw[h.l,h'.l];exact Hh (k:=7) h.a h'.a e
def aaR(xs:ae)(j:Nat)(h:j<=xs.length):wJ xs none (some (j:Int))=xs.take j:=by
 unfold wJ;rw[HT.AU,HT.FN,jC,jA (),Nat.sub_zero]
def slT{us:ag}{t:Nat}(h:t<us.length):Ni (.tup<|us.map .int) none (some (t:Int)) S=.ok (.tup<|(us.take t).map .int) S:=by
 have hg:¬(HT.mY (us.map A.int).length 0 none=0/\HT.mY (us.map A.int).length (us.map A.int).length (some (t:Int))=(us.map A.int).length):=by
  rw[HT.AU,aG]
  lia
 have hs:Ni (.tup<|us.map .int) none (some (t:Int)) S=.ok (.tup<|wJ (us.map .int) none<|some (t:Int)) S:=m7 hg;rw[hs,aaR _ t<|by rw[aG];lia,map_take]
def slD{us:ag}{t:Nat}(h0:1<=t)(h:t<=us.length):Ni (.tup<|us.map .int) (some (t:Int)) none S=.ok (.tup<|(us.drop t).map .int) S:=by
 have hg:¬(HT.mY (us.map A.int).length 0 (some (t:Int))=0/\HT.mY (us.map A.int).length (us.map A.int).length none=(us.map A.int).length):=by
  rw[HT.AU,aG]
  lia
 have hs:Ni (.tup<|us.map .int) (some (t:Int)) none S=.ok (.tup<|wJ (us.map .int) (some (t:Int)) none) S:=m7 hg;rw[hs];congr 2;unfold wJ;rw[HT.AU,HT.FN,aG,jA (),dQ<|by simp,map_drop]
open Po (Pl Ok Bd)
open Su (Es At Vl AF)
def Ow{o:ag}{k:Nat}(h1:1<=k)(h2:k<o.length):o.take (k-1)++[o.getD k 0,o.getD (k-1) 0]++o.drop (k+1)=Wd.ex o k:=by
 apply cW;intro p;rw[Wd.o6 h1 h2];have l1:(o.take<|k-1).length=k-1:=by rw[bI];lia
 rw[ck];by_cases c1:p<k-1
 ·rw[bG (),aJ (),aJ (),List.getElem?_take,aL c1]
 ·rw[dP (),l1];by_cases c2:p=k-1
  ·subst c2;rw[aJ (),aL rfl,gZ];show some (o.getD k 0)=_;rw[Wd.ku h2,aF h2]
  ·by_cases c3:p=k
   ·subst c3;rw[aL rfl,show p-(p-1)=1 by lia];show some (o.getD (p-1) 0)=_;rw[Wd.ku (),aF ()]
   ·rw[aJ c3,aJ c2,dP<|by show 2<=_;lia,gK];congr 1;show k+1+(p-(k-1)-2)=p
    lia
def Bq{xs ys:ag}(h:xs.length+ys.length<=16777216):lK (.tup<|xs.map .int) (.tup<|ys.map .int) S=.ok (.tup<|(xs++ys).map .int) S:=by
 skip
 rw[bN];exact XS<|by rw[aG,aG];exact h
def Xq:∀p∈AF,p.2.natAbs<big:=λp hp=>by
 rw[sC]
 rcases bu.mp hp with z|z
 ·rw[z];exact show 1<2 ^ 4096 by decide +kernel
 ·rw[aP.mp z];exact show 1<2 ^ 4096 by decide +kernel
def X3{S:jM}{n N k:Nat}{es:Es}(h:Sm S n es)(h1:∀e∈es,e.1.length=N/\2 * e.2.2.length<=j/\∀p∈e.2.2,p.2.natAbs<big)(k1:1<=k)(k2:k<N)(hN:N<=20)(hl:(2 * es.length+2) * j<16777216)(hl':es.length<=100000) :
  ∃(L:Nat) (S':jM) (rs:Es),l8 [.ref n,.int k] S=.ok (.ref L) S'/\Sm S' L rs/\Su.sm rs=Su.bx k (Su.sm es)/\(∀e∈rs,Ok e.2.2/\e.2.2.length<=2 * es.length * j)/\rs.length<=2 * es.length/\S.length<=L/\lA S S':=by
 have k0:lA S (S++[.dct []]):=Kp.refl.lay;have g2:∀x y:A,gd (([x,y]:ae).length<=sizeLine)=λr:Am.R A=>r:=λx y=>by funext r;exact nI (show 2<=16777216 by decide)
 obtain⟨y3,y4,xs,D,T,hz,e1,f,kp⟩:=Su.xZ (w:=2) (j:=j) (b:=S.length) (i0:=0) (S:=S++[.dct []]) (S1:=S++[.dct []]) (d:=S.length) (n:=n) (es:=es) (src:=mq) (c:=lg) (g:=xD 2<|oR (kD 3)<|oR (kD 4)<|xB) (λy z xs=>.ref n::.int k::.ref S.length::y::z::xs) (λxs=>∃a,xs=[a]) (Su.gX k) (λ_ _ _ _ _=>rfl) (x3:=.unb) (x4:=.unb) (xs0:=[.unb]) ⟨_,rfl⟩
  (show mq _ _=_ from mD (by dsimp[kh,bools])<|j8 h.l) (j8 h.l) (Su.Fil.new Su.pG) λi e T Q D xs hi he hx kT f=>by
   obtain⟨a5,rfl⟩:=hx;obtain⟨b1,b2,b3⟩:=h1 e he;have tl:=kT.len;have hm:2 * i+2<=2 * es.length:=()
   have hm2:(2 * i+2) * j<=(2 * es.length) * j:=b7 _ hm;have hm3:(2 * es.length+2) * j=2 * es.length * j+2 * j:=by rw[jb]
   have hm4:(2 * i+2) * j=(2 * i+1) * j+j:=d7 _ _;have hm5:(2 * i+1) * j=2 * i * j+j:=d7 _ _;rw[aS]at tl;have aT:=(h.a.yz k0).Hv kT Su.pG;rw[bR]at f;have ne1:Wd.ex e.1 k≠[]:=λz=>by have:=Wd.lI e.1 k;rw[z]at this;simp at this;lia
   obtain⟨D1,T1,e1,f1,k1'⟩:=f.add y_ (o:=Wd.ex e.1 k) (aT e he) () ne1 () () ();have k1l:=k1'.len;have a1:rW (e.1.map A.int) (k:Int)=some (.int<|e.1.getD k 0):=Vb rfl ();have a2:rW (e.1.map A.int) ((k:Int)-1)=some (.int<|e.1.getD (k-1) 0):=Vb (k:=k-1) () ();have s1:Ni (.tup<|e.1.map .int) none (some<|(k:Int)-1) T=.ok (.tup<|(e.1.take<|k-1).map .int) T:=by
    rw[show(k:Int)-1=((k-1:Nat):Int)by lia];exact slT ()
   have s2:Ni (.tup<|e.1.map .int) (some<|(k:Int)+1) none T=.ok (.tup<|(e.1.drop<|k+1).map .int) T:=by
    rw[show(k:Int)+1=((k+1:Nat):Int)by lia];exact slD () ()
   have x1:rW (e.1.map A.int) (k:Int)=some (.int<|e.1.getD k 0):=Vb rfl ();have x2:rW (e.1.map A.int) ((k:Int)-1)=some (.int<|e.1.getD (k-1) 0):=Vb (k:=k-1) () ();have d1:lK (.tup<|(e.1.take<|k-1).map .int) (.tup [.int<|e.1.getD k 0,.int<|e.1.getD (k-1) 0]) T=.ok (.tup<|(e.1.take (k-1)++[e.1.getD k 0,e.1.getD (k-1) 0]).map .int) T:=
    Bq (ys:=[e.1.getD k 0,e.1.getD (k-1) 0]) (by rw[bI];show _+2<=_;lia)
   have d2:lK (.tup<|(e.1.take (k-1)++[e.1.getD k 0,e.1.getD (k-1) 0]).map .int) (.tup<|(e.1.drop<|k+1).map .int) T=.ok (.tup<|(Wd.ex e.1 k).map .int) T:=by
    rw[Bq<|by rw[aS,bI,cT];show _+2+_<=_;lia,Ow k1 ()]
   cases hf:Su.oW e.1 k with
   | false=>
    refine⟨D1,T1,[.tup<|(Wd.ex e.1 k).map .int],⟨_,rfl⟩,?_,?_,k1'⟩
    ·unfold lg;have hd:decide (e.1.getD (k-1) 0>e.1.getD k 0)=false:=hf;dsimp[kh,wU,bools,s1,a1,a2,g2,d1,s2,d2,e1,hd]
    ·rw[bR];unfold Su.gX;rw[hf,aJ<|by simp];exact f1.mono ()
   | true=>
    have aU:=aT.Hv k1' f.dd;have n0:jK (T1++[.lst<|Po.pl AF]) T1.length=some (Po.pl AF):=jX;obtain⟨L,T2,e2,l1,l2,k2'⟩:=Dg n0 (j8 (o:=.lst<|Po.pl AF)<|aU e he) (show 2 * e.2.2.length<16777216 by lia) Xq b3;have kU2:lA T1 T2:=(Kp.refl.lay).trans k2';have tl2:=kU2.len;obtain⟨D2,T3,e3,f3,k3'⟩:=(f1.yz kU2).add y_ (o:=e.1) l1 (bB (Su.yW _ _)<|show 2 * e.2.2.length<=j from b2) (λz=>by rw[z]at b1;simp at b1;lia) () () ();refine⟨D2,T3,[.tup<|(Wd.ex e.1 k).map .int],⟨_,rfl⟩,?_,?_,(k1'.trans kU2.of0).trans k3'⟩
    ·unfold lg;have hd:decide (e.1.getD (k-1) 0>e.1.getD k 0)=true:=hf;rw[show Po.pl AF=[A.tup [.int<|-1,.int 1],.tup [.int 1,.int<|-1]]from rfl]at e2;dsimp[kh,wU,bools,s1,a1,a2,g2,d1,s2,d2,e1,hd,e2,e3]
    ·rw[bR];unfold Su.gX;rw[hf,aL rfl];exact f3
 have kT:lA S T:=k0.old kp λq hq _ z=>()
 have fl:=f.ll;rw[bR]at fl;obtain⟨L,S',e2,r1,r2,r3,r4⟩:=LU f.dd f.aa f.kk ();have tl:=kT.len;have fs:=f.ss;rw[Su.EA]at fs;refine⟨L,S',_,?_,⟨r1,r2⟩,by rw[Su.wA,fs];rfl,λe he=>?_,?_,(),kT.trans r4⟩
 ·obtain⟨a5,rfl⟩:=hz;unfold l8 oN oJ;dsimp[kh,wU,bools,mP,Nat.reduceAdd,Nat.reduceSub,Su.tZ];rw[show kX mq _ lg _ _=_ from e1];dsimp[kh,wU,bools,e2]
 ·obtain⟨m1,m2⟩:=Su.wH he;obtain⟨v1,v2,v3⟩:=f.vv e m1;rw[bR]at v2;exact⟨v1,v2⟩
 ·unfold Su.uX;rw[aG];refine bB (cN _ _) ?_;rw[(kB _).length_eq,aG];exact fl
end K31
namespace K31
open PySem L2 Am
open Po (Pl Ok Bd)
open Su (Es At Vl)
open He (Sz)
def XY{S:jM}{n N P c:Nat}{fs:Es}(hN:N<6)(h0:1<=N)(h:Sm S n es)(h':Sm S m fs)(hz:Sz N P C<|Su.sm es)(hz':Sz N P c<|Su.sm fs)(hP:P<=10000) :
  ∃(L:Nat) (S':jM) (rs:Es),wm [.ref n,.ref m] S=.ok (.ref L) S'/\Sm S' L rs/\Su.sm rs=He.IZ (Su.sm es) (Su.sm fs)/\Nw S.length L rs/\S.length<=L/\lA S S':=by
 have nl:=Ea h h' (λe he=>nG<|hz.pm _<|mC rfl he) λe he=>nG<|hz'.pm _<|mC rfl he;have m1:=hz.many hN;have m2:=hz'.many hN;rw[Su.pK]at m1 m2;have hle:(es++fs).length=es.length+fs.length:=aS ..;have n1:jK (S++[.dct []]) n=some (es.map Su.ent):=j8 h.l;have n2:jK (S++[.dct []]) m=some (fs.map Su.ent):=j8 h'.l;have ad:=Qk n1 n2 (by rw[aG,aG];lia);rw[<- bN]at ad;have k0:lA S (S++[.dct []]++[.lst<|(es++fs).map Su.ent]):=Kp.refl.lay.lay;have hj:∀e∈es++fs,e.2.2.length<=2 * P+1/\e.1≠[]:=λe he=>by
  have:e.1.length=N/\e.2.2.length<=2 * P+1:=(bE.mp he).elim (λz=>⟨nG<|hz.pm _<|mC rfl z,(hz.pb<|mC rfl z).2⟩) λz=>⟨nG<|hz'.pm _<|mC rfl z,(hz'.pb<|mC rfl z).2⟩;exact⟨this.2,λz=>by rw[z]at this;have:=this.1;simp at this;lia⟩
 obtain⟨j,hj'⟩:∃j,j=2 * P+1:=⟨_,rfl⟩;rw[<- hj']at hj;have hb:(0+(es++fs).length) * j+j<16777216:=by
  have:(0+(es++fs).length) * j<=240 * j:=b7 _ ()
  lia
 obtain⟨y3,y4,D,T,e1,f,kp⟩:=Su.LH u9 (j:=j) (b:=S.length) (i0:=0) (S:=S++[.dct []]) (S1:=S++[.dct []]++[.lst<|(es++fs).map Su.ent]) (d:=S.length) (x0:=.ref n) (x1:=.ref m) (x3:=.unb) (x4:=.unb) (xs:=[]) (src:=wG) (es:=es++fs)
  (show wG _ _=_ from mD (by dsimp[kh,bools,ad]) jX) jX ((h.a.app h'.a).yz k0) (Su.Fil.new<|Su.xX Su.pG) k0.len hj hb ()
 have kT:lA S T:=k0.old kp λq hq _ z=>()
 have fl:=f.ll;obtain⟨L,S',e2,r1,r2,r3,r4⟩:=E1 f.dd f.aa f.kk ();have tl:=kT.len;refine⟨L,S',_,?_,⟨r1,r2⟩,by rw[Su.wA,f.ss,Su.Em];rfl,⟨f.pw.out _,λe he=>?_⟩,(),kT.trans r4⟩
 ·unfold wm E_ DL;dsimp[kh,wU,bools,mP,Nat.reduceAdd,Nat.reduceSub,nl,Su.tZ];rw[show kX wG _ CS _ _=_ from e1];dsimp[kh,wU,bools,e2]
 ·obtain⟨m1,m2⟩:=Su.wH he;obtain⟨v1,v2,v3⟩:=f.vv e m1;have lt:=oG<|f.aa e m1;exact⟨v3,()⟩
abbrev Sn (N P C:Nat)(S:jM)(n:Nat)(l:Su.Ps):Prop:=Sz N P C l/\∃es,Sm S n es/\Su.sm es=l
end K31
namespace K31
open PySem L2 Am
open Fw (yY Dn Two Va rg)
def Ib{l:ag}{n:Nat}(hl:l.length=n){x:Int}:x∈fl l n ↔ ∃k:Nat,x=k/\yY l k:=by
 unfold fl;rw[b_,nU,eF];constructor
 ·rintro⟨⟨h1,h2⟩,h3⟩;refine⟨x.toNat,(),(),(),?_⟩;rw[show(x-1).toNat=x.toNat-1 by lia]at h3;exact h3
 ·rintro⟨k,rfl,h1,h2,h3⟩;refine⟨⟨(),()⟩,?_⟩;rw[show((k:Int)-1).toNat=k-1 by lia,c9];exact h3
def UQ{l:ag}{n:Nat}(hl:l.length=n)(h:∀k,¬yY l k):fl l n=[]:=by
 rw[List.eq_nil_iff_forall_not_mem];intro x hx;obtain⟨k,_,hk⟩:=(Ib hl).mp hx;exact h k hk
def UO{l:ag}{n k:Nat}(hl:l.length=n)(hk:yY l k)(hm:∀j,yY l j->k<=j):∃t,fl l n=(k:Int)::t:=by
 have hin:(k:Int)∈fl l n:=(Ib hl).mpr ⟨k,rfl,hk⟩;have pw:(fl l n).Pairwise (·<=·):=(ED 1 (n:Int)).sublist fL;have hmem:∀x∈fl l n,(k:Int)<=x:=λx hx=>by
  obtain⟨j,rfl,hj⟩:=(Ib hl).mp hx;have:=hm j hj
  lia
 cases e:fl l n with
 | nil=>rw[e]at hin;cases hin
 | cons y t=>
  rw[e]at hin pw hmem;have h1:=hmem y<|aM ..;have:y=(k:Int):=by
   rcases bu.mp hin with z|z
   ·exact z.symm
   ·have:=(bQ.mp pw).1 _ z;lia
  exact⟨t,by rw[this]⟩
def aaC{n:Nat}{xs:ae}(h:jK S n=some xs):A.VY (.ref n) S=some (!xs.isEmpty):=by
 show(jK S n).map _=_;rw[h];rfl
def Tr(w:am)(k:Nat):wd w++[A.int (k:Int)]=wd (w++[k]):=by unfold wd;rw[bN];rfl
def aaS{S:jM}{o:ag}{n:Nat}(px:o.Perm<|kK 1<|(n:Int)+1)(h2:n<=20)(hu:Bl.qo o u)(hk:Dn u ks) :
  ∃(W:Nat) (S':jM),nj [.tup<|o.map .int] S=.ok (.ref W) S'/\jK S' W=some (wd ks)/\S.length<=W/\lA S S':=by
 obtain⟨ys,S1,e1,hb,py,k1⟩:=Ue (S:=S) px (show n<=1000 by lia);have eyu:ys=u:=by
  have l1:=hb.1;have l2:=hu.1;apply cW;intro q;by_cases hq:q<u.length
  ·have lo:=sF px;obtain⟨p,hp,ep⟩:∃p,∃h:p<o.length,o[p]=(q:Int)+1:=by
    have:(q:Int)+1∈o:=px.mem_iff.mpr<|nU.mpr ⟨(),()⟩;obtain⟨p,hp,ep⟩:=List.getElem_of_mem this;exact⟨p,hp,ep⟩
   have a1:=hb.2 p hp;have a2:=hu.2 p hp;rw[ep,show((q:Int)+1-1).toNat=q by lia]at a1 a2;rw[a1,a2]
  ·rw[b8 (),b8 ()]
 subst eyu;have lu:=sF py;have hks:ks.length<=400:=by
  rw[hk.len];have:=Iv.BH ys;rw[lu]at this;exact bB this<|dG h2 h2
 have f0:=Cf (S:=S1++[.lst []]) (xs:=ys) lu h2;have l1:(S1++[O.lst []]).length=S1.length+1:=by simp
 have key:=vf (t:=qT) (c:=rL)
  (λτ T=>∃(C:Nat) (l:ag) (done rest:am),τ=[.tup<|o.map .int,.tup<|l.map .int,.ref S1.length,.ref C]/\ks=done++rest/\Dn l rest/\l.Perm (kK 1<|(n:Int)+1)/\jK T S1.length=some (wd done)/\jK T C=some ((fl l n).map .int)/\C≠S1.length/\lA S1 T)
  (λτ T=>ks.length-((jK T S1.length).getD []).length)
  (λr=>∃(W:Nat) (S':jM),RS.end (RS.seq r<|lN<|jI 2)=.ok (.ref W) S'/\jK S' W=some (wd ks)/\S.length<=W/\lA S S') ?_ 1000000
 ·unfold nj uN uF;dsimp[kh,wU,bools,mP,Nat.reduceAdd,Nat.reduceSub,e1,f0];refine key _ _ ⟨(S1++[O.lst []]).length,ys,[],ks,rfl,rfl,hk,py,j8 jX,jX,(),Kp.refl.lay.lay⟩ ()
 ·rintro τ T ⟨C,l,done,rest,rfl,hd,hdn,pl,hW,hC,hne,kp⟩;have ll:=sF pl;unfold qT;dsimp[kh,bools,aaC hC]
  cases rest with
  | nil=>
   left;rw[UQ ll hdn];rw[cG]at hd;refine⟨T,rfl,S1.length,T,?_,by rw[hd];exact hW,k1.len,k1.trans kp⟩;dsimp[kh,bools]
  | cons k rest=>
   right;obtain⟨t,ht⟩:=UO ll hdn.1.1 hdn.1.2;rw[ht]at hC;rw[ht];refine⟨T,rfl,.inl ?_⟩;have hk1:=hdn.1.1;have a0:rW ((((k:Int)::t).map A.int)) 0=some (.int k):=Du;have hdl:done.length<ks.length:=by rw[hd,aS,bz];lia
   have lW:=oG hW;have hC':jK (T.set S1.length<|.lst<|wd<|done++[k]) C=some (((k:Int)::t).map .int):=by rw[ow<|cO hne];exact hC
   obtain⟨T2,e2,kp2⟩:=E3 (S:=T.set S1.length<|.lst<|wd<|done++[k]) (xs:=l) (k:=k) hk1.1 hk1.2.1 ();have hx:(Wd.ex l k).length=n:=by rw[Wd.lI];exact ll
   have f1:=Cf (S:=T2) (xs:=Wd.ex l k) hx h2;unfold rL;dsimp[kh,wU,bools,hC,a0,hW,BP<|show(wd done).length<16777216 by rw[aG];lia,Tr,hC',e2,f1];have hW2:jK (T2++[O.lst<|(fl (Wd.ex l k) n).map A.int]) S1.length=some (wd<|done++[k]):=j8<|kp2.lst _ _ (λz=>z)<|pW lW;have lt2:T.length<=T2.length:=by have:=kp2.len;rwa [bZ]at this
   refine⟨_,_,rfl,⟨T2.length,Wd.ex l k,done++[k],rest,rfl,by rw[hd,ck];rfl,hdn.2,Fw.mX pl hk1.1 hk1.2.1,hW2,jX,(),((kp.set<|.inr<|aO _).trans kp2).lay⟩,?_⟩;dsimp[hW2,hW,dX];dsimp[aG,aS,bz,cg]
   lia
open Po (Pl Ok Bd)
open Su (Es At Vl AF)
open He (Sz PB)
open Fw (rg)
def Tv{S:jM}{n N P c:Nat}{q:Pl}(f:Int×Int->A)(hf:∀p τ S,QU (f p) τ S=QU (Po.pA p) τ S)(hN:N<6)(h0:1<=N)(h:Sm S n es)(hz:Sz N P C<|Su.sm es)(hq:jK S m=some (q.map f))(pq:PB Q c q)(lq:q.length<=2)(hP:P<=1000)(hC:C<big)(hc:c<big) :
  ∃(L:Nat) (S':jM) (rs:Es),tN [.ref m,.ref n] S=.ok (.ref L) S'/\Sm S' L rs/\Su.sm rs=He.P9 q (Su.sm es)/\S.length<=L/\lA S S':=by
 have k0:lA S (S++[.dct []]):=Kp.refl.lay;have m1:=hz.many hN;rw[Su.pK]at m1;obtain⟨j,hj⟩:∃j,j=2 * (2 * P+1):=⟨_,rfl⟩;obtain⟨y3,y4,_,D,T,_,e1,fD,kp⟩:=Su.xZ (w:=1) (j:=j) (b:=S.length) (i0:=0) (S:=S++[.dct []]) (S1:=S++[.dct []]) (d:=S.length) (n:=n) (es:=es) (src:=uB) (c:=uJ) (g:=xD 2<|oR (kD 3)<|oR (kD 4) xB) (λy z _=>[.ref m,.ref n,.ref S.length,y,z]) (λ_=>True) (λe Q=>Su.Ac Q e.1<|Po.times q e.2.2) (λ_ _ _ _ _=>rfl) (x3:=.unb) (x4:=.unb) (xs0:=[]) trivial
  (show uB _ _=_ from mD (by dsimp[kh,bools])<|j8 h.l) (j8 h.l) (Su.Fil.new Su.pG) λi e T Q1 D xs hi he _ kT fT=>by
   have b:=hz.pb<|mC rfl he;have tl:=kT.len;rw[aS]at tl;rw[bR,fy]at fT;rw[bR,fy];have hm1:i * j<=120 * j:=b7 _ ();have lb:e.2.2.length<=2 * P+1:=b.2;have ll:q.length * e.2.2.length<=j:=by rw[hj];exact dG lq lb
   obtain⟨L,T1,x1,l1,l2,k1⟩:=zp f hf (kT.lst _ _ (λz=>Su.qD (Su.pG (S:=S) (xs:=[])) (j8 (o:=.dct []) hq) z.symm)<|j8 hq) (((h.a.yz k0).Hv kT Su.pG) e he) () (λp hp=>cK (pq.c p hp) hc) λp hp=>cK (b.1.c p hp) hC;have k1l:=k1.len;obtain⟨D',T',x2,f',k'⟩:=(fT.yz k1).add u9 (o:=e.1) l1 (bB (Su.yW _ _) ll) (λz=>by
    have:=nG<|hz.pm _<|mC rfl he;rw[show((e.1,e.2.2):ag×Pl).1=e.1 from rfl,z]at this;simp at this;lia) () () ()
   exact⟨D',T',[],trivial,by unfold uJ;dsimp[kh,bools,x1,x2],f',k1.of0.trans k'⟩
 rw[bR,fy,Su.DA]at fD;have kT:lA S T:=k0.old kp λq hq _ z=>()
 have fl:=fD.ll;obtain⟨L,S',e2,r1,r2,r3,r4⟩:=E1 fD.dd fD.aa fD.kk ();have tl:=kT.len;refine⟨L,S',_,?_,⟨r1,r2⟩,by rw[Su.wA,fD.ss];rfl,(),kT.trans r4⟩;unfold tN Cr Cj;dsimp[kh,bools,mP,Nat.reduceAdd,Nat.reduceSub,Su.tZ];rw[show kX uB _ uJ _ _=_ from e1];dsimp[kh,bools,e2]
def U4{w:am}{k:Nat}(h:w.getLast?=some k):rW (wd w) (-1)=some (.int k):=by
 obtain⟨u,rfl⟩:=List.getLast?_eq_some_iff.mp h;unfold wd;rw[bN];have e:DJ (u.map (λk:Nat=>A.int (k:Int))++[A.int (k:Int)]).length (-1)=some u.length:=by
  unfold DJ;rw[aS,aG,c7,aJ (),aL ()];congr 1
  lia
 show(DJ _<|-1).bind _=_;rw[show List.map (λk:Nat=>A.int (k:Int)) [k]=[A.int (k:Int)]from rfl,e,cE,dP<|by rw[aG];exact aO _,aG,gZ];rfl
theorem L_{N:Nat}(hN:N<6)(h0:1<=N):∀(f:Nat) {S:jM}{K:Es}{o:ag},Iv.inv o<f->o.Perm (rg N)->Kn N (He.tV N) S d K ->
  ∃(r:Nat) (S':jM) (K' rs:Es),mS f [.tup<|o.map .int,.ref d] S=.ok (.ref r) S'/\Kn N (He.tV N) S' d K'/\Sm S' r rs/\Su.sm rs=He.tV N o/\Kp (·=d) S S'
 | 0,S,K,o,hf,_,_=>absurd hf (e_ _)
 | f+1,S,K,o,hf,po,hK=>by
  have lo:=nG po;show ∃(r:Nat) (S':jM) (K' rs:Es),mz ng (m_<|mS f) [.tup<|o.map .int,.ref d] S=.ok (.ref r) S'/\_;have i1:SA true (.tup<|o.map .int) (.ref d) S=.ok (.bl<|!(mG (K.map Su.kv) o).isSome) S:=by rw[WM,hK.dd,kL]
  unfold m_ ng
  cases hL:Su.fE K o with
  | some e=>
   obtain⟨m1,rfl⟩:=Su.vI hL;obtain⟨rs,r1,r2⟩:=hK.at_ e m1;have lk:mG (K.map Su.kv) e.1=some (.ref e.2.1):=by rw[Su.vX,hL];rfl
   have x1:xU (.ref d) (.tup<|e.1.map .int) S=.ok (.ref e.2.1) S:=by rw[Su.wj,hK.dd,kL,lk,kL]
   rw[lk]at i1;refine⟨e.2.1,S,K,rs,?_,hK,r1,r2,Kp.refl⟩;dsimp[kh,wU,bools,mP,Nat.reduceAdd,Nat.reduceSub,i1,isSome_some,cV,x1]
  | none=>
   have lk:mG (K.map Su.kv) o=none:=by rw[Su.vX,hL];rfl
   rw[lk]at i1;obtain⟨W,S1,e1,l1,_,k1⟩:=aaS (S:=S) po () (He.oY po).ou<|He.QM o;have tr:=F5 l1
   cases hw:(He.fwd o).getLast? with
   | none=>
    have fe:=List.getLast?_eq_none_iff.mp hw;rw[fe]at tr;obtain⟨S2,h2⟩:∃S2,S2=S1++[O.lst [.tup [.int 0,.int 1]]]++[O.lst [.tup [.tup<|o.map .int,.ref S1.length]]]:=⟨_,rfl⟩;have k2:lA S1 S2:=by rw[h2];exact Kp.refl.lay.lay
    have s2:Sm S2 (S1.length+1) [(o,S1.length,[((0:Int),(1:Int))])]:=by
     have:=jX (S:=S1++[O.lst [.tup [.int 0,.int 1]]]) (xs:=[.tup [.tup<|o.map .int,.ref S1.length]]);rw[aS,c7]at this;rw[h2];exact⟨this,λe he=>by rw[aP.mp he];exact j8 jX⟩
    have et:Su.sm [(o,S1.length,[((0:Int),(1:Int))])]=He.tV N o:=(He.Xl po hw).symm;obtain⟨T',K',x2,n2,x3,s3,kp⟩:=(hK.yz<|k1.trans k2).put hN po s2 et;refine⟨S1.length+1,T',K',_,?_,n2,s3,et,(k1.trans k2).of0.trans kp⟩;dsimp[kh,wU,bools,mP,Nat.reduceAdd,Nat.reduceSub,i1,isSome_none,eU,e1,tr,gR,jq,cV,m7<|show 2<=sizeLine by decide,aS,c7,bz,cg];rw[<- h2];dsimp[kh,wU,bools,Su.Ax,x2,x3]
   | some k=>
    obtain⟨f1,f2,f3⟩:=He.Ce po hw;have ne:((wd<|He.fwd o).isEmpty)=false:=by
     cases hx:He.fwd o with
     | nil=>rw[hx]at hw;cases hw
     | cons=>rfl
    rw[ne]at tr;have a1:=U4 hw;have hd:=Fw.qz f1 (show k<o.length by lia) (by have:=bO f3;lia);obtain⟨S2,x2,k2⟩:=E3 (S:=S1) (xs:=o) (k:=k) f1 () ();have k12:=k1.trans k2;have pe:=He.mX po f1 f2;obtain⟨r3,S3,K3,rs3,x3,n3,s3,q3,k3⟩:=L_ hN h0 f () pe<|hK.yz k12;have z3:Sz N 25 (5 ^ 25) (Su.sm rs3):=by rw[q3];exact He.P6 hN pe
    have B5:5 ^ 25<big:=by rw[sC];exact show 5 ^ 25<2 ^ 4096 by decide +kernel
    have m3:=z3.many hN;rw[Su.pK]at m3;obtain⟨L4,S4,rs4,x4,s4,q4,_,_,_,_,k4⟩:=T_ (j:=2 * (2 * 25+1)) s3 (k:=k) (N:=N) (λe he=>by
     have b:=z3.pb<|mC rfl he;exact⟨nG<|z3.pm _<|mC rfl he,by have:=b.2;show 2 * e.2.2.length<=_;exact Nat.mul_le_mul_left _ this,λp hp=>cK (b.1.c p hp) B5⟩) f1 f2 () () ()
    have z4:Sz N 26 (3 * 5 ^ 25) (Su.sm rs4):=by rw[q4];exact z3.bx f1 f2
    have k5:lA S4 (S4++[O.lst<|He.LB.map kA]):=Kp.refl.lay;obtain⟨L5,S5,rs5,x5,s5,q5,_,k6⟩:=Tv kA (λ_ _ _=>rfl) (S:=S4++[O.lst<|He.LB.map kA]) (m:=S4.length) (q:=He.LB) (Q:=1) (c:=1) hN h0 ((s3.kp k4).kp k5) z3 jX ⟨λq hq=>by
     rcases bu.mp hq with z|z
     ·rw[z];decide
     ·rw[aP.mp z];decide,λq hq=>by
     rcases bu.mp hq with z|z
     ·rw[z];decide
     ·rw[aP.mp z];decide⟩ (aO 2) ⋯ B5 (by rw[sC];exact show 1<2 ^ 4096 by decide +kernel)
    have z5:Sz N 26 (2 * (1 * 5 ^ 25)) (Su.sm rs5):=by
     rw[q5];exact(z3.P9 (Q:=1) (c:=1) (p:=He.LB) ⟨λq hq=>by
      rcases bu.mp hq with z|z
      ·rw[z];decide
      ·rw[aP.mp z];decide,λq hq=>by
      rcases bu.mp hq with z|z
      ·rw[z];decide
      ·rw[aP.mp z];decide⟩)
    obtain⟨L6,S6,rs6,x6,s6,q6,_,_,k7⟩:=XY hN h0 (s4.kp<|k5.trans k6) s5 z4 z5 ⋯;have q6':Su.sm rs6=He.tV N o:=by rw[q6,q4,q5,q3];exact(He.Tc po hw).symm
    obtain⟨T',K',x7,n7,x8,s8,kp⟩:=(n3.yz<|(k4.trans<|k5.trans k6).trans k7).put hN po s6 q6';refine⟨L6,T',K',rs6,?_,n7,s8,q6',((k12.of0.trans k3).trans ((k4.trans<|k5.trans k6).trans k7).of0).trans kp⟩;have l3:jK S2 W=some (wd<|He.fwd o):=k2.lst _ _ (λz=>z) l1;have l4:jK S3 W=some (wd<|He.fwd o):=k3.lst _ _ (λz=>Su.qD (hK.yz k12).dd l3 z.symm) l3;dsimp[kh,wU,bools,mP,Nat.reduceAdd,Nat.reduceSub,i1,isSome_none,eU,e1,tr,l1,a1,x2,x3,l4,x4];rw[show[((-1:Int),(-1:Int)),((1:Int),(1:Int))].map kA=He.LB.map kA from rfl];dsimp[kh,wU,bools,x5,x6,Su.Ax,x7,x8]
end K31
namespace K31
open PySem L2 Am
open Po (Pl Ok Bd)
open Su (Es At Vl AF)
open He (Sz PB)
open Fw (rg)
def Io{S:jM}{N c:Nat}{fs:Es}(hN:N<6)(h0:1<=N)(h':Sm S m fs)(hz':Sz N Q c<|Su.sm fs)(hP:Q<=500)(hc:c<big) :
  ∃(L:Nat) (S':jM) (rs:Es),pL [.ref m] S=.ok (.ref L) S'/\Sm S' L rs/\Su.sm rs=He.tu N He.vw (Su.sm fs)/\Nw S.length L rs/\S.length<=L/\lA S S':=by
 have B5:5 ^ 25<big:=by rw[sC];exact show 5 ^ 25<2 ^ 4096 by decide +kernel
 obtain⟨S1,hS1⟩:∃S1,S1=S++[O.dct []]++[O.dct []]:=⟨_,rfl⟩;have k0:lA S S1:=by rw[hS1];exact Kp.refl.lay.lay
 have d0:ko S1 S.length=some []:=by rw[hS1];exact Su.xX Su.pG
 have d1:ko S1 (S.length+1)=some []:=by
  have:=Su.pG (S:=S++[O.dct []]) (xs:=[]);rw[aS,c7]at this;rw[hS1];exact this
 obtain⟨j,hj⟩:∃j,j=2 * (25+Q)+1:=⟨_,rfl⟩;have lf:=hz'.many hN;rw[Su.pK]at lf;have hle:(fs.map Su.ent).length=fs.length:=aG ..;have key:∃(y4 y5 y6 y7:A) (D:Es) (T:jM) (i:Nat),kX r8 (xD 2<|oR (kD 3)<|oR (kD 4) xB) rX [.ref m,.ref S.length,.ref<|S.length+1,.unb,.unb,.unb,.unb] S1=.nx [.ref m,.ref S.length,.ref<|S.length+1,y4,y5,y6,y7] T/\i<=120 * fs.length/\Su.Fil T S.length S.length i j (Su.adds []<|He.Sk N He.vw<|Su.sm fs) D/\lA S T:=by
  refine p5 (n:=m) (xs:=fs.map Su.ent) (S1:=S1) (show r8 _ _=_ from mD (by dsimp[kh,bools])<|k0.lst _ _ (λz=>z) h'.l)
   (λt τ T=>(∃y4 y5 y6 y7:A,τ=[.ref m,.ref S.length,.ref<|S.length+1,y4,y5,y6,y7])/\(∃(i:Nat) (D:Es),i<=120 * t/\Su.Fil T S.length S.length i j (Su.adds []<|He.Sk N He.vw<|Su.sm<|fs.take t) D)/\(∃K,Kn N (He.tV N) T (S.length+1) K)/\lA S T)
   (λr=>∃(y4 y5 y6 y7:A) (D:Es) (T:jM) (i:Nat),r=.nx [.ref m,.ref S.length,.ref<|S.length+1,y4,y5,y6,y7] T/\i<=120 * fs.length/\Su.Fil T S.length S.length i j (Su.adds []<|He.Sk N He.vw<|Su.sm fs) D/\lA S T)
   ⟨⟨_,_,_,_,rfl⟩,⟨0,[],aO _,Su.Fil.new d0⟩,⟨[],d1,Su.Gd.nil,(nofun),nofun⟩,k0⟩ (λt τ T hh=>hh.2.2.2.lst _ _ (λz=>z) h'.l) ?_ ?_
  ·rintro t z τ T hz1 ⟨⟨y4,y5,y6,y7,rfl⟩,⟨i,D,hi,fT⟩,⟨K,hK⟩,kT⟩;rw[aV]at hz1;obtain⟨e,he,rfl⟩:=aY.mp hz1;have htl:=(aK.mp he).1;have me:=aW he;have pe:=hz'.pm _<|mC rfl me;have be:=hz'.pb<|mC rfl me;refine⟨[.ref m,.ref S.length,.ref<|S.length+1,.tup<|e.1.map .int,.ref e.2.1,y6,y7],T,rfl,.inl ?_⟩;obtain⟨r,T1,K1,rs,x1,n1,s1,q1,k1⟩:=L_ hN h0 26 (by have:=He.HW hN pe;lia) pe hK;have z1:Sz N 25 (5 ^ 25) (Su.sm rs):=by rw[q1];exact He.P6 hN pe
   have m1:=z1.many hN;rw[Su.pK]at m1;have f1:Su.Fil T1 S.length S.length i j (Su.adds []<|He.Sk N He.vw<|Su.sm<|fs.take t) D:=⟨k1.dct _ _ () fT.dd,fT.aa.Hv k1 hK.dd,fT.ss,fT.vv,fT.kk,fT.ll,fT.pw⟩;have p1:jK T1 e.2.1=some (Po.pl e.2.2):=k1.lst _ _ (λz=>Su.qD hK.dd ((h'.kp kT).a e me) z.symm)<|(h'.kp kT).a e me;have tl:=kT.len;have tl1:=k1.len;have len2:S.length+2<=T.length:=by have:=Su.DO hK.dd;lia
   have le:e.2.2.length<=2 * Q+1:=be.2;obtain⟨z6,z7,_,D2,T2,_,x2,f2,k2⟩:=Su.xZ (w:=1) (j:=j) (b:=S.length) (i0:=i) (S:=T) (S1:=T1) (d:=S.length) (n:=r) (es:=rs) (src:=vL) (c:=vq) (g:=xD 2<|oR (kD 5)<|oR (kD 6) xB) (λy z _=>[.ref m,.ref S.length,.ref<|S.length+1,.tup<|e.1.map .int,.ref e.2.1,y,z]) (λ_=>True) (λx Q=>Su.Ac Q x.1<|Po.times (Po.turn e.2.2) x.2.2) (λ_ _ _ _ _=>rfl) (x3:=y6) (x4:=y7) (xs0:=[]) trivial
    (show vL _ _=_ from mD (by
     have x1':rB [.tup<|e.1.map .int,.ref<|S.length+1] T=.ok (.ref r) T1:=x1;dsimp[kh,wU,bools,x1']) s1.l) s1.l f1 λa x U Q1 D' xs ha hx _ kU f=>by
     have ul:=kU.len;have b1:=z1.pb<|mC rfl hx;have l1':x.2.2.length<=2 * 25+1:=b1.2;rw[fy]at f;rw[fy];have hm1:(i+a) * j<=14400 * j:=b7 _ ();have tn:=Mn (S:=U) (kU.lst _ _ (λz=>Su.qD f1.dd p1 z.symm) p1) (show e.2.2.length<=16777216 by lia);have kV:lA U (U++[O.lst<|Po.pl<|Po.turn e.2.2]):=Kp.refl.lay;obtain⟨L,U1,e1,l1,l2,k1'⟩:=H_ (n:=U.length) (a:=Po.turn e.2.2) jX (kV.lst _ _ (λz=>z)<|(s1.a.Hv kU f1.dd) x hx) (by
      rw[He.Gu];have a3:(2 * Q+1) * (2 * 25+1)<=1001 * 51:=dG () ();exact cK (bB (dG le l1') a3) ⋯) (λp hp=>cK (be.1.turn.c p hp) hc) λp hp=>cK (b1.1.c p hp) B5
     have k1l:=k1'.len;have kVl:=kV.len;have tl':(Po.times (Po.turn e.2.2) x.2.2).length<=j:=by
      have:=He.PB.times be.1.turn b1.1;rw[hj];refine bB this ?_
      lia
     obtain⟨D3,U2,e2,f',k'⟩:=((f.yz kV).yz k1').add u9 (o:=x.1) l1 tl' (λz=>by
      have:=nG<|z1.pm _<|mC rfl hx;rw[show((x.1,x.2.2):ag×Pl).1=x.1 from rfl,z]at this;simp at this;lia) () () ()
     exact⟨D3,U2,[],trivial,by unfold vq;dsimp[kh,wU,bools,tn,e1,e2],f',(kV.trans k1').of0.trans k'⟩
   have kT2:lA S T2:=(kT.old k1 λq hq _ z=>()).old k2 λq hq _ z=>()
   refine⟨[.ref m,.ref S.length,.ref<|S.length+1,.tup<|e.1.map .int,.ref e.2.1,z6,z7],T2,?_,⟨_,_,_,_,rfl⟩,⟨i+1 * rs.length,D2,(),?_⟩,⟨K1,n1.Hv k2 f1.dd ()⟩,kT2⟩
   ·unfold rX;exact x2
   ·rw[Su.DA]at f2;rw[dB,he,Su.Em];unfold He.Sk at f2 ⊢;rw[iR,Su.GG];have:List.flatMap (λe=>He.Hw (Po.turn e.2)<|He.tO N<|He.vw e.1) (Su.sm (some e).toList)=(Su.sm rs).map λx=>(x.1,Po.times (Po.turn e.2.2) x.2):=by
     show He.Hw (Po.turn e.2.2) (He.tO N<|He.vw e.1)++[]=_;rw[cG,q1];rfl
    rw[this];exact f2
  ·rintro τ T ⟨⟨y4,y5,y6,y7,rfl⟩,⟨i,D,hi,fT⟩,⟨K,hK⟩,kT⟩;rw[hle]at hi;rw[hle,c6]at fT;exact⟨y4,y5,y6,y7,D,T,i,rfl,hi,fT,kT⟩
 obtain⟨y4,y5,y6,y7,D,T,i,e1,hi,f,kT⟩:=key;have fl:=f.ll;obtain⟨L,S',e2,r1,r2,r3,r4⟩:=E1 f.dd f.aa f.kk ();have tl:=kT.len;refine⟨L,S',_,?_,⟨r1,r2⟩,by rw[Su.wA,f.ss];rfl,⟨f.pw.out _,λe he=>?_⟩,(),kT.trans r4⟩
 ·unfold pL zB zI;dsimp[kh,wU,bools,mP,Nat.reduceAdd,Nat.reduceSub,Su.tZ,aS,c7];rw[<- hS1,show kX r8 _ rX _ _=_ from e1];dsimp[kh,wU,bools,e2]
 ·obtain⟨m1,m2⟩:=Su.wH he;obtain⟨v1,v2,v3⟩:=f.vv e m1;have lt:=oG<|f.aa e m1;exact⟨v3,()⟩
def Sn.tu{N c:Nat}{k:Su.Ps}(h:Sn N Q c S m k)(hN:N<6)(h0:1<=N)(hP:Q<=500)(hc:c<big) :
  ∃(L:Nat) (S':jM),pL [.ref m] S=.ok (.ref L) S'/\Sn N (25+Q) (120 * ((2 * Q+1) * (c * 5 ^ 25))) S' L (He.tu N He.vw k)/\lA S S':=by
 obtain⟨a,fs,b,rfl⟩:=h;obtain⟨L,S',rs,e1,s1,q1,_,_,k1⟩:=Io hN h0 b a hP hc;exact⟨L,S',e1,⟨a.tu hN,rs,s1,q1⟩,k1⟩
end K31
namespace K31
open PySem L2 Am
theorem Cu:∀(l:ag) (j:Nat) (h:j<l.length),(l[j]::l.eraseIdx j).Perm l
 | x::l,0,_=>eV _
 | x::l,j+1,h=>(List.Perm.swap x _ _).trans<|List.Perm.cons x<|Cu l j<|ig h
def Ma{ls fs:ag}{j:Nat}(h:j<ls.length):((fs++[ls[j]])++ls.eraseIdx j).Perm (fs++ls):=by
 rw[ck];refine List.Perm.append_left fs ?_
 skip
 exact Cu ls j h
def P4{d:Int}{n:Nat}(h0:0<=d)(h:d.toNat<n):seqIndex? d n=some d.toNat:=by
 unfold seqIndex?;simp
 lia
theorem yT{α β:Type}(f:α->β):∀(l:List α) (k:Nat),(l.map f).eraseIdx k=(l.eraseIdx k).map f
 | [],_=>rfl
 | _::_,0=>rfl
 | x::l,k+1=>dO (f x::·)<|yT f l k
def OC{n:Int}(h:Fl S b)(h1:1<=n)(h2:n<=20):∃(xs:ag) (S':jM),qc [.ref b,.int n] S=.ok (.tup<|xs.map .int) S'/\xs.Perm (kK 1<|n+1)/\Fl S' b/\Kp (·=b) S S':=by
 have hbS:b<S.length:=by obtain⟨_,_,e,_⟩:=h;exact oG e
 unfold qc vn ve;dsimp[kh,bools,mP,Nat.reduceAdd,Nat.reduceSub,Nj<|Gf (show(-1000000:Int)<=1 by decide) ⋯ (show -1000000<=n+1 by lia) () (),aS];have key:=vf (t:=sM) (c:=sN)
  (λτ S1=>∃(ls fs:ag),τ=[.ref b,.int n,.ref S.length,.ref<|S.length+1]/\jK S1 S.length=some (ls.map .int)/\jK S1 (S.length+1)=some (fs.map .int)/\(fs++ls).Perm (kK 1<|n+1)/\Fl S1 b/\Kp (·=b) S S1)
  (λτ S1=>((jK S1 S.length).getD []).length)
  (λr=>∃(xs:ag) (S':jM),RS.end (RS.seq r<|lN<|j9 (f1 ux)<|jH (jI 3) jR)=.ok (.tup<|xs.map .int) S'/\xs.Perm (kK 1<|n+1)/\Fl S' b/\Kp (·=b) S S') ?_ 1000000
 ·refine key _ _ ⟨kK 1<|n+1,[],rfl,j8 jX,?_,eV _,h.kp (c:=λ_=>False) (Kp.refl.lay.lay) λz=>z,Kp.refl.lay.lay⟩ ?_
  ·have:jK (S++[.lst<|(kK 1<|n+1).map .int]++[.lst []]) (S++[O.lst<|(kK 1<|n+1).map .int]).length=some []:=jX;simpa using this
  ·rw[j8 jX,dX,aG,oZ]
   lia
 ·rintro τ S1 ⟨ls,fs,rfl,hL,hF,hp,hb,hk⟩;have hlen:fs.length+ls.length<=20:=by
   have:=hp.length_eq;rw[aS,oZ]at this
   lia
  unfold sM sN;dsimp[kh,bools,hL,aG];by_cases h0:ls=[]
  ·subst h0;left;exact⟨S1,rfl,fs,S1,by dsimp[kh,bools,hF],by simpa using hp,hb,hk⟩
  ·right;have hpos:0<ls.length:=List.length_pos_iff.mpr h0;refine⟨S1,by rw[bg<|show(0:Int)<(ls.length:Int)by lia],.inl ?_⟩;obtain⟨d,S2,e2,d0,d1,hb2,hk2⟩:=digit (m:=(ls.length:Int)) hb () ();have hL2:=hk2.lst S.length _ () hL;have hF2:=hk2.lst (S.length+1) _ () hF;have hd:d.toNat<ls.length:=()
   have lF:=oG hF2;have lL:=oG hL2;have hsq:seqIndex? d ls.length=some d.toNat:=P4 d0 hd;have hF3:jK (S2.set S.length<|.lst<|(ls.map A.int).eraseIdx d.toNat) (S.length+1)=some (fs.map .int):=by rw[ow ()];exact hF2
   dsimp[kh,bools,hL,hF,aG,e2,hL2,HQ,m7<|show -(2 ^ 63:Int)<=d/\d<2 ^ 63 by lia,hsq,aV,aF hd,dh,hF3,BP<|show fs.length<16777216 by lia];refine⟨_,_,rfl,⟨ls.eraseIdx d.toNat,fs++[ls[d.toNat]],rfl,?_,?_,(Ma hd).trans hp,?_,?_⟩,?_⟩
   ·rw[ow (),pW lL,yT]
   ·rw[pW<|by rw[bZ];exact lF,bN];rfl
   ·obtain⟨g,st,e,q⟩:=hb2;exact⟨g,st,by rw[ow (),ow ()];exact e,q⟩
   ·exact((hk.trans hk2).set<|.inr<|aO _).set (.inr ())
   ·rw[ow (),pW lL,dX,dX,yT,aG,aG,List.length_eraseIdx_of_lt hd];lia
open Po (Pl Ok Bd)
open Su (Es At Vl AF)
open He (Sz PB)
open Fw (rg)
def QH{S:jM}{N:Nat}{o:ag}(hl:o.length=N)(h2:N<=20):kJ [none,some 1] (sj (eC<|.int 1)<|j9 (f1 qP)<|jH (jI 1)<|jR) (kD 0) (uW<|jT Mu (jT p_ (jI 1)<|jT aSub (jI 0)<|eC<|.int 1)<|jT p_ (jI 1)<|jI 0) (jI 0) [x0,.tup<|o.map .int,x2,x3,x4] S=.ok (.ref S.length) (S++[.lst<|(fl o N).map .int]):=by
 have ec:=yC (lo:=1) (hi:=(N:Int)) (cap:=[some 1]) (src:=sj (eC<|.int 1)<|j9 (f1 qP)<|jH (jI 1)<|jR) (t:=uW<|jT Mu (jT p_ (jI 1)<|jT aSub (jI 0)<|eC<|.int 1)<|jT p_ (jI 1)<|jI 0) (e:=jI 0) (τ:=[x0,.tup<|o.map .int,x2,x3,x4]) (S:=S) (S1:=S)
  (yJ (S1:=S) (by dsimp[kh,bools]) (by dsimp[kh,bools,aG,hl]) (pQ () ())<|pQ () ())
  (λk=>decide<|o.getD (k-1).toNat 0>o.getD k.toNat 0) (λk=>.int k) (λk h1 h2=>by
   have x1:rW (o.map A.int) (k-1)=some (.int<|o.getD (k-1).toNat 0):=ixG () ();have x2:rW (o.map A.int) k=some (.int<|o.getD k.toNat 0):=ixG () ();dsimp[kh,bools,x1,x2]) (λk _ _ _=>by dsimp[kh,bools]) ()
 rw[ec];rfl
def aa1{o:ag}{N i:Nat}(lo:o.length=N)(hx:i<(fl o N).length):∃k:Nat,(fl o N)[i]?=some (k:Int)/\1<=k/\k<N/\Su.oW o k=true:=by
 have hm:=eL hx;have e:=aF hx;generalize(fl o N)[i]=v at hm e;have hm':=hm;unfold fl at hm';obtain⟨z1,_⟩:=b_.mp hm';have z1:=nU.mp z1;obtain⟨k,rfl⟩:∃k:Nat,v=(k:Int):=⟨v.toNat,()⟩;refine⟨k,e,(),(),?_⟩;rw[<- DQ lo (k:=k) () ()];exact bg hm
def Yk{S:jM}{N:Nat}{o:ag}(h:Fl S b)(po:o.Perm<|rg N)(hN:N<=20) :
  ∃(w:am) (m:Nat) (S':jM),qZ [.ref b,.tup<|o.map .int] S=.ok (.ref m) S'/\jK S' m=some (wd w)/\Wd.j6 (rg N) w/\Wd.led (rg N) w=o/\S.length<=m/\Fl S' b/\Kp (·=b) S S':=by
 have hb:=h.lt;have lo:=nG po;mg_lt;have f0:=QH (S:=S++[O.lst []]) (x0:=.ref b) (x2:=.ref S.length) (x3:=.unb) (x4:=.unb) lo hN;have k0:lA S (S++[O.lst []]++[O.lst<|(fl o N).map .int]):=Kp.refl.lay.lay;unfold qZ xh wZ;dsimp[kh,bools,mP,Nat.reduceAdd,Nat.reduceSub,n0];rw[f0];dsimp[kh,bools];refine vf (λτ T=>∃(o':ag) (w:am) (m s:Nat) (a4:A),τ=[.ref b,.tup<|o'.map .int,.ref m,.ref s,a4]/\o'.Perm (rg N)/\jK T m=some (wd w)/\jK T s=some ((fl o' N).map .int)/\Wd.j6 o' w/\Wd.led o' w=o/\S.length<=m/\S.length<=s/\w.length+Iv.inv o'<=400/\Fl T b/\Kp (·=b) S T)
  (λτ _=>match τ with | [_,.tup xs,_,_,_]=>Iv.inv (xs.map λx=>match x with | .int i=>i|_=>0)|_=>0)
  (λr=>∃(w:am) (m:Nat) (S':jM),RS.end (RS.seq r _)=.ok (.ref m) S'/\jK S' m=some (wd w)/\Wd.j6 (rg N) w/\Wd.led (rg N) w=o/\S.length<=m/\Fl S' b/\Kp (·=b) S S') ?_ 1000000 _ _
  ⟨o,[],S.length,_,.unb,rfl,po,j8 jX,jX,trivial,rfl,aO _,by rw[aS];lia,by have:=Iv.BH o;rw[lo]at this;have:N * N<=20 * 20:=dG hN hN;show 0+_<=_;lia,h.kp k0 λz=>z,k0.of0⟩ ?_
 ·rintro τ T ⟨o',w,m,s,a4,rfl,po',hm,hs,hr,hl,lm,ls,hw,bT,kT⟩;have lo':=nG po';have eo:∀xs:ag,(xs.map A.int).map (λx=>match x with | .int i=>i|_=>0)=xs:=λxs=>by rw[bD];exact jw xs
  have nl:newL [] T=.ok (.ref T.length) (T++[.lst []]):=kM (show 0<=16777216 by decide);have q1:wM true (.ref s) (.ref T.length) (T++[.lst []])=.ok (.bl<|!((fl o' N).map A.int).isEmpty) (T++[.lst []]):=B8<|eq_nil (j8 hs) jX;have kE:lA T (T++[O.lst []]):=Kp.refl.lay;obtain⟨U,hU⟩:∃U,U=T++[O.lst []]:=⟨_,rfl⟩;rw[<- hU]at nl q1 kE
  cases hf:fl o' N with
  | nil=>
   left;rw[hf]at q1;refine⟨U,by unfold uw;dsimp[kh,bools,nl,q1];rfl,?_⟩;have e:o'=rg N:=Fw.GW po' λk hk=>by
    have:(k:Int)∈fl o' N:=by
     have z:=DQ lo' hk.1 (show k<N by have:=hk.2.1;lia);rw[show Su.oW o' k=true from bg hk.2.2]at z;exact bO z
    rw[hf]at this
    cases this
   rw[e]at hr hl;exact⟨w,m,U,by dsimp[kh,bools],kE.lst _ _ (λz=>z) hm,hr,hl,lm,bT.kp kE λz=>z,kT.trans kE.of0⟩
  | cons x xs=>
   right;rw[hf]at q1;refine⟨U,by unfold uw;dsimp[kh,bools,nl,q1];rfl,.inl ?_⟩;have hsU:jK U s=some ((fl o' N).map .int):=kE.lst _ _ (λz=>z) hs;have lp:1<=(fl o' N).length:=by rw[hf];exact Nat.le_add_left _ _
   have lf:(fl o' N).length<=N:=by
    unfold fl;refine bB (cN _ _) ?_;rw[oZ];lia
   obtain⟨d,T1,e1,d0,d1,b1,k1⟩:=digit (S:=U) (m:=((fl o' N).length:Int)) (bT.kp kE λz=>z) () ();have hx:d.toNat<(fl o' N).length:=()
   obtain⟨k,hk,k0',k1',kf⟩:∃k:Nat,(fl o' N)[d.toNat]?=some (k:Int)/\1<=k/\k<N/\Su.oW o' k=true:=aa1 lo' hx;have sT1:jK T1 s=some ((fl o' N).map .int):=k1.lst _ _ () hsU;have mT1:jK T1 m=some (wd w):=k1.lst _ _ ()<|kE.lst _ _ (λz=>z) hm;have a1:rW ((fl o' N).map A.int) d=some (.int k):=EB (k:=d.toNat) () hk;have n1:newL [.int k] T1=.ok (.ref T1.length) (T1++[.lst [.int k]]):=kM (show 1<=16777216 by decide);have ca:=Qk (S:=T1++[O.lst [.int k]]) (jX (xs:=[.int k])) (j8 mT1) (by rw[aG];show 1+_<=_;lia);obtain⟨T2,hT2⟩:∃T2,T2=T1++[O.lst [.int k]]++[O.lst<|[.int k]++wd w]:=⟨_,rfl⟩;rw[<- hT2]at ca;have k2:lA T1 T2:=by rw[hT2];exact Kp.refl.lay.lay
   have x1:rW (o'.map A.int) (k:Int)=some (.int<|o'.getD k 0):=Vb rfl ();have x2:rW (o'.map A.int) ((k:Int)-1)=some (.int<|o'.getD (k-1) 0):=Vb (k:=k-1) () ();have s1:Ni (.tup<|o'.map .int) none (some<|(k:Int)-1) T2=.ok (.tup<|(o'.take<|k-1).map .int) T2:=by
    rw[show(k:Int)-1=((k-1:Nat):Int)by lia];exact slT ()
   have s2:Ni (.tup<|o'.map .int) (some<|(k:Int)+1) none T2=.ok (.tup<|(o'.drop<|k+1).map .int) T2:=by
    rw[show(k:Int)+1=((k+1:Nat):Int)by lia];exact slD () ()
   have c1:lK (.tup<|(o'.take<|k-1).map .int) (.tup [.int<|o'.getD k 0,.int<|o'.getD (k-1) 0]) T2=.ok (.tup<|(o'.take (k-1)++[o'.getD k 0,o'.getD (k-1) 0]).map .int) T2:=
    Bq (ys:=[o'.getD k 0,o'.getD (k-1) 0]) (by rw[bI];show _+2<=_;lia)
   have c2:lK (.tup<|(o'.take (k-1)++[o'.getD k 0,o'.getD (k-1) 0]).map .int) (.tup<|(o'.drop<|k+1).map .int) T2=.ok (.tup<|(Wd.ex o' k).map .int) T2:=by
    rw[Bq<|by rw[aS,bI,cT];show _+2+_<=_;lia,Ow k0' ()]
   have pe:=He.mX po' k0' k1';have fe:=QH (S:=T2) (x0:=.ref b) (x2:=.ref (T1++[O.lst [.int k]]).length) (x3:=.ref s) (x4:=.int k) (nG pe) hN;have dn:=Fw.qz k0' (show k<o'.length by lia) (by have:=bO kf;lia);have g2:∀x y:A,gd (([x,y]:ae).length<=sizeLine)=λr:Am.R A=>r:=λx y=>by funext r;exact nI (show 2<=16777216 by decide)
   have k3:lA T2 (T2++[O.lst<|(fl (Wd.ex o' k) N).map .int]):=Kp.refl.lay;have kk:=(kE.of0.trans k1).trans (k2.trans k3).of0;have tl1:=k1.len;have tlE:=kE.len;have tl2:=k2.len;have tlT:=kT.len;unfold xO;dsimp[kh,bools,hsU,aG,e1,sT1,a1,n1,mT1,ca,s1,x1,x2,g2,c1,s2,c2];rw[fe];dsimp[kh];refine⟨_,_,rfl,⟨Wd.ex o' k,k::w,_,_,_,rfl,pe,k3.lst _ _ (λz=>z) ?_,jX,?_,?_,?_,(),?_,((b1.kp k2 λz=>z).kp k3 λz=>z),kT.trans kk⟩,?_⟩
   ·rw[hT2];exact jX
   ·exact⟨k0',by rw[Wd.lI];lia,by
     obtain⟨z1,z2⟩:=Su.FE k0' (show k<o'.length by lia);rw[z1,z2];have:=bO kf
     lia,by rw[Fw.sq k0' ()];exact hr⟩
   ·show Wd.led (Wd.ex (Wd.ex o' k) k) w=o;rw[Fw.sq k0' ()];exact hl
   ·rw[aS];lia
   ·rw[bz];lia
   ·show Iv.inv (((Wd.ex o' k).map A.int).map _)<Iv.inv ((o'.map A.int).map _);rw[eo,eo];lia
 ·show Iv.inv ((o.map A.int).map _)<_;rw[show(o.map A.int).map (λx=>match x with | .int i=>i|_=>0)=o by rw[bD];exact jw o];have:=Iv.BH o;rw[lo]at this;have:N * N<=20 * 20:=dG hN hN
  lia
end K31
namespace K31
open PySem L2 Am
open Po (Pl Ok Bd)
open Su (Es At Vl AF)
open He (Sz PB)
open Fw (rg)
def GQ{S:jM}{N P c n:Nat}{q:Pl}(hN:N<6)(h:Sm S n es)(hz:Sz N P C<|Su.sm es)(hq:jK S m=some (Po.pl q))(pq:PB Q c q)(lq:q.length<=2 * Q+1)(hP:P+Q<=1000)(hC:C<big)(hc:c<big) :
  ∃(L:Nat) (S':jM) (rs:Es),kQ [.ref m,.ref n] S=.ok (.ref L) S'/\Sm S' L rs/\Su.sm rs=He.Hw q (Su.sm es)/\S.length<=L/\lA S S':=by
 have m1:=hz.many hN;rw[Su.pK]at m1;obtain⟨L,S',fs,e,h1,h2,h3,h4,h5,h6⟩:=Su.OZ (es:=es) (n:=n) (cap:=[some 0]) (src:=mH<|jI 1) (ex:=mW<|jH (jI 0)<|jH (eFn kP<|jH (jI 2)<|jH (jI 1)<|jR)<|jR) (τ:=[.ref m,.ref n]) (mD (by dsimp[kh,bools]) h.l) h.l (λp=>Po.times q p)
  (λe he T kT=>by
   have b:=hz.pb<|mC rfl he;obtain⟨r,T',x1,l1,l2,k1⟩:=Dg (kT.lst _ _ (λz=>z) hq) ((h.a.yz kT) e he) (by
    have a2:=b.2;have a3:(2 * Q+1) * (2 * P+1)<=2001 * 2001:=dG () ();exact cK (bB (dG lq a2) a3) ⋯) (λp hp=>cK (pq.c p hp) hc) λp hp=>cK (b.1.c p hp) hC
   refine⟨r,T',?_,l1,l2,k1⟩;dsimp[kh,bools,x1];exact nI<|show 2<=16777216 by decide) ()
 refine⟨L,S',fs,?_,⟨h1,h2⟩,?_,h5,h6⟩
 ·unfold kQ pR pM;dsimp[kh,bools,mP,Nat.reduceAdd,Nat.reduceSub];rw[show kJ [none,none,some 0] _ _ _ _ _ _=_ from e];rfl
 ·rw[h3];unfold He.Hw Su.sm;rw[bD];rfl
def Qt{S:jM}{n:Nat}{es fs:Es}(h:Sm S n es)(h':Sm S m fs)(hj:∀e∈es++fs,e.2.2.length<=j/\e.1≠[])(hl:es.length+fs.length<=240)(jj:j<=10000) :
  ∃(L:Nat) (S':jM) (rs:Es),m8 [.ref n,.ref m] S=.ok (.ref L) S'/\Sm S' L rs/\Su.sm rs=Su.toS (Su.adds []<|Su.sm es++Su.sm fs)/\Nw S.length L rs/\S.length<=L/\lA S S':=by
 have hle:(es++fs).length=es.length+fs.length:=aS ..;have n1:jK (S++[.dct []]) n=some (es.map Su.ent):=j8 h.l;have n2:jK (S++[.dct []]) m=some (fs.map Su.ent):=j8 h'.l;have ad:=Qk n1 n2 (by rw[aG,aG];lia);rw[<- bN]at ad;have k0:lA S (S++[.dct []]++[.lst<|(es++fs).map Su.ent]):=Kp.refl.lay.lay;have hb:(0+(es++fs).length) * j+j<16777216:=by
  have:(0+(es++fs).length) * j<=240 * j:=b7 _ ()
  lia
 obtain⟨y3,y4,D,T,e1,f,kp⟩:=Su.LH y_ (j:=j) (b:=S.length) (i0:=0) (S:=S++[.dct []]) (S1:=S++[.dct []]++[.lst<|(es++fs).map Su.ent]) (d:=S.length) (x0:=.ref n) (x1:=.ref m) (x3:=.unb) (x4:=.unb) (xs:=[]) (src:=nk) (es:=es++fs)
  (show nk _ _=_ from mD (by dsimp[kh,bools,ad]) jX) jX ((h.a.app h'.a).yz k0) (Su.Fil.new<|Su.xX Su.pG) k0.len hj hb ()
 have kT:lA S T:=k0.old kp λq hq _ z=>()
 have fl:=f.ll;obtain⟨L,S',e2,r1,r2,r3,r4⟩:=LU f.dd f.aa f.kk ();have tl:=kT.len;refine⟨L,S',_,?_,⟨r1,r2⟩,by rw[Su.wA,f.ss,Su.Em],⟨f.pw.out _,λe he=>?_⟩,(),kT.trans r4⟩
 ·unfold m8 rf rJ;dsimp[kh,wU,bools,mP,Nat.reduceAdd,Nat.reduceSub,Su.tZ];rw[show kX nk _ t9 _ _=_ from e1];dsimp[kh,wU,bools,e2]
 ·obtain⟨m1,m2⟩:=Su.wH he;obtain⟨v1,v2,v3⟩:=f.vv e m1;have lt:=oG<|f.aa e m1;exact⟨v3,()⟩
end K31
namespace Kr
open Bl L2
theorem Gn(j:Int):∀{a b:ag},a.length=b.length->(∀(k:Nat) (x y:Int),a[k]?=some x->b[k]?=some y->x<=y)->cnt a j<=cnt b j
 | [],[],_,_=>gr _
 | x::a,y::b,hl,h=>by
  have h0:=h 0 x y rfl rfl;have ih:=Gn j (a:=a) (b:=b) (by simpa using hl) λk u v hu hv=>h (k+1) u v (by simpa using hu) (by simpa using hv);show(if j<=x then 1 else 0)+cnt a j<=(if j<=y then 1 else 0)+cnt b j
  (repeat' split)<;>lia
 | [],_::_,hl,_=>by simp at hl
 | _::_,[],hl,_=>by simp at hl
theorem Lf{j:Int}:∀{a:ag},(∀x∈a,j<=x)->cnt a j=a.length
 | [],_=>rfl
 | x::a,h=>by
  have:=Lf (a:=a) λy hy=>h y<|aN _ hy;show(if j<=x then 1 else 0)+cnt a j=_;rw[aL<|h x<|aM ..,this,bz];lia
theorem cnt_none{j:Int}:∀{a:ag},(∀x∈a,x<j)->cnt a j=0
 | [],_=>rfl
 | x::a,h=>by
  have h0:=h x<|aM ..;have:=cnt_none (a:=a) λy hy=>h y<|aN _ hy;show(if j<=x then 1 else 0)+cnt a j=_;rw[aJ (),this];rfl
def Ua{a b:ag}(pa:a.Pairwise (·<=·))(pb:b.Pairwise (·<=·))(hl:a.length=b.length):(∀(k:Nat) (x y:Int),a[k]?=some x->b[k]?=some y->x<=y) ↔ ∀j,cnt a j<=cnt b j:=by
 constructor
 ·intro h j;exact Gn j hl h
 ·intro h k x y hx hy
  rcases(by lia:y<x\/x<=y)with z|z
  ·exfalso;obtain⟨ka,ex⟩:=aK.mp hx;obtain⟨kb,ey⟩:=aK.mp hy;have c:=h x;have ea:cnt a x=cnt (a.take k) x+cnt (a.drop k) x:=by rw[<- cnt_append,eX]
   have eb:cnt b x=cnt (b.take<|k+1) x+cnt (b.drop<|k+1) x:=by rw[<- cnt_append,eX]
   have c1:cnt (a.drop k) x=(a.drop k).length:=Lf λw hw=>by
    obtain⟨m,hm,e⟩:=gp.mp hw;rw[List.getElem_drop]at e
    rcases Nat.eq_zero_or_pos m with q|q
    ·subst q;dsimp[add_zero]at e;lia
    ·have:=(cA.mp pa) k (k+m) ka (by rw[cT]at hm;lia) ()
     lia
   have c2:cnt (b.take<|k+1) x=0:=cnt_none λw hw=>by
    obtain⟨m,hm,e⟩:=gp.mp hw;rw[List.getElem_take]at e;rw[bI]at hm
    rcases Nat.lt_or_ge m k with q|q
    ·have:=(cA.mp pb) m k () kb q
     lia
    ·have:m=k:=()
     subst this;lia
   have c3:=YJ (b.drop<|k+1) x;have c4:=IP (a.take k) x;rw[cT]at c1 c3
   lia
  ·exact z
abbrev two (n:Nat)(i j:Int):ag:=(kK 1<|(n:Int)+1).take (i-1).toNat++[j]++((kK 1<|(n:Int)+1).drop i.toNat).take (j-1-i).toNat++[i]++(kK 1<|(n:Int)+1).drop j.toNat
def jZ(n:Nat):(kK 1<|(n:Int)+1).length=n:=by rw[oZ];lia
def qL{n p:Nat}(h:p<n):(kK 1<|(n:Int)+1)[p]?=some ((p:Int)+1):=by
 unfold kK;rw[aV,dS ()];simp;lia
end Kr
namespace K31
open PySem L2 Am
open Bl
open Fw (rg)
open Eu (inj ext)
meta abbrev nP (w:ag):A:=.tup<|w.map .int
def Yg{S:jM}{n:Nat}{xs ys:ae}(h1:jK S n=some xs)(h2:jK S m=some ys)(h3:xs.length+ys.length<=16777216):E2 (.ref n) [.ref m] S=.ok .non (S.set n<|.lst<|xs++ys):=by
 show opt (jK S n) _=_;rw[h1];show opt (jK S m) _=_;rw[h2];exact XS h3
theorem Dh{f:A->A->bj}:∀{L:ae},(∀x∈L,f x x=some true)->oX f L L=some true
 | [],_=>rfl
 | x::L,h=>by
  show(f x x).bind (λp=>(oX f L L).map λq=>p && q)=_;rw[h x<|aM ..,Dh λy hy=>h y<|aN _ hy];rfl
def XH{a:Nat}{L:List<|ag}(h:jK S a=some (L.map nP))(h':jK S b=some (L.map nP)):qK S 12 (.ref a) (.ref b)=some true:=by
 show(jK S a).bind (λxs=>(jK S b).bind λys=>oX (qK S 11) xs ys)=_;rw[h,cE,h',cE];refine Dh λx hx=>?_;obtain⟨l,_,rfl⟩:=br.mp hx;show oX (qK S 10) (l.map .int) (l.map .int)=_;rw[ug,bg rfl]
def Wh{n k:Nat}(h:n<=6)(hk:k<=n):n ^ k<=46656:=bB (Nat.pow_le_pow_left h k)<|bB (dN ⋯ (show k<=6 by lia)) ⋯
theorem B7{n:Nat}(h:n<=6):∀(l:List<|ag),(l.flatMap<|ext n).length<=l.length * 6
 | []=>bP _
 | p::l=>by
  rw[gb,aS,bz,jb,fy];have:(ext n p).length<=n:=by
   unfold ext;rw[aG];exact bB (cN _ _)<|by rw[Wd.jZ];exact aO _
  have:=B7 h l
  lia
def XF{S:jM}{n:Nat}(h6:n<=6):∃(V:Nat) (S':jM),qS [.int n] S=.ok (.ref V) S'/\jK S' V=some ((inj n n).map nP)/\lA S S'/\S.length<=V:=by
 unfold qS zH yK;dsimp[kh,bools,mP,Nat.reduceAdd,Nat.reduceSub,m7<|show 0<=sizeLine from bP _];refine EZ (lo:=0) (hi:=(n:Int)) (S1:=S++[O.lst [.tup []]]) (show zM _ _=_ from Bo (by dsimp[kh,bools])<|pQ () ())
  (λi τ T=>∃(F:Nat) (a2 a3 a4:A),τ=[.int n,.ref F,a2,a3,a4]/\jK T F=some ((inj n i).map nP)/\lA S T/\S.length<=F)
  (λr=>∃(V:Nat) (S':jM),RS.end (RS.seq r _)=.ok (.ref V) S'/\jK S' V=some ((inj n n).map nP)/\lA S S'/\S.length<=V) ⟨S.length,_,_,_,rfl,jX,Kp.refl.lay,aO _⟩ ?_ ?_
 ·rintro i τ T hi ⟨F,a2,a3,a4,rfl,hF,kp,hSF⟩;left;have lF:=oG hF;have lT:=kp.len;have hin:i<n:=()
  have il:=Eu.Eo (n:=n) i;have pw:=Wh h6 (show i<=n by lia);unfold zR;dsimp[kh,bools];have hF1:jK (T++[O.lst []]) F=some ((inj n i).map nP):=j8 hF;obtain⟨b4,U,ef,hW,kU⟩:=p5 (n:=F) (xs:=(inj n i).map nP) (S1:=T++[O.lst []]) (g:=kD 4) (c:=vK) (τ:=[.int n,.ref F,.int<|0+(i:Int),.ref T.length,a4]) (S:=T++[O.lst []]) (show zL _ _=_ from mD (by dsimp[kh,bools]) hF1)
   (λj τ T'=>(∃b4,τ=[.int n,.ref F,.int<|0+(i:Int),.ref T.length,b4])/\jK T' F=some ((inj n i).map nP)/\jK T' T.length=some ((((inj n i).take j).flatMap<|ext n).map nP)/\lA S T')
   (λr=>∃(b4:A) (U:jM),r=.nx [.int n,.ref F,.int<|0+(i:Int),.ref T.length,b4] U/\jK U T.length=some ((inj n<|i+1).map nP)/\lA S U) ⟨⟨_,rfl⟩,hF1,jX,kp.lay⟩ (λj τ T' hh=>hh.2.1) (by
    rintro j z τ T' hz ⟨⟨b4,rfl⟩,hF',hW',kp'⟩;rw[aV]at hz;obtain⟨p,hp,rfl⟩:=aY.mp hz;have hpl:=(Eu.wc.mp<|aW hp).1;refine⟨[.int n,.ref F,.int<|0+(i:Int),.ref T.length,nP p],T',rfl,.inl ?_⟩;have cc:=yC (lo:=1) (hi:=(n:Int)+1) (cap:=[some 4]) (src:=sj (eC<|.int 1)<|jT lK (jI 0)<|eC<|.int 1) (t:=uW<|jT (UT true) (jI 0)<|jI 1) (e:=jT lK (jI 1)<|mW<|jH (jI 0)<|jR) (τ:=[.int n,.ref F,.int<|0+(i:Int),.ref T.length,nP p]) (S:=T') (S1:=T')
     (yJ (S1:=T') (by dsimp[kh,bools]) (by dsimp[kh,bools]) (pQ () ())<|pQ () ())
     (λt=>decide<|t∉p) (λt=>nP<|p++[t]) (λt _ _=>by
      have e:UT true (.int t) (nP p) T'=.ok (.bl<|decide<|t∉p) T':=by
       show opt (Vq T' (.int t)<|p.map .int) _=_;rw[EI,kL];by_cases c:t∈p
       ·rw[bg c,bH λz=>z c];rfl
       ·rw[bH c,bg c];rfl
      dsimp[kh,bools,e]) (λt _ _ _=>by
      have e:lK (nP p) (.tup [.int t]) T'=.ok (nP<|p++[t]) T':=Bq (ys:=[t]) (by rw[hpl];show _+1<=_;lia);dsimp[kh,bools,nI<|show([_]:ae).length<=16777216 by simp,e]) ()
    have ee:(((kK 1<|(n:Int)+1).filter λt=>decide<|t∉p).map λt=>nP<|p++[t])=(ext n p).map nP:=by unfold ext;rw[bD];rfl
    rw[ee]at cc;have ht:(inj n i).take (j+1)=(inj n i).take j++[p]:=by
     obtain⟨hj,e⟩:=aK.mp hp;rw[fq hj,e]
    have fl1:=B7 h6<|(inj n i).take j;have fl2:=B7 h6 [p];rw[gb,jm,cG]at fl2;have htl:((inj n i).take j).length<=46656:=by rw[bI];lia
    have x1:=Yg (S:=T'++[.lst<|(ext n p).map nP]) (j8 hW') jX (by
     rw[aG,aG];have:[p].length=1:=rfl
     lia)
    have lW:=oG hW';unfold vK;dsimp[kh,bools,hW',cc,x1];refine⟨_,_,rfl,⟨_,rfl⟩,?_,?_,kp'.lay.set<|.inr lT⟩
    ·rw[ow ()];exact j8 hF'
    ·rw[pW<|by rw[aS];exact bL lW<|iC _ _,ht,iR,bN,gb,jm,cG]) (by
    rintro τ T' ⟨⟨b4,rfl⟩,hF',hW',kp'⟩;rw[aG,c6]at hW';exact⟨b4,T',rfl,hW',kp'⟩)
  rw[ef];dsimp[kh,bools];exact⟨_,_,rfl,T.length,_,_,_,rfl,hW,kU,lT⟩
 ·rintro τ T ⟨F,a2,a3,a4,rfl,hF,kp,hSF⟩;rw[show((n:Int)-0).toNat=n by lia]at hF;dsimp[kh,bools];exact⟨F,T,rfl,hF,kp,hSF⟩
def W_{α β:Type}(ls:List α)(p:α->Bool)(f:α->β)(d:α):((List.range ls.length).filter λi=>p<|ls.getD i d).map (λi=>f<|ls.getD i d)=(ls.filter p).map f:=by
 have e:ls=(List.range ls.length).map λi=>ls.getD i d:=(range_getD ls d).symm
 conv=>rhs;rw[e,iO,bD]
 rfl
def acC{V n:Nat}{L:List<|ag}{c:Nat}{src:Ic}{te:Te}(hs:src τ S=.ok (kY V (L.map nP).length) T)(hV:jK T V=some (L.map nP))(hL:∀l∈L,l.Perm<|rg n)(hl:L.length<=16777216)(hc:mO cap τ=z0)(q:ag->Bool)
  (ht:∀l∈L,∀T1,lA T T1->∃T2,te (nP l::z0) T1=.ok (q l) T2/\lA T1 T2):∃T',kJ (none::cap) src (kD 0) te (jI 0) τ S=.ok (.ref T'.length) (T'++[.lst<|(L.filter q).map nP])/\lA T T':=by
 obtain⟨T',g1,g2⟩:=wI (s:=kY V (L.map nP).length) (g:=kD 0) (t:=te) (e:=jI 0) (P:=λS1=>lA T S1) (T:=λτ'=>∃y,τ'=y::z0) (λi=>nP<|L.getD i []) (λi=>q<|L.getD i []) (λi=>nP<|L.getD i [])
  (λi S1 hi k=>by
   have hi:i<(L.map nP).length:=hi;rw[aG]at hi;show(jK S1 V).bind _=_;rw[k.lst _ _ (λz=>z) hV,cE,aV,aI,aF hi];rfl)
  (λS1 k=>by
   show(match jK S1 V with
    | some ys=>decide (ys.length<=(L.map nP).length)
    | none=>false)=true
   rw[k.lst _ _ (λz=>z) hV];simp)
  (λi τ' S1 hi ⟨y,hy⟩ k=>by
   have hi:i<(L.map nP).length:=hi;rw[aG]at hi;subst hy;have hm:L.getD i []∈L:=by rw[aI,aF hi];exact eL hi
   obtain⟨T2,e2,k2⟩:=ht _ hm S1 k;exact⟨nP (L.getD i [])::z0,S1,T2,rfl,e2,⟨_,rfl⟩,λ_=>k.trans k2,λ_=>⟨T2,by dsimp[kh,bools],k.trans k2⟩⟩)
  (L.map nP).length 0 (mO (none::cap) τ) T rfl ⟨.unb,by rw[<- hc];rfl⟩ Kp.refl
 have ef:=W_ L q nP [];rw[fm]at ef;rw[aG,ef]at g1;refine⟨T',?_,g2⟩;unfold kJ;rw[hs,R.pX];show R.uS (nH (kY V (L.map nP).length) _ _ _ (L.map nP).length 0 _ _) _=_;rw[aG,g1,R.l9,kM<|by rw[aG];exact bB (cN _ _) hl]
abbrev qb (x z:ag):Bool:=@decide (Below x z)<|Classical.propDecidable _
def HC{x:ag}:qb x z=true ↔ Below x z:=@i6 _<|Classical.propDecidable _
def aai{x:ag}(h:¬Below x z):qb x z=false:=by
 cases c:qb x z with
 | false=>rfl
 | true=>exact absurd (HC.mp c) h
end K31
namespace K31
open PySem L2 Am
open Fw (rg)
def QL{S:jM}{ys:ag}(h:ys.length<64):zl (.tup<|ys.map .int) S=.ok (.ref S.length) (S++[.lst<|(sortI ys).map .int]):=by
 show opt (A.ints<|ys.map .int) _=_;rw[ints_map];exact XS h
def Zy{us:ag}{t:Nat}(h:t<=us.length):OT (.tup<|us.map .int) none (some (t:Int)) S=.ok (.tup<|(us.take t).map .int) S:=by
 show R.ok (A.tup<|wJ (us.map .int) none<|some (t:Int)) S=_;rw[aaR _ _<|by rw[aG];exact h,map_take]
def YT{n k:Nat}{xs ys:ae}{g:Tg}{c:Am.Sm}{src:Ic}(hs:src τ S=.ok (Dm n m k) S1)(hx:xs.length=k)(hy:ys.length=k)(Inv:Nat->ae->jM->Prop)(Post:RS->Prop)(h0:Inv 0 τ S1)(hl:∀i τ S,Inv i τ S->jK S n=some xs/\jK S m=some ys)
  (step:∀(i:Nat) x y τ S,xs[i]?=some x->ys[i]?=some y->Inv i τ S->∃τ1 S1,g (.tup [x,y]) τ S=.ok τ1 S1/\((∃τ' S',c τ1 S1=.nx τ' S'/\Inv (i+1) τ' S')\/(∃a S',c τ1 S1=.rt a S'/\Post (.rt a S'))))
  (fin:∀τ S,Inv k τ S->Post (.nx τ S)):Post (kX src g c τ S):=by
 unfold kX;rw[hs];refine yN (s:=Dm n m k) Inv Post (λi τ S hi' h=>?_) (λτ S h=>⟨?_,fin τ S h⟩) _ 0 τ S1 rfl h0
 ·have hi':i<k:=hi';obtain⟨a1,a2⟩:=hl i τ S h;have ex:=aF (show i<xs.length by lia);have ey:=aF (show i<ys.length by lia);obtain⟨τ1,S1,e,q⟩:=step i _ _ τ S ex ey h;exact⟨_,τ1,S1,by show(jK S n).bind _=_;rw[a1,cE,a2,cE,ex,cE,ey];rfl,e,q⟩
 ·obtain⟨a1,a2⟩:=hl _ τ S h;show(match jK S n,jK S m with
   | some xs,some ys=>decide (xs.length<=k) || decide (ys.length<=k)
   | _,_=>false)=true
  rw[a1,a2];simp[hx]
def Qd{n:Nat}{x y:ag}(px:x.Perm<|rg n)(py:y.Perm<|rg n)(h1:1<=n)(h2:n<=20):∃S',mL [nP x,nP y] S=.ok (.bl<|qb x y) S'/\lA S S':=by
 have lx:=nG px;have ly:=nG py;unfold mL qW rH;dsimp[kh,bools,mP,Nat.reduceAdd,Nat.reduceSub];refine EZ (lo:=1) (hi:=(n:Int)+1) (S1:=S) (show uc _ _=_ from yJ (S1:=S) (by dsimp[kh,bools]) (by dsimp[kh,bools,aG,lx]) (pQ () ())<|pQ () ())
  (λi τ T=>(∃a2 a3 a4:A,τ=[nP x,nP y,a2,a3,a4])/\(∀t,t<=i->∀j,Bl.cnt (x.take t) j<=Bl.cnt (y.take t) j)/\lA S T)
  (λr=>∃S',RS.end (RS.seq r _)=.ok (.bl<|qb x y) S'/\lA S S') ⟨⟨_,_,_,rfl⟩,λt ht j=>by rw[Nat.le_zero.mp ht];exact gr _,Kp.refl⟩ ?_ ?_
 ·rintro i τ T hi ⟨⟨a2,a3,a4,rfl⟩,hall,kp⟩;have l1:(x.take<|1+i).length=1+i:=by rw[bI];lia
  have l2:(y.take<|1+i).length=1+i:=by rw[bI];lia
  have pa:=tU<|x.take<|1+i;have pb:=tU<|y.take<|1+i;have qa:=sortI_perm<|x.take<|1+i;have qb':=sortI_perm<|y.take<|1+i;have s1:=λS=>QL (S:=S) (ys:=x.take<|1+i) ();have s2:=λS=>QL (S:=S) (ys:=y.take<|1+i) ();have ca:∀j,Bl.cnt (sortI<|x.take<|1+i) j=Bl.cnt (x.take<|1+i) j:=λj=>Bl.GF qa j;have cb:∀j,Bl.cnt (sortI<|y.take<|1+i) j=Bl.cnt (y.take<|1+i) j:=λj=>Bl.GF qb' j;have la:(sortI<|x.take<|1+i).length=1+i:=by rw[qa.length_eq];exact l1
  have lb:(sortI<|y.take<|1+i).length=1+i:=by rw[qb'.length_eq];exact l2
  generalize sortI (x.take<|1+i)=sa at pa ca s1 la;generalize sortI (y.take<|1+i)=sb at pb cb s2 lb;have Ua:=Kr.Ua pa pb ();have e1:OT (nP x) none (some<|1+(i:Int)) T=.ok (nP<|x.take<|1+i) T:=by
   rw[show(1:Int)+(i:Int)=((1+i:Nat):Int)by lia];exact Zy ()
  have e2:OT (nP y) none (some<|1+(i:Int)) (T++[O.lst<|sa.map A.int])=.ok (nP<|y.take<|1+i) (T++[O.lst<|sa.map A.int]):=by
   rw[show(1:Int)+(i:Int)=((1+i:Nat):Int)by lia];exact Zy ()
  have ha:jK (T++[O.lst<|sa.map A.int]++[O.lst<|sb.map A.int]) T.length=some (sa.map .int):=j8 jX;have hb:jK (T++[O.lst<|sa.map A.int]++[O.lst<|sb.map A.int]) (T++[O.lst<|sa.map A.int]).length=some (sb.map .int):=jX;have k3:lA S (T++[O.lst<|sa.map A.int]++[O.lst<|sb.map A.int]):=kp.lay.lay;obtain⟨U,hU⟩:∃U,U=T++[O.lst<|sa.map A.int]++[O.lst<|sb.map A.int]:=⟨_,rfl⟩;have hsrc:ue [nP x,nP y,.int<|1+(i:Int),a3,a4] T=.ok (Dm T.length (T++[O.lst<|sa.map A.int]).length<|1+i) U:=by
   have:=Ra (c:=j9 (f1 zl)<|jH (IT (jI 0) wY<|wQ<|jI 2) jR) (d:=j9 (f1 zl)<|jH (IT (jI 1) wY<|wQ<|jI 2) jR) (τ:=[nP x,nP y,.int<|1+(i:Int),a3,a4]) (S:=T) (S1:=T++[O.lst<|sa.map A.int]) (by dsimp[kh,bools,IT,e1,s1]) (by dsimp[kh,bools,IT,e2,s2]) ha hb;rw[aG,aG,la,lb,Nat.min_self,<- hU]at this;exact this
  rw[<- hU]at ha hb k3;have key:(∃b3 b4:A,nu [nP x,nP y,.int<|1+(i:Int),a3,a4] T=.nx [nP x,nP y,.int<|1+(i:Int),b3,b4] U/\∀(k:Nat) (x y:Int),sa[k]?=some x->sb[k]?=some y->x<=y)\/(nu [nP x,nP y,.int<|1+(i:Int),a3,a4] T=.rt (.bl false) U/\¬∀(k:Nat) (x y:Int),sa[k]?=some x->sb[k]?=some y->x<=y):=by
   unfold nu;refine YT (n:=T.length) (m:=(T++[O.lst<|sa.map A.int]).length) (xs:=sa.map .int) (ys:=sb.map .int) (k:=1+i) hsrc (by rw[aG,la]) (by rw[aG,lb])
    (λj τ V=>(∃b3 b4:A,τ=[nP x,nP y,.int<|1+(i:Int),b3,b4])/\V=U/\∀(k:Nat) (x y:Int),k<j->sa[k]?=some x->sb[k]?=some y->x<=y)
    (λr=>(∃b3 b4:A,r=.nx [nP x,nP y,.int<|1+(i:Int),b3,b4] U/\∀(k:Nat) (x y:Int),sa[k]?=some x->sb[k]?=some y->x<=y)\/(r=.rt (.bl false) U/\¬∀(k:Nat) (x y:Int),sa[k]?=some x->sb[k]?=some y->x<=y))
    ⟨⟨_,_,rfl⟩,rfl,λk _ _ h=>absurd h<|e_ _⟩ (λj τ V hh=>by obtain⟨_,rfl,_⟩:=hh;exact⟨ha,hb⟩) ?_ ?_
   ·rintro j u v τ V hu hv ⟨⟨b3,b4,rfl⟩,rfl,hj⟩;rw[aV]at hu hv;obtain⟨p,hp,rfl⟩:=aY.mp hu;obtain⟨q,hq,rfl⟩:=aY.mp hv;refine⟨[nP x,nP y,.int<|1+(i:Int),.int p,.int q],V,by dsimp[kh,bools,m7<|show([_,_]:ae).length=2 from rfl],?_⟩;unfold uf;dsimp[kh,bools];by_cases c:p>q
    ·right;rw[bg c];dsimp[kh,bools];exact⟨_,_,rfl,.inr ⟨rfl,λz=>by have:=z j p q hp hq;lia⟩⟩
    ·left;rw[bH c];dsimp[kh,bools];refine⟨_,_,rfl,⟨_,_,rfl⟩,rfl,λk x' y' hk hx' hy'=>?_⟩;by_cases d:k=j
     ·subst d;rw[hp]at hx';rw[hq]at hy'
      cases hx';cases hy'
      lia
     ·exact hj k x' y' () hx' hy'
   ·rintro τ V ⟨⟨b3,b4,rfl⟩,rfl,hj⟩;exact .inl ⟨_,_,rfl,λk x' y' hx' hy'=>hj k x' y' (by have:=(aK.mp hx').1;lia) hx' hy'⟩
  rcases key with⟨b3,b4,e3,hc⟩|⟨e3,hc⟩
  ·left;refine⟨_,_,e3,⟨_,_,_,rfl⟩,λt ht j=>?_,k3⟩;by_cases d:t=i+1
   ·subst d;rw[show i+1=1+i by lia,<- ca,<- cb];exact Ua.mp hc j
   ·exact hall t () j
  ·right;refine⟨_,_,e3,U,?_,k3⟩;rw[aai λz=>hc<|Ua.mpr λj=>by rw[ca,cb];exact z (1+i) j];dsimp[kh,bools]
 ·rintro τ T ⟨⟨a2,a3,a4,rfl⟩,hall,kp⟩;refine⟨T,?_,kp⟩;rw[HC.mpr λt j=>?_]
  ·dsimp[kh,bools]
  ·by_cases c:t<=n
   ·exact hall t () j
   ·rw[dQ (),dQ ()];have:=hall n () j;rw[dQ (),dQ ()]at this;exact this
end K31
namespace K31
open PySem L2 Am
open Po (Pl Ok Bd)
open Su (Es At Vl AF)
open He (Sz PB)
open Fw (rg)
def aah:PB 1 1 He.LB:=⟨λp hp=>by
  dsimp[He.LB,bu,jf,or_false]at hp
  rcases hp with rfl|rfl<;>decide,λp hp=>by
  dsimp[He.LB,bu,jf,or_false]at hp
  rcases hp with rfl|rfl<;>decide⟩
def Ez{k:Nat}(h:k<=30):5 ^ k<big:=by
 rw[sC];exact cK (dN ⋯ h)<|bL (show 5 ^ 30<2 ^ 100 by decide)<|dN ⋯ ⋯
def Tt{S:jM}{N:Nat}{w:am}(hN:N<6)(h0:1<=N)(hw:jK S m=some (wd w))(va:He.Va N w)(hl:w.length<=25) :
  ∃(L:Nat) (S':jM) (rs:Es),tH [.ref m,.int N] S=.ok (.ref L) S'/\Sm S' L rs/\Su.sm rs=He.A_ w (He.one N)/\S.length<=L/\(∀e∈rs,S.length<=e.2.1)/\lA S S':=by
 have g2:∀x y:A,gd (([x,y]:ae).length<=sizeLine)=λr:Am.R A=>r:=λx y=>by funext r;exact nI (show 2<=16777216 by decide)
 have g1:∀x:A,gd (([x]:ae).length<=sizeLine)=λr:Am.R A=>r:=λx=>by funext r;exact nI (show 1<=16777216 by decide)
 have g2':gd (2<=sizeLine)=λr:Am.R A=>r:=by funext r;exact nI (show 2<=16777216 by decide)
 have g1':gd (1<=sizeLine)=λr:Am.R A=>r:=by funext r;exact nI (show 1<=16777216 by decide)
 have l1:(S++[O.lst [A.tup [.int 0,.int 1]]]).length=S.length+1:=by simp
 obtain⟨U,hU⟩:∃U,U=S++[O.lst [A.tup [.int 0,.int 1]]]++[O.lst [.tup [.tup<|(kK 1<|(N:Int)+1).map .int,.ref S.length]]]:=⟨_,rfl⟩;have kU:lA S U:=by rw[hU];exact Kp.refl.lay.lay
 have sU:Sm U (S.length+1) [((rg N),S.length,[((0:Int),(1:Int))])]:=by
  have:=jX (S:=S++[O.lst [.tup [.int 0,.int 1]]]) (xs:=[.tup [.tup<|(kK 1<|(N:Int)+1).map .int,.ref S.length]]);rw[aS,c7,<- hU]at this;refine⟨this,λe he=>?_⟩;rw[aP.mp he,hU];exact j8 jX
 unfold tH ze zv;dsimp[kh,wU,bools,mP,Nat.reduceAdd,Nat.reduceSub,IB<|Gf (show(-1000000:Int)<=1 by decide) ⋯ (show -1000000<=(N:Int)+1 by lia) () (),g1,g2,g1',g2'];rw[l1,<- hU];refine p5 (n:=m) (xs:=wd w) (S1:=U) (show zY _ _=_ from mD (by dsimp[kh,bools])<|kU.lst _ _ (λz=>z) hw)
  (λi τ T=>∃(n':Nat) (a3:A) (rs:Es),τ=[.ref m,.int N,.ref n',a3]/\Sm T n' rs/\Su.sm rs=He.A_ (w.take i) (He.one N)/\S.length<=n'/\(∀e∈rs,S.length<=e.2.1)/\lA S T)
  (λr=>∃(L:Nat) (S':jM) (rs:Es),RS.end (RS.seq r _)=.ok (.ref L) S'/\Sm S' L rs/\Su.sm rs=He.A_ w (He.one N)/\S.length<=L/\(∀e∈rs,S.length<=e.2.1)/\lA S S') ⟨S.length+1,_,_,rfl,sU,rfl,(),(λe he=>by rw[aP.mp he];exact aO _),kU⟩ (λi τ T hh=>by obtain⟨_,_,_,_,_,_,_,_,k⟩:=hh;exact k.lst _ _ (λz=>z) hw) ?_ ?_
 ·rintro i z τ T hz1 ⟨n',a3,rs,rfl,s,q,ln,lr,kT⟩;rw[aV]at hz1;obtain⟨k,hk,rfl⟩:=aY.mp hz1;have vk:=va k<|aW hk;have il:=(aK.mp hk).1;refine⟨[.ref m,.int N,.ref n',.int k],T,rfl,.inl ?_⟩;have vt:He.Va N (w.take i):=λj hj=>va j<|dM hj;have z3:Sz N 25 (5 ^ 25) (Su.sm rs):=by
   rw[q];have:=(He.Iz N).A_ (w:=w.take i) vt;have lt:(w.take i).length<=25:=by rw[bI];lia
   exact this.mono ()<|by rw[Nat.mul_one];exact dN ⋯ lt
  have m3:=z3.many hN;rw[Su.pK]at m3;have pb3:=Ez (k:=25) ⋯;obtain⟨L4,S4,rs4,x4,s4,q4,w4,_,_,k4⟩:=X3 (j:=2 * (2 * 25+1)) s (k:=k) (N:=N) (λe he=>by
   have b:=z3.pb<|mC rfl he;exact⟨nG<|z3.pm _<|mC rfl he,by have:=b.2;show 2 * e.2.2.length<=_;exact Nat.mul_le_mul_left _ this,λp hp=>cK (b.1.c p hp) pb3⟩) vk.1 vk.2 () (by
    have:(2 * rs.length+2) * (2 * (2 * 25+1))<=242 * (2 * (2 * 25+1)):=b7 _ ()
    lia) ()
  obtain⟨V,hV⟩:∃V,V=S4++[O.lst<|Po.pl He.LB]:=⟨_,rfl⟩;have kV:lA S4 V:=by rw[hV];exact Kp.refl.lay
  have nV:newL [.tup [.int<|-1,.int<|-1],.tup [.int 1,.int 1]] S4=.ok (.ref S4.length) V:=by rw[hV];exact kM (show 2<=16777216 by decide)
  have lV:jK V S4.length=some (Po.pl He.LB):=by rw[hV];exact jX
  obtain⟨L5,S5,ss,x5,s5,q5,l5,k5⟩:=GQ hN ((s.kp k4).kp kV) z3 lV aah ⋯ () pb3 (by have:=Ez (k:=0) ⋯;lia);have pm3:∀x∈Su.sm rs,x.1.Perm (rg N):=z3.pm;have z4:Sz N (25+1) (3 * 5 ^ 25) (Su.sm rs4):=by rw[q4];exact z3.bx vk.1 vk.2
  have m4:=z4.many hN;rw[Su.pK]at m4;have ls:ss.length=rs.length:=by
   have:=dO List.length q5;unfold He.Hw at this
   rwa [Su.pK,aG,Su.pK]at this
  obtain⟨L6,S6,fs,x6,s6,q6,w6,l6,k6⟩:=Qt (j:=200) ((s4.kp kV).kp k5) s5 (λe he=>by
   rcases bE.mp he with he|he
   ·have b:=z4.pb<|mC rfl he;have pl:=nG<|z4.pm _<|mC rfl he;have b2:e.2.2.length<=_:=b.2;have pl:e.1.length=N:=pl;exact⟨(),λz=>by rw[z]at pl;simp at pl;lia⟩
   ·have hm:=mC q5 he;obtain⟨y,hy,ey⟩:=br.mp hm;have b:=z3.pb hy;have pl:=nG<|z3.pm _ hy;have e1:y.1=e.1:=dO Prod.fst ey;have e2:Po.times He.LB y.2=e.2.2:=dO Prod.snd ey;refine⟨?_,λz=>by rw[e1,show e.1=[]from z]at pl;simp at pl;lia⟩;have a1:=Po.DT<|Po.qA []<|Po.BC He.LB y.2;have a2:=Po.nR (Po.BC He.LB y.2) [];rw[Po.we]at a2;have a3:=b.2;have a4:e.2.2.length<=(Po.qA []<|Po.BC He.LB y.2).length:=by rw[<- e2];exact a1
    have a5:He.LB.length=2:=rfl;rw[a5,cg]at a2
    lia) () ⋯
  unfold zS;dsimp[kh,wU,bools,x4,g2,nV,x5,x6];refine⟨_,_,rfl,L6,_,fs,rfl,s6,?_,?_,λe he=>?_,(((kT.trans k4).trans kV).trans k5).trans k6⟩
  ·rw[q6,q4,q5,He.Ug vk.1 vk.2 pm3,q,dB,hk];unfold He.A_;rw[dc];rfl
  ·have:=(((kT.trans k4).trans kV).trans k5).len
   lia
  ·have:=(w6.nw e he).1;have:=(((kT.trans k4).trans kV).trans k5).len
   lia
 ·rintro τ T ⟨n',a3,rs,rfl,s,q,ln,lr,kT⟩;rw[aG,c6]at q;exact⟨n',T,rs,by dsimp[kh,bools],s,q,ln,lr,kT⟩
end K31
namespace K31
open PySem L2 Am
open Po (Pl Ok Bd)
open Su (Es At Vl AF)
open He (Sz PB)
open Fw (rg)
open Eu (inj)
def ack{k:Nat}{a b c d:Int}:qK S (k+2) (.tup [.int a,.int b]) (.tup [.int c,.int d])=some (decide<|(a,b)=(c,d)):=by
 show((some<|a == c).bind λp=>((some<|b == d).bind λq=>(some true).map λr=>q && r).map λq=>p && q)=_;by_cases h1:a=c
 ·by_cases h2:b=d
  ·subst h1 h2;simp
  ·subst h1;simp[h2]
 ·simp[h1]
theorem GP{k:Nat}:∀l m:Pl,oX (qK S<|k+2) (Po.pl l) (Po.pl m)=some (decide<|l=m)
 | [],[]=>rfl
 | [],_::_=>rfl
 | _::_,[]=>rfl
 | p::l,q::m=>by
  show(qK S (k+2) (.tup [.int p.1,.int p.2])<|.tup [.int q.1,.int q.2]).bind (λa=>(oX (qK S<|k+2) (Po.pl l)<|Po.pl m).map λb=>a && b)=_;rw[ack,GP l m];show some (decide (p=q) && decide (l=m))=_;by_cases h1:p=q
  ·by_cases h2:l=m
   ·subst h1 h2;simp
   ·simp[h2]
  ·simp[h1]
def Xe{e:Su.En}{o:ag}{r:Nat}{p:Pl}(h:jK S e.2.1=some (Po.pl e.2.2))(hr:jK S r=some (Po.pl p)):qK S 12 (Su.ent e) (.tup [.tup<|o.map .int,.ref r])=some (decide (e.1=o) && decide (e.2.2=p)):=by
 show(oX (qK S 10) (e.1.map .int)<|o.map .int).bind (λa=>(((jK S e.2.1).bind λxs=>(jK S r).bind λys=>oX (qK S 10) xs ys).bind λb=>(some true).map λc=>b && c).map λb=>a && b)=_;rw[ug,h,hr];show(some<|decide<|e.1=o).bind (λa=>((oX (qK S 10) (Po.pl e.2.2)<|Po.pl p).bind λb=>(some true).map λc=>b && c).map λb=>a && b)=_;rw[GP];simp
theorem N9{o:ag}{r:Nat}{p:Pl}(hr:jK S r=some (Po.pl p)):∀{es:Es},At S es->Vq S (.tup [.tup<|o.map .int,.ref r]) (es.map Su.ent)=some (decide<|(o,p)∈Su.sm es)
 | [],_=>rfl
 | e::es,h=>by
  show(qK S 12 (Su.ent e) _).bind (λa=>(Vq S _<|es.map Su.ent).map λb=>a || b)=_;rw[Xe (h e<|aM ..) hr,N9 hr λx hx=>h x<|aN _ hx];show some ((decide (e.1=o) && decide (e.2.2=p)) || decide ((o,p)∈Su.sm es))=some (decide ((o,p)∈(e.1,e.2.2)::Su.sm es));congr 1;rw[jz];dsimp[iN,fM,eF,bu,Prod.mk.injEq];constructor
  ·rintro(⟨h1,h2⟩|h)
   ·exact .inl ⟨h1.symm,h2.symm⟩
   ·exact .inr h
  ·rintro(⟨h1,h2⟩|h)
   ·exact .inl ⟨h1.symm,h2.symm⟩
   ·exact .inr h
def SY{S:jM}{n:Nat}{es:Es}{src:Ic}(hs:src τ S=.ok (kY n (es.map Su.ent).length) S)(h:Sm S n es)(hl:es.length<=1000000) :
  kJ [none,none] src (xD 2<|oR (kD 0)<|oR (kD 1) xB) xC (jI 0) τ S=.ok (.ref S.length) (S++[.lst<|((Su.sm es).map Prod.fst).map nP]):=by
 have at_:∀i,i<es.length->(es.map Su.ent)[i]?=some (.tup [nP (es.getD i ([],0,[])).1,.ref (es.getD i ([],0,[])).2.1]):=λi hi=>by
  rw[aV,aI,aF hi];rfl
 have:=BA (cap:=[]) (e:=jI 0) (τ:=τ) (S:=S) (S1:=S) hs (λi=>nP (es.getD i ([],0,[])).1) (λi=>.ref (es.getD i ([],0,[])).2.1) (λi=>nP (es.getD i ([],0,[])).1)
  (λi hi=>by
   have hi:i<(es.map Su.ent).length:=hi;rw[aG]at hi;show(jK S n).bind _=_;rw[h.l,cE,at_ i hi]) (by
   show(match jK S n with
    | some ys=>decide (ys.length<=(es.map Su.ent).length)
    | none=>false)=true
   rw[h.l];simp) (λi hi=>by dsimp[kh,bools]) (by rw[show(kY n (es.map Su.ent).length).k=es.length from aG ..];lia)
 rw[this,show(kY n (es.map Su.ent).length).k=es.length from aG ..];congr 4;unfold Su.sm;rw[bD,bD];refine gv (by simp) λi h1 h2=>?_;simp at h1;simp[h1]
end K31
namespace K31
open PySem L2 Am
open Po (Pl Ok Bd)
open Su (Es At Vl)
open He (Sz PB)
open Fw (rg)
def F0{N P n:Nat}{o:ag}{p:Pl}{r:Nat}(po:o.Perm<|rg N)(hp:Ok p)(h0:p≠[])(pb:PB P C p)(hn:jK S n=some [.tup [.tup<|o.map .int,.ref r]])(hr:jK S r=some (Po.pl p)):Sn N P C S n [(o,p)]:=
 ⟨He.Sz.of (He.OF o hp h0) (λx hx=>by rw[aP.mp hx];exact po) λx hx=>by rw[aP.mp hx];exact pb,[(o,r,p)],⟨hn,λe he=>by rw[aP.mp he];exact hr⟩,rfl⟩
def WO:PB 60 (10 ^ 20) [((0:Int),(1:Int))]:=⟨λq hq=>by rw[aP.mp hq];decide,λq hq=>by rw[aP.mp hq];decide⟩
def TX{N:Nat}{S:jM}{o:ag}(po:o.Perm<|rg N):Sn N 60 (10 ^ 20) (S++[O.lst [.tup [.int 0,.int 1]]]++[O.lst [.tup [.tup<|o.map .int,.ref S.length]]]) (S.length+1) [(o,[((0:Int),(1:Int))])]:=by
 have:=jX (S:=S++[O.lst [.tup [.int 0,.int 1]]]) (xs:=[.tup [.tup<|o.map .int,.ref S.length]]);rw[aS,c7]at this;exact F0 po He.IG (by simp) WO this<|j8 jX
open Po (Pl Ok Bd)
open Su (Es At Vl AF)
open He (Sz PB)
open Fw (rg)
open Eu (inj)
def SG(N:Nat):(L2.Uz (N:Int) 0).Perm (rg N):=by
 have e:(List.range ((N:Int)-0).toNat).map (λk:Nat=>(N:Int)-(k:Int))=((List.range ((N:Int)+1-1).toNat).map λk:Nat=>1+(k:Int)).reverse:=by
  refine gv (by simp) λi h1 h2=>?_;simp at h1;simp
  lia
 show((List.range ((N:Int)-0).toNat).map λk:Nat=>(N:Int)-(k:Int)).Perm ((List.range ((N:Int)+1-1).toNat).map λk:Nat=>1+(k:Int));rw[e];exact List.reverse_perm _
def NH{a b c d:Int}(h1:a.natAbs<=60)(h2:b.natAbs<=100)(h3:c.natAbs<=60)(h4:d.natAbs<=100):PB 60 (10 ^ 20) [(a,b),(c,d)]:=by
 have:(100:Nat)<=10 ^ 20:=by decide
 refine⟨λz hz=>?_,λz hz=>?_⟩ <;>
 ·rcases bu.mp hz with w|w
  ·rw[w];simp only;lia
  ·rw[aP.mp w];simp only;lia
def YI{a b c d:Int}(h1:a<c)(h2:b≠0)(h4:d≠0):Ok [(a,b),(c,d)]:=
 ⟨bQ.mpr ⟨λz hz=>by rw[aP.mp hz];exact h1,cu _ _⟩,λz hz=>by
  rcases bu.mp hz with w|w
  ·rw[w];exact h2
  ·rw[aP.mp w];exact h4⟩
def O5:10 ^ 20<big:=by rw[sC];exact bL (show 10 ^ 20<2 ^ 100 by decide)<|dN ⋯ ⋯
def Xn(ns:ag)(hl:ns.length<=63):∃S',Dk [.frz<|ns.map .int] []=.ok (.bl true) S':=by
 unfold Dk Pe OD;dsimp[kh,bools,mP,Nat.reduceAdd,Nat.reduceSub];refine EZ (lo:=0) (hi:=if (if 4<(ns.length:Int)then 4 else(ns.length:Int))>1 then(if 4<(ns.length:Int)then 4 else(ns.length:Int))else 1) (S1:=[]) (show Jt _ _=_ from Bo (by dsimp[kh,bools,aG])<|pQ (by split<;>split<;>lia)<|by split<;>split<;>lia)
  (λ_ τ _=>∃a1 a2 a3 a4 a5 a6 a7 a8:A,τ=[.frz<|ns.map .int,a1,a2,a3,a4,a5,a6,a7,a8]) (λr=>∃S',RS.end (RS.seq r _)=.ok (.bl true) S') ⟨_,_,_,_,_,_,_,_,rfl⟩ ?_ ?_
 ·rintro i τ S hi ⟨a1,a2,a3,a4,a5,a6,a7,a8,rfl⟩;left;have hi4:(i:Int)<4:=by split at hi<;>split at hi<;>lia
  have g2':gd (2<=sizeLine)=λr:Am.R A=>r:=by funext r;exact nI (show 2<=16777216 by decide)
  have g1':gd (1<=sizeLine)=λr:Am.R A=>r:=by funext r;exact nI (show 1<=16777216 by decide)
  have g2:∀x y:A,gd (([x,y]:ae).length<=sizeLine)=λr:Am.R A=>r:=λx y=>g2';have g1:∀x:A,gd (([x]:ae).length<=sizeLine)=λr:Am.R A=>r:=λx=>g1';obtain⟨S1,e1,b1,kp1⟩:=UX (S:=S) (ns:=ns) (k:=0+(i:Int)) () ();have k2:lA S1 (S1++[O.lst [.int 4,.int 3]]):=Kp.refl.lay;obtain⟨v,hv,v3,v4⟩:∃v:Int,rW ([.int 4,.int 3]:ae) (if decide ((0:Int)<0+(i:Int))=true then 1 else 0)=some (.int v)/\3<=v/\v<=4:=by
   by_cases c:(0:Int)<0+(i:Int)
   ·rw[bg c];exact⟨3,rfl,by decide,by decide⟩
   ·rw[bH c];exact⟨4,rfl,by decide,by decide⟩
  obtain⟨d,S3,e3,d0,d1,b3,k3⟩:=digit (S:=S1++[O.lst [.int 4,.int 3]]) (m:=v) (b1.kp k2 λz=>z) () ();obtain⟨N,hN⟩:∃N:Nat,(N:Int)=2+d:=⟨(2+d).toNat,()⟩;have N6:N<6:=()
  have N1:1<=N:=()
  obtain⟨o1,S4,e4,po1,b4,k4⟩:=OC (n:=(N:Int)) b3 () ();obtain⟨t,S5,e5,_,_,b5,k5⟩:=digit (m:=8) b4 ⋯ ⋯;have hif:∃o:ag,o.Perm (rg N)/\Aj (uW<|jT (wM false) (eFn kj<|jH (jI 2)<|jH (eC<|.int 8) jR)<|eC<|.int 3) (kG (ON (jI 3) (eC<|.int 0)<|Hz xm<|eC<|.int 1)<|kD 4) qM [.frz<|ns.map .int,.int<|0+(i:Int),.ref S.length,.int N,.tup<|o1.map .int,a5,a6,a7,a8] S4=.nx [.frz<|ns.map .int,.int<|0+(i:Int),.ref S.length,.int N,.tup<|o.map .int,a5,a6,a7,a8] S5:=by
   dsimp[kh,bools,e5];by_cases c:t=3
   ·have td:=UM (c:=jI 3) (d:=eC<|.int 0) (e:=Hz xm<|eC<|.int 1) (τ:=[.frz<|ns.map .int,.int<|0+(i:Int),.ref S.length,.int N,.tup<|o1.map .int,a5,a6,a7,a8]) (S:=S5) (S1:=S5) (S2:=S5) (S3:=S5) (i:=(N:Int)) (j:=0) (by dsimp[kh,bools]) (by dsimp[kh,bools]) (by dsimp[kh,bools]) (pQ () ()) (pQ ⋯ ⋯) ();refine⟨L2.Uz (N:Int) 0,SG N,?_⟩;rw[c,bV];dsimp[kh,bools,td]
   ·refine⟨o1,po1,?_⟩;rw[eG.mpr c];dsimp[kh,bools]
  obtain⟨o,po,hif⟩:=hif;dsimp[kh,bools]at hif;obtain⟨w,mw,S6,e6,lw6,r1,r2,_,b6,k6⟩:=Yk (N:=N) b5 po ();have va:He.Va N w:=λk hk=>by have:=Wd.j6.valid r1 k hk;rwa [Wd.jZ]at this
  have wl:w.length<=25:=by
   have a:=He.pO r1;rw[r2,Fw.vO]at a;have:=He.HW N6 po
   lia
  obtain⟨D,S7,ds,e7,sd,qd,lD,rd,k7⟩:=Tt (S:=S6) N6 N1 lw6 va wl;obtain⟨c1,c2,c3⟩:=He.CV po r1 r2;have c1:He.Cn (He.A_ w<|He.one N):=c1;have c2:∀x∈He.A_ w (He.one N),x.1.Perm (rg N):=c2;have c3:He.pI N (Su.cS<|He.A_ w<|He.one N) (He.bT N o):=c3;have l1:(S7++[O.lst [A.tup [.int 0,.int 1]]]).length=S7.length+1:=by simp
  have A8:=TX (N:=N) (S:=S7) po;obtain⟨S8,hS8⟩:∃S8,S8=S7++[O.lst [A.tup [.int 0,.int 1]]]++[O.lst [.tup [.tup<|o.map .int,.ref S7.length]]]:=⟨_,rfl⟩;rw[<- hS8]at A8;have k8:lA S7 S8:=by rw[hS8];exact Kp.refl.lay.lay
  obtain⟨F,S9,e9,A9,k9⟩:=A8.tu N6 N1 ⋯ O5;rw[He.Qj po r1 r2]at A9;obtain⟨zf,fs,sf,qf⟩:=A9;have v9:∀e∈fs,Ok e.2.2/\e.2.2≠[]/\e.2.2.length<=1000000:=λe he=>by
   have hm:=mC qf he;exact⟨zf.cn.gd.ok _ hm,zf.cn.ne hm,bB (zf.pb hm).2 ⋯⟩
  obtain⟨S10,e10,k10⟩:=Qq sf v9;have k810:=(k8.trans k9).trans k10;have sf10:=sf.kp k10;have sd10:=sd.kp k810;have w10:wM true (.ref F) (.ref D) S10=.ok (.bl false) S10:=B8 (PJ sf10 sd10<|by rw[qf,qd]);have k11:lA S10 (S10++[O.lst [A.tup [.int 0,.int 1]]]):=Kp.refl.lay;have in11:UT true (.tup [.tup<|o.map .int,.ref S10.length]) (.ref F) (S10++[O.lst [A.tup [.int 0,.int 1]]])=.ok (.bl false) (S10++[O.lst [A.tup [.int 0,.int 1]]]):=by
   show opt (jK (S10++[O.lst [A.tup [.int 0,.int 1]]]) F) _=_;rw[(sf10.kp k11).l,kL,N9 (S:=S10++[O.lst [A.tup [.int 0,.int 1]]]) (r:=S10.length) (p:=[((0:Int),(1:Int))]) (show jK (S10++[O.lst [A.tup [.int 0,.int 1]]]) S10.length=some [A.tup [.int 0,.int 1]]from jX) (sf10.kp k11).a,kL,bg<|by rw[qf];exact He.Y8 po c1 c3];rfl
  obtain⟨S11,hS11⟩:∃S11,S11=S10++[O.lst [A.tup [.int 0,.int 1]]]:=⟨_,rfl⟩;rw[<- hS11]at in11 k11;have sf11:=sf10.kp k11;have m11:=zf.many N6;rw[<- qf,Su.pK]at m11;have ky:=SY (src:=mH<|jI 6) (τ:=[.frz<|ns.map .int,.int<|0+(i:Int),.ref S.length,.int N,.tup<|o.map .int,.ref D,.ref F,a7,a8]) (S:=S11) (mD (by dsimp[kh,bools]) sf11.l) sf11 ();obtain⟨S12,hS12⟩:∃S12,S12=S11++[O.lst<|((Su.sm fs).map Prod.fst).map nP]:=⟨_,rfl⟩;rw[<- hS12]at ky;have k12:lA S11 S12:=by rw[hS12];exact Kp.refl.lay
  have l12:jK S12 S11.length=some (((Su.sm fs).map Prod.fst).map nP):=by rw[hS12];exact jX
  obtain⟨V,S13,e13,g13,k13,_⟩:=XF (S:=S12) (n:=N) ();obtain⟨T1,e14,k14⟩:=acC (S:=S12) (T:=S13) (V:=V) (n:=N) (c:=0) (L:=inj N N) (src:=mH<|eFn qS<|jH (jI 3) jR) (te:=tX<|eFn mL<|jH (jI 0)<|jH (jI 1) jR) (τ:=[.frz<|ns.map .int,.int<|0+(i:Int),.ref S.length,.int N,.tup<|o.map .int,.ref D,.ref F,a7,a8]) (cap:=[some 4]) (z0:=[nP o])
   (mD (by dsimp[kh,bools,e13]) g13) g13 (λl hl=>Eu.EV.mp hl) (bB (Eu.Eo N)<|bB (Wh ()<|aO _) ⋯) rfl (λz=>qb z o) (λl hl U kU=>by
    obtain⟨U2,e,k⟩:=Qd (S:=U) (Eu.EV.mp hl) po N1 ();exact⟨U2,by dsimp[kh,bools,e],k⟩)
  rw[<- He.I0 po zf.cn zf.pm c3 (λz=>qb z o) (λz _=>HC),<- qf]at e14;obtain⟨S14,hS14⟩:∃S14,S14=T1++[O.lst<|((Su.sm fs).map Prod.fst).map nP]:=⟨_,rfl⟩;rw[<- hS14]at e14;have k1314:lA S12 S14:=by rw[hS14];exact(k13.trans k14).lay
  have q14:wM true (.ref S11.length) (.ref T1.length) S14=.ok (.bl false) S14:=B8 (XH (k1314.lst _ _ (λz=>z) l12)<|by rw[hS14];exact jX);have kk:=(((k7.trans k810).trans k11).trans k12).trans k1314;obtain⟨x,S15,e15,x0,x1,b15,k15⟩:=digit (m:=9) (b6.kp kk λz=>z) ⋯ ⋯;obtain⟨y,S16,e16,y0,y1,b16,k16⟩:=digit (m:=9) b15 ⋯ ⋯;obtain⟨u,S17,e17,u0,u1,b17,k17⟩:=digit (m:=9) b16 ⋯ ⋯;obtain⟨P1,hP1⟩:∃P1:Pl,P1=[(x-4,1+y),(5,-1-u)]:=⟨_,rfl⟩;obtain⟨P2,hP2⟩:∃P2:Pl,P2=[(-5,-1-u),(-(x-4),1+y)]:=⟨_,rfl⟩;obtain⟨S18,hS18⟩:∃S18,S18=S17++[O.lst [.tup [.int<|x-4,.int<|1+y],.tup [.int 5,.int<|-1-u]]]:=⟨_,rfl⟩;have k18:lA S17 S18:=by rw[hS18];exact Kp.refl.lay
  have l18:jK S18 S17.length=some (Po.pl P1):=by rw[hS18,hP1];exact jX
  have cr:=FA (l:=P1) (n:=S17.length) (cap:=[]) (src:=VN<|jI 7) (e:=mW<|jH (jT aSub (eC<|.int 0)<|jI 0)<|jH (jI 1) jR) (τ:=[.frz<|ns.map .int,.int<|0+(i:Int),.ref S.length,.int N,.tup<|o.map .int,.ref D,.ref F,.ref S17.length,a8]) (S:=S18) (S1:=S18) (N8 (by dsimp[kh,bools]) l18) l18 (λp=>Po.pA (0-p.1,p.2)) (λp=>by
   dsimp[kh,bools];exact nI<|show 2<=16777216 by decide)<|by rw[hP1];exact(by decide:2<=16777216)
  have ecr:P1.reverse.map (λp=>Po.pA (0-p.1,p.2))=Po.pl P2:=by
   rw[hP1,hP2];show[A.tup [.int<|0-5,.int<|-1-u],.tup [.int<|0-(x-4),.int<|1+y]]=[A.tup [.int<|-5,.int<|-1-u],.tup [.int<|-(x-4),.int<|1+y]];rw[show(0:Int)-5=-5 by lia,show(0:Int)-(x-4)=-(x-4)by lia]
  rw[ecr]at cr;obtain⟨S19,hS19⟩:∃S19,S19=S18++[O.lst<|Po.pl P2]:=⟨_,rfl⟩;rw[<- hS19]at cr;have k19:lA S18 S19:=by rw[hS19];exact Kp.refl.lay
  have l19:jK S19 S18.length=some (Po.pl P2):=by rw[hS19];exact jX
  obtain⟨S20,hS20⟩:∃S20,S20=S19++[O.lst [.tup [.tup<|o.map .int,.ref S17.length]]]:=⟨_,rfl⟩;have k20:lA S19 S20:=by rw[hS20];exact Kp.refl.lay
  have l20:jK S20 S19.length=some [.tup [.tup<|o.map .int,.ref S17.length]]:=by rw[hS20];exact jX
  have A20:Sn N 60 (10 ^ 20) S20 S19.length [(o,P1)]:=F0 po (by rw[hP1];exact YI () () ()) (by rw[hP1];simp) (by rw[hP1];exact NH () () () ()) l20<|(k19.trans k20).lst _ _ (λz=>z) l18;obtain⟨G,S21,e21,A21,k21⟩:=A20.tu N6 N1 ⋯ O5;rw[hP1,He.XQ po r1 r2 (show x-4<5 by lia)<|show 1+y≠0 by lia,<- hP2]at A21;obtain⟨zg,gs,sg,qg⟩:=A21;have kb:Kp (·=S.length) S6 S21:=(kk.of0.trans<|(k15.trans k16).trans k17).trans (((k18.trans k19).trans k20).trans k21).of0;have bS:S.length<S6.length:=b6.lt;have sd21:Sm S21 D ds:=⟨(((k15.trans k16).trans k17).trans (((k18.trans k19).trans k20).trans k21).of0).lst _ _ ()<|(k810.trans<|(k11.trans k12).trans k1314).lst _ _ (λz=>z) sd.l,λe he=>(((k15.trans k16).trans k17).trans (((k18.trans k19).trans k20).trans k21).of0).lst _ _ (by have:=rd e he;lia)<|(k810.trans<|(k11.trans k12).trans k1314).lst _ _ (λz=>z)<|sd.a e he⟩;have zd:Sz N 25 (5 ^ 25) (Su.sm ds):=by
   rw[qd];exact((He.Iz N).A_ va).mono () (by rw[Nat.mul_one];exact dN ⋯ wl)
  have l21:=(k20.trans k21).lst _ _ (λz=>z) l19;obtain⟨H,S22,hs,e22,s22,q22,_,k22⟩:=GQ (S:=S21) (Q:=60) (c:=10 ^ 20) N6 sd21 zd l21 (by rw[hP2];exact NH () () () ()) (by rw[hP2];exact(by decide:2<=121)) ⋯ (Ez ⋯) O5;have q23:wM true (.ref G) (.ref H) S22=.ok (.bl false) S22:=B8 (PJ (sg.kp k22) s22<|by rw[qg,q22,qd]);unfold J2;dsimp[kh,bools,e1,hv,e3,<- hN,e4];rw[hif];dsimp[kh,bools,e6,e7,g1,g2,g1',g2',l1];rw[<- hS8];dsimp[kh,bools,e9,e10,cV,w10,g2,g2',<- hS11,in11];rw[show kJ [none,none] (mH<|jI 6) _ _ _ _ _=_ from ky];dsimp[kh,bools];rw[e14];dsimp[kh,bools,q14,e15,e16,e17,g2,g2',<- hS18];rw[show kJ [none,none] (VN<|jI 7) _ _ _ _ _=_ from cr];dsimp[kh,bools,g2,g1,g1',g2',<- hS20,e21,e22,q23];exact⟨_,_,rfl,_,_,_,_,_,_,_,_,rfl⟩
 ·rintro τ S ⟨a1,a2,a3,a4,a5,a6,a7,a8,rfl⟩;dsimp[kh,bools];exact⟨_,rfl⟩
end K31
namespace K31
open PySem L2 Am
def all_mk{l:PySem.W.OpenLaw}{w:ah}{K:au}{h:aq}{mg:Str->bd}{fa:ak}(X:K.In h)(G:h.Ns mainGlobals mg)(hfa:mg "law" = some (.ref fa))
  (a1:Df K "is_whole" xr)
  (a2:Df K "need_pair" vC)
  (a3:Df K "back" Ji)
  (a4:Df K "is_exchange" sL)
  (a5:Df K "exchanged_places" oO)
  (a6:Df K "exchanged" vd)
  (a7:Df K "falls" Fi)
  (a8:Df K "as_polynomial" qE)
  (a9:Df K "plus" HG)
  (a10:Df K "times" Ed)
  (a11:Df K "turned" Cv)
  (a12:Df K "put_before" uI)
  (a13:Df K "as_sum" Cs)
  (a14:Df K "need_like" vg)
  (a15:Df K "added" EH)
  (a16:Df K "scaled" BF)
  (a17:Df K "by_exchange" sJ)
  (a18:Df K "first_word" uO)
  (a19:Df K "turned_order" oS)
  (a20:Df K "turning" yV)
  (a21:Df K "_law_bag" zk)
  (a22:Df K "_law_digit" u5)
  (a23:Df K "_law_own_poly" rE)
  (a24:Df K "_law_own_plus" rQ)
  (a25:Df K "_law_own_times" qB)
  (a26:Df K "_law_order" vJ)
  (a27:Df K "_law_is_poly" sX)
  (a28:Df K "_law_is_sum" uK)
  (a29:Df K "_law_own_added" qu)
  (a30:Df K "_law_own_sum" sV)
  (a31:Df K "_law_own_exchange" oK)
  (a32:Df K "_law_word" xH)
  (a33:Df K "_law_own_scaled" pS)
  (a34:Df K "_law_own_both" rm)
  (a35:Df K "_law_due" yU)
  (a36:Df K "_law_is_under" rj)
  (a37:Df K "_law_all" yS)
  (a38:Df K "law" Nt)
  (acR:PySem.W.nsIn K mainGlobals "isinstance" = some none)
  (acS:PySem.W.nsIn K mainGlobals "bool" = some none)
  (acT:PySem.W.nsIn K mainGlobals "int" = some none)
  (acU:PySem.W.nsIn K mainGlobals "len" = some none)
  (acV:PySem.W.nsIn K mainGlobals "enumerate" = some none)
  (acW:PySem.W.nsIn K mainGlobals "tuple" = some none)
  (acX:PySem.W.nsIn K mainGlobals "list" = some none)
  (acY:PySem.W.nsIn K mainGlobals "range" = some none)
  (acZ:PySem.W.nsIn K mainGlobals "sorted" = some none)
  (ac0:PySem.W.nsIn K mainGlobals "dict" = some none)
  (ac1:PySem.W.nsIn K mainGlobals "reversed" = some none)
  (ac2:PySem.W.nsIn K mainGlobals "all" = some none)
  (ac4:PySem.W.nsIn K mainGlobals "zip" = some none)
  (ac5:PySem.W.nsIn K mainGlobals "max" = some none)
  (ac6:PySem.W.nsIn K mainGlobals "min" = some none)
  {a_AT_A_FALL:ak} (ac7:PySem.W.nsIn K mainGlobals "AT_A_FALL" = some (some<|.ref a_AT_A_FALL)) (kp_AT_A_FALL:Sj K a_AT_A_FALL=some [((-1:Int),(1:Int)),((1:Int),(-1:Int))])
  {a_LESS_BACK:ak} (ac8:PySem.W.nsIn K mainGlobals "LESS_BACK" = some (some<|.ref a_LESS_BACK)) (kp_LESS_BACK:Sj K a_LESS_BACK=some [((-1:Int),(-1:Int)),((1:Int),(1:Int))])
  : ∃fd:FuncData,(∀(s:aA) (v:af),BindsTo s fd ⟨[v],[]⟩ [("_law_script",v)])/\∀base:aq,K.In base->base.Ns mainGlobals mg->FnOk l.prog w K mg base qm 33 fa fd ["_law_script"] (qR K 1 Dk):=by
 obtain⟨f,fd,a,F⟩:=a38;have e:=hfa.symm.trans (je X G a)
 cases e
 have aa2:=bY X G acR;have aba:=bY X G acS;have aa7:=bY X G acT;have aae:=bY X G acU;have abo:=bY X G acV;have aaE:=bY X G acW;have aaF:=bY X G acX;have aar:=bY X G acY;have aaK:=bY X G acZ;have abM:=bY X G ac0;have abc:=bY X G ac1;have acf:=bY X G ac2;have acB:=bY X G ac4;have acG:=bY X G ac5;have acI:=bY X G ac6;have h_AT_A_FALL:∃a,mg "AT_A_FALL" = some (.ref a)/\Sj K a=some [((-1:Int),(1:Int)),((1:Int),(-1:Int))]:=⟨a_AT_A_FALL,je X G ac7,kp_AT_A_FALL⟩;have h_LESS_BACK:∃a,mg "LESS_BACK" = some (.ref a)/\Sj K a=some [((-1:Int),(-1:Int)),((1:Int),(1:Int))]:=⟨a_LESS_BACK,je X G ac8,kp_LESS_BACK⟩;refine⟨fd,λs v=>(by obtain⟨_,_,_,_,_,_,_,_,_,rfl,_,_⟩:=F.ex;exact .of_eq rfl),λbase _ _=>?_⟩;have E:En l.prog w K mg base:=⟨h,X,G⟩;have abu:=a1.kA E (λF=>FI F aa2 aba aa7)<|JX λ_ _ _ _ _ _ _=>rfl;have abT:=a2.kA E (λF=>Ej F aae)<|Cz λ_ _ _ _ _ _ _ _=>rfl;have abX:=a3.kA E (λF=>Uk F aae abo aaE)<|JX λ_ _ _ _ _ _ _=>rfl;have abE:=a4.kA E (λF=>BZ F abu)<|Cz λ_ _ _ _ _ _ _ _=>rfl;have abL:=a5.kA E (λF=>wO F aaF aaE)<|us3 λ_ _ _ _ _ _ _ _ _=>rfl;have aa6:=a6.kA E (λF=>El F aae abE abL)<|Cz λ_ _ _ _ _ _ _ _=>rfl;have aa9:=a7.kA E (λF=>Qg F aar aae)<|JX λ_ _ _ _ _ _ _=>rfl;have abb:=a8.kA E (λF=>zA F aaK)<|JX λ_ _ _ _ _ _ _=>rfl;have abP:=a9.kA E (λF=>Vf F abM abb)<|Cz λ_ _ _ _ _ _ _ _=>rfl;have aa8:=a10.kA E (λF=>O4 F abb)<|Cz λ_ _ _ _ _ _ _ _=>rfl;have ace:=a11.kA E (λF=>Mj F abc)<|JX λ_ _ _ _ _ _ _=>rfl;have aa3:=a12.kA E (λF=>CF F abP)<|us3 λ_ _ _ _ _ _ _ _ _=>rfl;have aa5:=a13.kA E (λF=>Mx F aaK)<|JX λ_ _ _ _ _ _ _=>rfl;have abU:=a14.kA E (λF=>DU F abT)<|Cz λ_ _ _ _ _ _ _ _=>rfl;have abe:=a15.kA E (λF=>Q6 F abU aa3 aa5)<|Cz λ_ _ _ _ _ _ _ _=>rfl;have abg:=a16.kA E (λF=>Na F aa3 aa8 aa5)<|Cz λ_ _ _ _ _ _ _ _=>rfl;have abh:=a17.kA E (λF=>Co F aaF h_AT_A_FALL aa3 aa6 aa9 aa8 aa5)<|Cz λ_ _ _ _ _ _ _ _=>rfl;have abd:=a18.kA E (λF=>CJ F abX aa9 aa6)<|JX λ_ _ _ _ _ _ _=>rfl;have ab1:=a19.rA E (λF hm hk hb=>tW F aaF h_LESS_BACK abd aa6 abe abg abh hm hk hb 26)<|Cz λ_ _ _ _ _ _ _ _=>rfl;have abn:=a20.kA E (λF=>IM F ab1 aa3 aa8 ace aa5)<|JX λ_ _ _ _ _ _ _=>rfl;have acJ:=a21.kA E (λF=>Jj F aae)<|Cz λ_ _ _ _ _ _ _ _=>rfl;have aa4:=a22.kA E (λF=>E7 F)<|Cz λ_ _ _ _ _ _ _ _=>rfl;have abi:=a23.kA E (λF=>Ad F aaK)<|JX λ_ _ _ _ _ _ _=>rfl;have acj:=a24.kA E (λF=>Ai F abi)<|Cz λ_ _ _ _ _ _ _ _=>rfl;have abj:=a25.kA E (λF=>zD F abi)<|Cz λ_ _ _ _ _ _ _ _=>rfl;have acK:=a26.kA E (λF=>Ff F aaF aar aae aaE aa4)<|Cz λ_ _ _ _ _ _ _ _=>rfl;have aci:=a27.kA E (λF=>A5 F aa2 aaF aae aaE aba aa7 acf aar)<|JX λ_ _ _ _ _ _ _=>rfl;have acN:=a28.kA E (λF=>CH F aa2 aaF aaE aae aci)<|JX λ_ _ _ _ _ _ _=>rfl;have aa_:=a29.kA E (λF=>yL F acj)<|us3 λ_ _ _ _ _ _ _ _ _=>rfl;have abk:=a30.kA E (λF=>Cc F aaK)<|JX λ_ _ _ _ _ _ _=>rfl;have acu:=a31.kA E (λF=>wN F aa_ abj abk)<|Cz λ_ _ _ _ _ _ _ _=>rfl;have acM:=a32.kA E (λF=>Gh F aar aae aa4)<|Cz λ_ _ _ _ _ _ _ _=>rfl;have abl:=a33.kA E (λF=>yk F abj)<|Cz λ_ _ _ _ _ _ _ _=>rfl;have acq:=a34.kA E (λF=>Af F aa_ abk)<|Cz λ_ _ _ _ _ _ _ _=>rfl;have acL:=a35.kA E (λF=>Jk F aaE aar acq abl acu)<|Cz λ_ _ _ _ _ _ _ _=>rfl;have acP:=a36.kA E (λF=>Aa F aar aae acB aaK)<|Cz λ_ _ _ _ _ _ _ _=>rfl;have acO:=a37.kA E (λF=>HU F aar)<|JX λ_ _ _ _ _ _ _=>rfl;exact Xo F aar acG acI aae aa7 aaE abc acJ aa4 acK acL acM abn acN acO acP abl
def walk{l:PySem.W.OpenLaw}{q:aj}{XP:(Str->bd)->aq->Prop}{YP:ah->aq->Prop}{d:DefRec}{K:Params->au}(hn:l.most=some 63)(hdf:d.params.defaults=[])
  (hY:∀(w:ah) (h:aq),YP w h->(K w.params).In h)
  (F:∀(w:ah) (mg:Str->bd) (fa:ak) (h:aq),(K w.params).In h->h.Ns mainGlobals mg->mg d.name=some (.ref fa) ->
   ∃fd:FuncData,(∀(s:aA) (u:af),BindsTo s fd ⟨[u],[]⟩ [("_law_script",u)])/\∀base:aq,(K w.params).In base->base.Ns mainGlobals mg->FnOk l.prog w (K w.params) mg base qm 33 fa fd ["_law_script"] (qR (K w.params) 1 Dk)) :
  PySem.W.WalkO q loose XP YP l.row.toRowW d [] (λf vs=>PySem.call f vs):=
 L2.U8 (n:=63) (k:=33) (x := "_law_script") (CX:=λ_=>qm) (sp:=λw=>qR (K w.params) 1 Dk) hn ⋯ hdf ⟨rfl,by decide,by decide⟩ hY F (λ_ H a ns hl hO hS=>MY hO hS<|Xn ns hl) λ_ _ _ _ _ z=>z
end K31
open PySem PySem.W PyProof.Rows
namespace PySem.W.Fast
def tw13227594385549214709:=Nat
def tw16654268864935095449:=Nat
def tw6820276143359802581:=Nat
def tw7205343086177976946:=Nat
def tw3131636093910882324:=Nat
def tw7600358348090942024:=Nat
def tw10376743991844661454:=Nat
def tw10203055834192029555:=Nat
def tw4222454854100458294:=Nat
def tw3050930264234615401:=Nat
def tw12678229927043689645:=Nat
def tw12899016733199360502:=Nat
def tw4190453329759231827:=Nat
def tw4008116945684379839:=Nat
def tw2670297199381204709:=Nat
def tw4617538792739605728:=Nat
def tw6444242661519840408:=Nat
def tw8326882784207018593:=Nat
def tw7846825133977828546:=Nat
def tw7974387350698340783:=Nat
def tw1408220401110364272:=Nat
def tw11677115507759024493:=Nat
def tw15330533007567521264:=Nat
def tw15924931271039194480:=Nat
def tw6066182529848909982:=Nat
def tw8881098283770027514:=Nat
def tw17999541551304575814:=Nat
def tw1531952646548507599:=Nat
def tw4409457035847421822:=Nat
def tw2219509898656205192:=Nat
def tw7056744525554388173:=Nat
def tw8709189522975814562:=Nat
def tw7286413467265199134:=Nat
def tw10538707062089707990:=Nat
def tw698766883821417290:=Nat
def tw9507033365692086962:=Nat
def tw3361509408568071088:=Nat
def tw1775955081254835732:=Nat
def tw14321017967908622477:=Nat
def tw4726687759924516106:=Nat
def tw17811747946229024664:=Nat
def tw13348154213346859458:=Nat
def tw17299863092022058186:=Nat
def tw16324534385536501235:=Nat
def tw12165426609697998671:=Nat
def tw3716749902328841175:=Nat
def tw4115071830914898314:=Nat
def tw3017661813845071418:=Nat
def tw6059021530800839768:=Nat
def tw7889605892871426315:=Nat
def tw13800277205044438325:=Nat
def tw15773675245229827441:=Nat
def tw9801502709390769702:=Nat
def tw14965615835291961391:=Nat
def tw18321857989354482259:=Nat
def tw577434660566384185:=Nat
def tw5679793024959297330:=Nat
def tw1027649760626456841:=Nat
def tw2730420472624966539:=Nat
def tw16503137278785656445:=Nat
def tw7994744903213833129:=Nat
def tw16577368204837991002:=Nat
def tw10097431094117110415:=Nat
def tw627183625307339578:=Nat
def tw8391980143391643733:=Nat
def tw13494810440877835312:=Nat
def tw3962211056911213039:=Nat
def tw3521579294796201444:=Nat
def tw9904104048034191818:=Nat
def tw16261276501668165736:=Nat
def tw5121796669140267632:=Nat
def tw12029154131497871733:=Nat
def tw13144196049718462908:=Nat
def tw2084423261910001262:=Nat
def tw14724767734856037830:=Nat
def tw8195288430639248646:=Nat
def tw12886488165689773633:=Nat
def tw11220796607296014590:=Nat
def tw4085557558728015829:=Nat
def tw5505626319270552906:=Nat
def tw18199147946471418034:=Nat
def tw13396185321682407716:=Nat
def tw15931888237180410148:=Nat
def tw17018059080776528763:=Nat
def tw865733857035578434:=Nat
def tw16891916286110887756:=Nat
def tw9445191835805366741:=Nat
def tw6518849427535046928:=Nat
def tw3737317265733566625:=Nat
def tw4440825073793142544:=Nat
def tw1463651971144964137:=Nat
def tw2853540057268265947:=Nat
def tw13241497860161569693:=Nat
def tw13578552920578847943:=Nat
def tw17559414459181850469:=Nat
def tw7564236635414276944:=Nat
def tw18056533957341525011:=Nat
def tw15621799512749526263:=Nat
def tw14650644785680257550:=Nat
def tw16993497437611320621:=Nat
def tw8620008061475428539:=Nat
def tw5844810096370628403:=Nat
def tw7310042072955368239:=Nat
def tw16207030008504564324:=Nat
def tw696625572375506049:=Nat
def tw11177432468336366064:=Nat
def tw8904128377803975692:=Nat
def tw9730506259982090785:=Nat
def tw1421033915200277647:=Nat
def tw5547165945788188346:=Nat
def tw5530734269340808210:=Nat
def tw9189998166798277044:=Nat
def tw1467037177740448864:=Nat
def tw9242463416969842311:=Nat
def tw11323504600748393476:=Nat
def tw9823146573718726892:=Nat
def tw10560632360656693113:=Nat
def tw14693875062283510981:=Nat
def tw12568275886368643308:=Nat
def tw9496189356158812104:=Nat
def tw7293159632641559450:=Nat
def tw8444630013030833486:=Nat
def tw4382519943871723594:=Nat
def tw12669410919479086212:=Nat
def tw7201475126087204461:=Nat
def tw3659835588516748236:=Nat
def tw744908831147173625:=Nat
def tw9626394052591494373:=Nat
def tw1538608612241541087:=Nat
def tw5481609610959342385:=Nat
def tw12037778387015117164:=Nat
def tw13539415137168857780:=Nat
def tw12136001135157653293:=Nat
def tw855739330049766075:=Nat
def tw11410765063808077442:=Nat
def tw2670761810108612444:=Nat
def tw12735997720872904029:=Nat
def tw15786223109509305829:=Nat
def tw11767075280499365386:=Nat
def tw2190531596419770545:=Nat
end PySem.W.Fast
set_option maxRecDepth 100000 in
set_option maxHeartbeats 0 in
theorem PySem.Challenge.cw_undercells_k31_turning_by_any_word_holds : PySem.Challenge.rw_undercells_k31_turning_by_any_word.Holds := by
 w_on;o_law;k_head;(case hw=>w_witness2)
 k_fill
 refine K31.walk (l:=PySem.Challenge.rw_undercells_k31_turning_by_any_word) rfl rfl (fun w h Y=>PySem.W.kIn_of Y) ?F
 case F=>
  intro w mg fa h KX G hmg;refine' K31.all_mk KX G hmg (.of ?_ ?_ ?_ ?_) (.of ?_ ?_ ?_ ?_) (.of ?_ ?_ ?_ ?_) (.of ?_ ?_ ?_ ?_) (.of ?_ ?_ ?_ ?_) (.of ?_ ?_ ?_ ?_) (.of ?_ ?_ ?_ ?_) (.of ?_ ?_ ?_ ?_) (.of ?_ ?_ ?_ ?_) (.of ?_ ?_ ?_ ?_) (.of ?_ ?_ ?_ ?_) (.of ?_ ?_ ?_ ?_) (.of ?_ ?_ ?_ ?_) (.of ?_ ?_ ?_ ?_) (.of ?_ ?_ ?_ ?_) (.of ?_ ?_ ?_ ?_) (.of ?_ ?_ ?_ ?_) (.of ?_ ?_ ?_ ?_) (.of ?_ ?_ ?_ ?_) (.of ?_ ?_ ?_ ?_) (.of ?_ ?_ ?_ ?_) (.of ?_ ?_ ?_ ?_) (.of ?_ ?_ ?_ ?_) (.of ?_ ?_ ?_ ?_) (.of ?_ ?_ ?_ ?_) (.of ?_ ?_ ?_ ?_) (.of ?_ ?_ ?_ ?_) (.of ?_ ?_ ?_ ?_) (.of ?_ ?_ ?_ ?_) (.of ?_ ?_ ?_ ?_) (.of ?_ ?_ ?_ ?_) (.of ?_ ?_ ?_ ?_) (.of ?_ ?_ ?_ ?_) (.of ?_ ?_ ?_ ?_) (.of ?_ ?_ ?_ ?_) (.of ?_ ?_ ?_ ?_) (.of ?_ ?_ ?_ ?_) (.of ?_ ?_ ?_ ?_) ?_ ?_ ?_ ?_ ?_ ?_ ?_ ?_ ?_ ?_ ?_ ?_ ?_ ?_ ?_ ?_ ?_ ?_ ?_
  any_goals first|k_is|kernel_rfl
