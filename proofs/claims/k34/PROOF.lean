import PyProof.Rows.All
import Wide.All
import OpenK.AllK
import Wide.FinOn
import Lean
import PyProof.EqAt
import PyProof.EqKinds
import PyProof.TupleCall
import PySem.Challenge.RW_undercells_k34_rests_are_what_the_turnin
set_option autoImplicit true
set_option relaxedAutoImplicit true
set_option Elab.async false
set_option linter.all false
set_option maxRecDepth 100000
set_option compiler.extract_closed false
set_option genInjectivity false
set_option genSizeOf false
set_option maxHeartbeats 4000000
local macro_rules|`($a<|>$b)=>`(autoParam $a $b)
local macro_rules|`(command|abbrev $n:declId $s:optDeclSig $v:declVal)=>`(command|noncomputable def $n:declId $s:optDeclSig $v:declVal)|`(command|meta abbrev $n:declId $s:optDeclSig $v:declVal)=>`(command|@[reducible]noncomputable def $n:declId $s:optDeclSig $v:declVal)
local macro_rules|`(∅)=>`(by decide +kernel)
local macro_rules|`(⋯)=>`(by decide)
local macro_rules|`(tactic|dsimp[$l,*])=>`(tactic|simp only[$l,*])|`(tactic|dsimp[$l,*]$o:location)=>`(tactic|simp only[$l,*]$o:location)
local macro_rules(kind:=Lean.Parser.Term.structInst)|`({})=>`({cls:=.type "list",data:=.seq ([]:List PySem.Value).toArray})
set_option hygiene false
local macro_rules|`(tactic|z_go)=>`(tactic|obtain⟨ρ,S,τ,R,r,h⟩:=h9)
local macro_rules|`(tactic|x_go)=>`(tactic|obtain⟨ρ,S,a,b,R,va,vb,h⟩:=h9)
local macro_rules|`(tactic|w_up)=>`(tactic|intro X hP hw hK hc i pins s σ H E I hf st hg)
local macro_rules|`(tactic|k_ne)=>`(tactic|intro pins s σ H xs us Q I r h)
local macro_rules|`(tactic|kd_p)=>`(tactic|intro pins s σ H Q I h)
local macro_rules|`(tactic|gp_on)=>`(tactic|intro pins s σ H x y v u Q I rx ry h)
local macro_rules|`(tactic|kj_on)=>`(tactic|obtain⟨f0,f1,f2,f3,f4,f5⟩:=hf it (by simp))
local macro_rules|`(tactic|kcf_m)=>`(tactic|obtain⟨w,rfl,ρ,S,x,R,hv,h⟩:=VD h0)
local macro_rules|`(tactic|kcj_m)=>`(tactic|obtain⟨xs,hn,h⟩:=j5 h)
local macro_rules|`(tactic|kpc_g)=>`(tactic|obtain⟨u,rfl,rx⟩:=vals1 r)
local macro_rules|`(tactic|kpf_c)=>`(tactic|exact h3 ρ3 H3 σ ((e1.trans e2).trans e3) R3 (r.ext ((e1.trans e2).trans e3)))
local macro_rules|`(tactic|kst_p)=>`(tactic|intro pins s σ H D I h)
local macro_rules|`(tactic|kln_w)=>`(tactic|exact I1.Gx (aP _) (I1.hok.fresh (aP _)))
local macro_rules|`(tactic|kl_no)=>`(tactic|obtain⟨kvs,hn,h⟩:=j5 h)
local macro_rules|`(tactic|mg_lt)=>`(tactic|refine bh (wpS_lift (d_ ⟨rfl,?_⟩)))
local macro_rules|`(tactic|f_are)=>`(tactic|obtain⟨t,rfl⟩:=rx)
set_option hygiene true
local macro_rules|`(())=>`(by lia)
@[reducible]def ag:=List Int
@[reducible]def ar:=List Nat
@[reducible]def ba:=List PySem.Str
@[reducible]def bb:=List PySem.Value
@[reducible]def bd:=List PySem.Addr
@[reducible]def bi:=Option PySem.Value
@[reducible]def bj:=Option Int
@[reducible]def bn:=Option Bool
@[reducible]def bo:=Option Nat
@[reducible]def bp:=List<|PySem.Addr×PySem.Obj
def aG:=@PySem.wpAny_bind
def aH:=@List.getElem?_eq_getElem
def aI:=@List.length_map
def aJ:=@if_neg
def aK:=@List.mem_cons_self
def aL:=@List.getD_eq_getElem?_getD
def aM:=@if_pos
def aN:=@List.getElem?_eq_some_iff
def aO:=@List.mem_cons_of_mem
def aP:=@Nat.le_refl
def aQ:=@PySem.wpAny_pure
def aR:=@PySem.Heap.get?_push_of_some
def aS:=@List.mem_singleton
def aV:=@List.length_append
def aW:=@decide_eq_true
def aX:=@List.getElem?_map
def aY:=@List.mem_of_getElem?
def aZ:=@Option.some.inj
def a_:=@Bool.false_eq_true
def bg:=@Option.map_eq_some_iff
def bh:=@PyProof.Rows.wpS_bind
def bq:=@decide_eq_false
def br:=@List.size_toArray
def bu:=@List.length_cons
def bz:=@PySem.Heap.get?_push_size
def bA:=@PySem.Heap.lt_size
def bB:=@List.mem_cons
def bC:=@PyProof.Rows.wpS_pure
def bD:=@Nat.ne_of_lt
def bE:=@List.length_take
def bF:=@List.getElem?_append_left
def bG:=@List.mem_append
def bH:=@Nat.le_trans
def bI:=@List.mem_map
def bJ:=@List.getElem?_set_self
def bK:=@List.map_map
def bL:=@List.map_cons
def bM:=@List.append_assoc
def bN:=@of_decide_eq_true
def bO:=@PySem.PassesOwn.never
def bP:=@List.getElem?_set_ne
def bQ:=@List.getElem?_eq_none
def bR:=@Bool.false_ne_true
def bS:=@beq_self_eq_true
def bU:=@if_false
def bV:=@List.pairwise_cons
def bW:=@List.length_set
def bX:=@List.length_nil
def bY:=@Nat.zero_le
def bZ:=@List.map_append
def b6:=@Nat.lt_of_lt_of_le
def b_:=@Bool.not_true
def cg:=@List.pairwise_singleton
def ck:=@Option.bind_eq_some_iff
def cu:=@List.mem_append_right
def cA:=@PySem.wpAny_newObj_type
def cB:=@List.length_drop
def cC:=@List.find?_cons
def cD:=@List.mem_filter
def cE:=@PySem.W.mg_none_of
def cF:=@Nat.zero_add
def cG:=@List.pairwise_append
def cH:=@Nat.mul_le_mul_right
def cI:=@List.length_range
def cJ:=@List.ext_getElem?
def cK:=@if_true
def cL:=@Int.zero_add
def cM:=@List.drop_eq_getElem_cons
def cN:=@PySem.wpAny_call_entry
def cO:=@List.pairwise_map
def cP:=@Bool.not_false
def cQ:=@List.mem_of_mem_take
def cR:=@List.foldl_append
def cT:=@PySem.AutoSeq1.wpAny_loadPart'
def cU:=@PySem.F.slot_dict_get
def cV:=@beq_eq_false_iff_ne
def cW:=@Array.length_toList
def cX:=@PyProof.Rows.wpS_forRange
def cY:=@Int.add_zero
def cZ:=@List.append_nil
def c5:=@List.nodup_cons
def c6:=@List.getElem?_append_right
def c7:=@Int.toNat_natCast
def c8:=@List.nodup_append
def c9:=@Ne.symm
def c_:=@of_decide_eq_false
def dc:=@PySem.F.slot_dict_keyiterator_next
def dg:=@Nat.lt_of_le_of_lt
def dh:=@PySem.W.kia_one
def di:=@List.getElem_map
def dj:=@List.map_congr_left
def dm:=@PySem.wpAny_callSpecial?_slot
def dw:=@PySem.wpAny_holding
def dz:=@Option.map_some
def dB:=@List.getElem_inj
def dD:=@List.countP_cons
def dF:=@List.pairwise_iff_getElem
def dG:=@List.replicate_succ
def dH:=@List.getElem?_range
def dI:=@PySem.wpAny_truthy_bool
def dJ:=@PySem.sizeLine_eq
def dM:=@List.take_add_one
def dN:=@List.length_singleton
def dO:=@List.set_append_right
def dP:=@List.mem_range
def dQ:=@congrArg
def dR:=@List.nodup_nil
def dS:=@List.foldl_cons
def dU:=@List.take_length
def dW:=@List.forall_mem_cons
def dX:=@List.mem_reverse
def dY:=@Nat.pow_le_pow_right
def dZ:=@PyProof.Rows.callWith_type1
def d7:=@Array.getElem?_toList
def d8:=@List.getElem?_toArray
def d9:=@PySem.F.type_dict_get
def d_:=@PySem.wpAny_rule
def ef:=@List.getElem_range
def eg:=@List.getElem_mem
def eo:=@List.getElem?_take_of_lt
def eB:=@List.Perm.eq_of_pairwise
def eE:=@PySem.Around.under_plainId
def eF:=@PySem.wpAny_typeNameOfWhole_keyiter
def eG:=@Nat.mul_le_mul
def eK:=@List.flatten_cons
def eL:=@List.length_eq_zero_iff
def eN:=@decide_eq_true_eq
def eO:=@List.reverse_cons
def eS:=@Nat.not_lt_zero
def eT:=@PyProof.Rows.wpS_mono
def eU:=@List.take_of_length_le
def eV:=@Option.getD_some
def eW:=@Nat.lt_succ_self
def eX:=@List.prefix_refl
def eY:=@PySem.F.slot_tuple_iterator_next
def eZ:=@PySem.Obj.data_mapFields
def e_:=@List.prefix_append
def ff:=@List.Perm.refl
def fh:=@Option.isSome_none
def fj:=@List.take_append_drop
def fm:=@PySem.wpAny_passesOwn
def fq:=@PySem.codeAny_builtin
def fu:=@PySem.wpAny_specialOf
def fy:=@List.mem_append_left
def fB:=@PySem.wpAny_field
def fC:=@Nat.succ_mul
def fF:=@List.mem_of_mem_drop
def fG:=@List.reverse_reverse
def fH:=@Nat.one_mul
def fJ:=@Option.isSome_iff_exists
def fK:=@PySem.wpAny_typeNameOf_keyiter
def fL:=@List.idxOf_lt_length_iff
def fM:=@PyProof.Rows.slot_tuple_getitem
def fN:=@PySem.mem_of_lookup
def fO:=@PySem.Heap.SameBut.update
def fP:=@List.mem_map_of_mem
def fQ:=@List.length_reverse
def fR:=@Bool.and_eq_true
def fS:=@PySem.wpAny_seqItems
def fV:=@List.getElem?_cons_succ
def fW:=@List.mem_flatMap
def fX:=@Option.bind_some
def fY:=@PySem.wpAny_typeOf
def fZ:=@PySem.tupleKind_room_in1
def f6:=@PyProof.Rows.wpS_modify
def f7:=@List.getElem?_drop
def f9:=@Nat.sub_self
def f_:=@Nat.min_eq_left
def gb:=@Nat.lt_irrefl
def gc:=@List.any_cons
def gf:=@Nat.add_assoc
def gg:=@PySem.W.mg_of
def gh:=@PySem.Heap.get?_update_self
def gp:=@PySem.builtinLookup_eq_fast
def gq:=@List.length_filter_le
def gr:=@Array.toList_push
def gu:=@Nat.lt_succ_of_lt
def gv:=@PySem.Heap.size_push
def gw:=@List.range_eq_range'
def gz:=@PySem.isSubtype_type
def gA:=@List.getElem?_of_mem
def gB:=@List.take_zero
def gC:=@List.lookup_cons
def gD:=@PySem.wpAny_isInstance
def gE:=@List.any_eq_true
def gF:=@List.cons_append
def gG:=@decide_eq_decide
def gH:=@List.mem_of_find?_eq_some
def gI:=@PySem.F.args_dict_keyiterator_next_1
def gJ:=@PySem.F.args_tuple_add_2
def gK:=@Bool.false_or
def gM:=@PySem.F.entry_dict_keyiterator_next
def gO:=@PySem.F.slot_list_getattribute
def gP:=@PySem.F.slot_list_append
def gQ:=@PySem.F.type_list_append
def gR:=@List.Pairwise.imp_of_mem
def gS:=@List.sum_cons
def gT:=@PySem.wpAny_pyIter_tuple
def gU:=@List.find?_eq_none
def gW:=@Int.emod_lt_of_pos
def gY:=@List.getElem?_replicate
def gZ:=@PySem.F.entry_tuple_add
def g_:=@PySem.F.args_dict_get_3
def h_:=@Int.le_refl
def ie:=@PySem.F.slot_tuple_add
def ig:=@List.map_nil
def ir:=@List.pairwise_lt_range
def iu:=@PySem.wpAny_setField
def iy:=@Option.isSome_map
def iz:=@Nat.lt_trans
def iA:=@PySem.F.entry_dict_get
def iB:=@PySem.F.slot_tuple_hash
def iC:=@PyProof.Rows.wpS_get
def iD:=@List.take_succ_eq_append_getElem
def iE:=@PySem.Heap.get?_push_ne
def iF:=@Array.getElem?_eq_none
def iG:=@Option.map_map
def iH:=@Nat.lt_of_succ_lt_succ
def iI:=@List.map_set
def iJ:=@Nat.pow_succ
def iK:=@List.eraseIdxIfInBounds_toArray
def iL:=@PySem.Obj.isFreed_of_fields
def iM:=@PySem.isSubtype_tuple_tuple
def iN:=@PySem.wpAny_isOneOf_keyiter
def iO:=@PySem.wpAny_notOrdered_dict
def iP:=@List.countP_le_length
def iQ:=@Nat.le_of_not_lt
def iR:=@PySem.wpAny_forIn_list
def iS:=@PySem.Heap.size_update
def iT:=@List.ext_getElem
def iU:=@List.isEmpty_nil
def iV:=@PySem.plainId_quiet
def iW:=@PySem.wpAny_attempt
def iX:=@Int.add_assoc
def iY:=@PySem.F.args_object_init_2
def iZ:=@PySem.wpAny_of_eq
def i6:=@PySem.F.slot_list_reversed
def i7:=@List.mem_iff_getElem
def i9:=@Bool.or_eq_false_iff
def i_:=@PySem.wpAny_execs_nil
def ja:=@Int.le_antisymm
def jb:=@PySem.F.slot_tuple_eq
def jc:=@PySem.typeLookup_type
def jd:=@List.filter_map
def je:=@List.find?_some
def jf:=@Int.emod_nonneg
def jh:=@List.filterMap_cons
def ji:=@PySem.codeAny_mono
def jj:=@PySem.wpAny_mono
def jk:=@Bool.false_and
def jl:=@PySem.wpAny_Call_Name_kw
def jm:=@PySem.call_meets
def jn:=@Option.isSome_some
def jo:=@PySem.wpAny_tupleItemsOf
def jq:=@Array.forIn_toList
def jt:=@List.perm_ext_iff_of_nodup
def ju:=@PySem.wpAny_fieldsOf
def jv:=@List.find?_map
def jw:=@List.getElem_idxOf
def jx:=@Nat.add_sub_cancel
def jy:=@PySem.wpAny_pyIter_list
def jz:=@PySem.Obj.cls_mapFields
def jA:=@PySem.wpAny_dictEntries
def jB:=@List.find?_isSome
def jC:=@PySem.Paired.length
def jD:=@List.zipIdx_cons
def jE:=@List.all_eq_true
def jF:=@List.filter_cons
def jG:=@List.not_mem_nil
def jH:=@Nat.le_of_lt
def jI:=@Int.mul_zero
def jJ:=@List.of_mem_zip
def jK:=@List.nil_append
def jL:=@Array.size_zip
def jM:=@Bool.and_false
def jN:=@Int.natAbs_mul
def jO:=@List.foldl_map
def jP:=@List.map_id
@[reducible]def af:=PySem.Value
@[reducible]def ah:=PySem.World
@[reducible]def aj:=PySem.Program
@[reducible]def ak:=PySem.Addr
@[reducible]def aq:=PySem.Heap
@[reducible]def au:=PySem.W.Frag
@[reducible]def aA:=PySem.Around
@[reducible]def aC:=PySem.Shared
@[reducible]def aE:=PySem.Expr
@[reducible]def aF:=PySem.Stmt
def anI{a b:Prop}(h:a)(k:b):a/\b:=⟨h,k⟩
open Array (size_map)
open Int (one_mul zero_mul)
open List (all_map map_drop map_take)
open Nat (add_comm lt_or_ge ne_of_gt)
open Option (getD_none)
namespace L2
open PySem PySem.Spec PyProof.Rows
meta abbrev Key:=Sum Int Str
abbrev Dm:Key->af->Bool
 | .inl k,v=>Value.isInt k v
 | .inr x,v=>Value.isStrOf x v
abbrev aeC (w:ah):Key->Int
 | .inl k=>hashInt k
 | .inr x=>hashStr w x
def mP:∀{k:Key}{v:af},Dm k v=true->(∃i t,k=Sum.inl i/\v=Value.int i t)\/(∃x t,k=Sum.inr x/\v=Value.str x t)
 | .inl i,v,h=>by
  obtain⟨t,e⟩:=Value.isInt_shape (k:=i) (v:=v) h;exact .inl ⟨i,t,rfl,e⟩
 | .inr x,v,h=>by
  obtain⟨t,e⟩:=Value.isStrOf_shape (x:=x) (v:=v) h;exact .inr ⟨x,t,rfl,e⟩
def Ot(i:Int)(t:Tok):Dm (.inl i) (.int i t)=true:=by simp[Dm,Value.isInt]
def NY(x:Str)(t:Tok):Dm (.inr x) (.str x t)=true:=by simp[Dm,Value.isStrOf]
def YH(a b:Int):decide ((Sum.inl a:Key)=Sum.inl b)=(a == b):=by
 by_cases e:a=b
 ·subst e;simp
 ·have h:¬(Sum.inl a:Key)=Sum.inl b:=λq=>e<|Sum.inl.inj q;rw[bq h];exact(cV.mpr e).symm
def aar(a b:Str):decide ((Sum.inr a:Key)=Sum.inr b)=decide (a=b):=by
 by_cases e:a=b
 ·subst e;simp
 ·have h:¬(Sum.inr a:Key)=Sum.inr b:=λq=>e<|Sum.inr.inj q;rw[bq h,bq e]
def YY(a:Int)(b:Str):decide ((Sum.inl a:Key)=Sum.inr b)=false:=bq λq=>nomatch q
def aat(a:Str)(b:Int):decide ((Sum.inr a:Key)=Sum.inl b)=false:=bq λq=>nomatch q
abbrev k_ (prog:aj)(w:ah):PySem.KeyKind prog w Key where
 is:=Dm
 hash:=aeC w
 inj:=λv a b d c=>by
  rcases mP d with⟨i,t,rfl,rfl⟩|⟨x,t,rfl,rfl⟩
  ·rcases mP c with⟨j,u,rfl,e⟩|⟨y,u,rfl,e⟩
   ·injection e with e1 _;rw[e1]
   ·exact nomatch e
  ·rcases mP c with⟨j,u,rfl,e⟩|⟨y,u,rfl,e⟩
   ·exact nomatch e
   ·injection e with e1 _;rw[e1]
 byValue:=λk v h=>by
  rcases mP h with⟨i,t,rfl,rfl⟩|⟨x,t,rfl,rfl⟩<;>rfl
 pyHash:=λhv h=>by
  rcases mP hv with⟨i,t,rfl,rfl⟩|⟨x,t,rfl,rfl⟩
  ·exact wpAny_pyHash_int h
  ·exact wpAny_pyHash_str h
 eqBool:=λf hv h=>by
  rcases mP f with⟨i,t,rfl,rfl⟩|⟨x,t,rfl,rfl⟩
  ·rcases mP hv with⟨j,u,rfl,rfl⟩|⟨y,u,rfl,rfl⟩
   ·rw[YH]at h;exact wpAny_eqBool_int h
   ·rw[YY]at h;exact SeqAt.EqAt.int_str i t y u _ _ _ _ h
  ·rcases mP hv with⟨j,u,rfl,rfl⟩|⟨y,u,rfl,rfl⟩
   ·rw[aat]at h;exact SeqAt.EqAt.str_int x t j u _ _ _ _ h
   ·rw[aar]at h;exact wpAny_eqBool_str h
 «strs»:=λk x t v h=>by
  rcases mP h with⟨i,u,rfl,e⟩|⟨y,u,rfl,e⟩
  ·exact nomatch e
  ·injection e with e1 _
   subst e1
   cases v<;>rfl
def HN(prog:aj)(w:ah)(i:Int)(t:Tok):(k_ prog w).is (.inl i) (.int i t)=true:=Ot i t
def Ht(prog:aj)(w:ah)(x:Str)(t:Tok):(k_ prog w).is (.inr x) (.str x t)=true:=NY x t
inductive V where
 | non|bl (b:Bool)|int (i:Int)|str (x:Str)|byt (b:Array UInt8)|flt (b:UInt64)|ref (a:ak)|ty (n:String)
 deriving DecidableEq
abbrev RelV:V->af->Prop
 | .non,u=>u=Value.none
 | .bl b,u=>u=Value.bool b
 | .int i,u=>∃t,u=Value.int i t
 | .str x,u=>∃t,u=Value.str x t
 | .byt b,u=>∃t,u=Value.bytes b t
 | .flt b,u=>∃t,u=Value.float b t
 | .ref a,u=>u=Value.ref a
 | .ty n,u=>u=Value.type n
meta abbrev Vals:List V->bb->Prop:=Paired RelV
def Vals.length{xs:List V}{us:bb}(r:Vals xs us):xs.length=us.length:=jC r
theorem Vals.get:∀{xs:List V}{us:bb}{i:Nat}{x:V},Vals xs us->xs[i]?=some x->∃u,us[i]?=some u/\RelV x u
 | _,_,_,_,.nil,e=>by simp at e
 | _,_,0,_,.cons r _,e=>by simp at e;subst e;exact⟨_,rfl,r⟩
 | _,_,i+1,x,.cons _ t,e=>by
  obtain⟨u,h1,h2⟩:=Vals.get (i:=i) (x:=x) t (by simpa using e);exact⟨u,by simpa using h1,h2⟩
theorem Vals.set{x:V}(r:RelV x u):∀{xs:List V}{us:bb}(i:Nat),Vals xs us->Vals (xs.set i x) (us.set i u)
 | _,_,_,.nil=>.nil
 | _,_,0,.cons _ t=>.cons r t
 | _,_,i+1,.cons q t=>.cons q<|Vals.set r i t
theorem Vals.append:∀{xs ys:List V}{us ws:bb},Vals xs us->Vals ys ws->Vals (xs++ys) (us++ws)
 | _,_,_,_,.nil,s=>s
 | _,_,_,_,.cons r t,s=>.cons r<|Vals.append t s
theorem Vals.take:∀{xs:List V}{us:bb}(n:Nat),Vals xs us->Vals (xs.take n) (us.take n)
 | _,_,0,_=>.nil
 | _,_,_+1,.nil=>.nil
 | _,_,n+1,.cons r t=>.cons r<|Vals.take n t
theorem Vals.drop:∀{xs:List V}{us:bb}(n:Nat),Vals xs us->Vals (xs.drop n) (us.drop n)
 | _,_,0,r=>r
 | _,_,_+1,.nil=>.nil
 | _,_,n+1,.cons _ t=>Vals.drop n t
abbrev zS:Option V->bi->Prop
 | some v,some u=>RelV v u
 | none,none=>True
 | _,_=>False
abbrev KV {κ:Type}:List (κ×V)->List (κ×af)->Prop:=Paired λ(p:κ×V) (q:κ×af)=>p.1=q.1/\RelV p.2 q.2
abbrev kV:Key->V
 | .inl i=>.int i
 | .inr x=>.str x
inductive HO where
 | lst (xs:List V)
 | tup (xs:List V)
 | dK (kvs:List<|Key×V)|dT (kvs:List<|List Key×V)
 | set (S:Int->Bool) (n:Nat)
 | ins (C dx:ak) (fs:List<|Str×V)
 | own (x:ak)
 | xd (fs:List<|Str×V)
 | met (f x:ak)
 | rng (lo hi:Int)
 | frz (o:Obj) (u:HO)
 | tbl (ps:Array af)
 | ext (φ:aq->Prop)
meta abbrev Hp:=ak->Option HO
abbrev upd (H:Hp)(a:ak)(o:HO):Hp:=λb=>if b=a then some o else H b
def lE{H:Hp}{a:ak}:upd H a o a=some o:=by unfold upd;rw[aM rfl]
def j8{H:Hp}{a:ak}(h:b≠a):upd H a o b=H b:=by unfold upd;rw[aJ h]
def abI{H:Hp}{a:ak}(h:H a=some o)(h':H b=some u)(d:o≠u):a≠b:=by
 intro e;subst e;rw[h]at h';exact d<|aZ h'
def ko{H:Hp}{a:ak}(h:H a=some o)(h':H b=none):a≠b:=by
 intro e;subst e;rw[h]at h';cases h'
abbrev p_ (h:aq)(a:ak)(items:Array af):Prop:=∃o,h.get? a=some o/\o.cls=.type "tuple" /\ o.dict=none/\∃n,o.data=.seq items n
def p_.tup{a:ak}:p_ h a items->IsTup h a items:=λ⟨o,e,c,_,n,d⟩=>⟨o,e,c,n,d⟩
def p_.new(h:aq)(items:Array af):p_ (h.push { cls:=.type "tuple",data:=.seq items }) h.objs.size items:=⟨_,bz _ rfl,rfl,rfl,_,rfl⟩
def p_.lt{h:aq}{a:ak}(x:p_ h a items):a<h.objs.size:=let⟨_,ho,_⟩:=x;bA ho
section
variable (P:aj) (w:ah)
abbrev lO (H:Hp)(h:aq)(a:ak):HO->Prop
 | .lst xs=>xs.length<=sizeLine/\∃(c:bb) (n:Nat),Vals xs c/\h.get? a=some { cls:=.type "list",data:=.seq c.toArray n }
 | .tup xs=>xs.length<=sizeLine/\∃c:bb,Vals xs c/\p_ h a c.toArray
 | .dK kvs=>kvs.length<=sizeLine/\(a == sysModules)=false/\∃g,KV kvs g/\h.DictOf (k_ P w) a g
 | .dT kvs=>kvs.length<=sizeLine/\(a == sysModules)=false/\∃xs:List<|List Key×ak×af,
   Paired (λ(p:List Key×V) (q:List Key×ak×af)=>p.1=q.1/\H q.2.1=some (.tup<|p.1.map kV)/\RelV p.2 q.2.2) kvs xs /\
   ∃o es ep,h.get? a=some o/\o.ExactDict/\o.data=.dict es ep/\es.toList=xs.map (entryOfKey<|tupleKind<|k_ P w)/\(xs.map (·.1)).Nodup
 | .set S n=>h.SetOf (intKind P w) a S n
 | .ins C dx fs=>H dx=some (.own a)/\fs.length<=1000/\dx≠a/\h.get? a=some (PySem.W.instObj C dx) /\
   ∃d,h.Ns1 dx d/\(∀f,zS (fs.lookup f)<|d f)/\PySem.Within d (fs.map (·.1))
 | .own _=>∃o,h.get? a=some o
 | .xd fs=>∃d,h.Ns1 a d/\∀f,zS (fs.lookup f) (d f)
 | .rng lo hi=>∃t u v,h.get? a=some { cls:=.type "range",data:=.fields #[.int lo t,.int hi u,.int 1 v]}
 | .frz o u=>h.get? a=some o/\lO H h a u
 | .tbl ps=>h.get? a=some { cls:=.none,data:=.fields ps }
 | .met f x=>h.get? a=some (PySem.W.methodObj (.ref f)<|.ref x)
 | .ext e=>e h/\(∃o,h.get? a=some o)/\∀h1 h2:aq,e h1->(∀o,h1.get? a=some o->h2.get? a=some o)->e h2
abbrev xQ (H:Hp)(h:aq):Prop:=∀a o,H a=some o->lO P w H h a o
end
section
variable {P:aj}{w:ah}{H H':Hp}{h h':aq}{a:ak}{o:HO}
def lO.lt(x:lO P w H h a o):a<h.objs.size:=by
 cases o with
 | lst xs=>obtain⟨_,_,_,_,e⟩:=x;exact bA e
 | tup xs=>obtain⟨_,_,_,p⟩:=x;exact p_.lt p
 | dK kvs=>obtain⟨_,_,_,_,o,_,_,e,_⟩:=x;exact bA e
 | dT kvs=>obtain⟨_,_,_,_,o,_,_,e,_⟩:=x;exact bA e
 | set S n=>obtain⟨o,_,_,_,e,_⟩:=x;exact bA e
 | ins C dx fs=>obtain⟨_,_,_,e,_⟩:=x;exact bA e
 | own y=>obtain⟨_,e⟩:=x;exact bA e
 | xd fs=>obtain⟨_,⟨_,_,_,e,_⟩,_⟩:=x;exact bA e
 | rng lo hi=>obtain⟨_,_,_,e⟩:=x;exact bA e
 | frz c u=>obtain⟨e,_⟩:=x;exact bA e
 | tbl ps=>exact bA (show h.get? a=some _ from x)
 | met f y=>exact bA (show h.get? a=some _ from x)
 | ext d=>obtain⟨_,⟨_,e⟩,_⟩:=x;exact bA e
theorem Paired.Zo{α β:Type}{F G:α->β->Prop}:∀{l₁:List α}{l₂:List β},Paired F l₁ l₂->(∀a b,F a b->G a b)->Paired G l₁ l₂
 | _,_,.nil,_=>.nil
 | _,_,.cons r t,f=>.cons (f _ _ r)<|Paired.Zo t f
def lO.stay(x:lO P w H h a o)(k:∀b u,(b=a\/H b=some (.own a))->h.get? b=some u->h'.get? b=some u)
  (ho:∀b,H b=some (.own a)->H' b=some (.own a)) (ht:∀b xs,H b=some (.tup xs)->H' b=some (.tup xs)):lO P w H' h' a o:=by
 induction o with
 | lst xs=>obtain⟨z,j,n,r,e⟩:=x;exact⟨z,j,n,r,k _ _ (.inl rfl) e⟩
 | tup xs=>obtain⟨z,j,r,g,e,c⟩:=x;exact⟨z,j,r,g,k _ _ (.inl rfl) e,c⟩
 | dK kvs=>obtain⟨z,y,J,r,g,es,ep,e,c⟩:=x;exact⟨z,y,J,r,g,es,ep,k _ _ (.inl rfl) e,c⟩
 | dT kvs=>
  obtain⟨z,y,xs,r,g,es,ep,e,c⟩:=x;exact⟨z,y,xs,Paired.Zo r λp q z=>⟨z.1,ht _ _ z.2.1,z.2.2⟩,g,es,ep,k _ _ (.inl rfl) e,c⟩
 | set S n=>obtain⟨g,es,ep,t,e,c⟩:=x;exact⟨g,es,ep,t,k _ _ (.inl rfl) e,c⟩
 | ins C dx fs=>
  obtain⟨d,z,F,e,B,⟨m,es,ep,e2,c⟩,r⟩:=x;exact⟨ho _ d,z,F,k _ _ (.inl rfl) e,B,⟨m,es,ep,k _ _ (.inr d) e2,c⟩,r⟩
 | own y=>obtain⟨g,e⟩:=x;exact⟨g,k _ _ (.inl rfl) e⟩
 | xd fs=>obtain⟨B,⟨m,es,ep,e,c⟩,r⟩:=x;exact⟨B,⟨m,es,ep,k _ _ (.inl rfl) e,c⟩,r⟩
 | rng lo hi=>obtain⟨t,u,v,e⟩:=x;exact⟨t,u,v,k _ _ (.inl rfl) e⟩
 | frz g u G=>obtain⟨e,q⟩:=x;exact⟨k _ _ (.inl rfl) e,G q⟩
 | tbl ps=>
  have e:h.get? a=some { cls:=.none,data:=.fields ps }:=x
  skip
  exact k a _ (.inl rfl) e
 | met f y=>
  have e:h.get? a=some (PySem.W.methodObj (.ref f)<|.ref y):=x
  skip
  exact k a _ (.inl rfl) e
 | ext K=>obtain⟨p,⟨o,e⟩,st⟩:=x;exact⟨st _ _ p λo q=>k _ _ (.inl rfl) q,⟨o,k _ _ (.inl rfl) e⟩,st⟩
def xQ.lt(x:xQ P w H h)(e:H a=some o):a<h.objs.size:=(x a o e).lt
def xQ.fresh(x:xQ P w H h)(e:h.objs.size<=a):H a=none:=by
 cases q:H a with
 | none=>rfl
 | some u=>exact absurd (b6 (x.lt q) e)<|gb _
def xQ.kept(x:xQ P w H h)(k:∀b u,h.get? b=some u->h'.get? b=some u):xQ P w H h':=λa o e=>
 (x a o e).stay (λb u _ q=>k b u q) (λ_ q=>q) λ_ _ q=>q
def xQ.laid(x:xQ P w H h)(k:∀b u,h.get? b=some u->h'.get? b=some u)(hp:h.objs.size<=a)(new:lO P w (upd H a o) h' a o):xQ P w (upd H a o) h':=λb u e=>by
 have hn:=x.fresh hp;by_cases d:b=a
 ·subst d;rw[lE]at e;cases e;exact new
 ·rw[j8 d]at e;exact(x b u e).stay (λc v _ q=>k c v q) (λc q=>by rw[j8<|ko q hn];exact q) λc xs q=>by rw[j8<|ko q hn];exact q
end
abbrev Rd (H:Hp)(a:ak)(u:HO):Prop:=H a=some u\/∃o,H a=some (.frz o u)
def Rd.ok{P:aj}{w:ah}{H:Hp}{a:ak}(r:Rd H a u)(x:xQ P w H h):lO P w H h a u:=by
 rcases r with r|⟨o,r⟩
 ·exact x a u r
 ·obtain⟨_,q⟩:=x a _ r;exact q
abbrev Mut:Option HO->Prop
 | some (.lst _)=>True
 | some (.dK _)=>True
 | some (.dT _)=>True
 | some (.set _ _)=>True
 | some (.ins _ _ _)=>True
 | some (.ext _)=>True
 | _=>False
section
variable {P:aj}{w:ah}{H:Hp}{h h':aq}{x e:ak}{o':HO}
def xQ.write(ok:xQ P w H h)(mu:Mut<|H x)(he:e=x\/H e=some (.own x))(k:∀b u,b≠e->h.get? b=some u->h'.get? b=some u)(heo:∃u,h'.get? e=some u)
  (new:lO P w (upd H x o') h' x o'):xQ P w (upd H x o') h':=λb u q=>by
 have f:∀c y,H c=some (.own y)->c≠x:=λc y r z=>by subst z;rw[r]at mu;exact mu
 have g:∀c xs,H c=some (.tup xs)->c≠x:=λc xs r z=>by subst z;rw[r]at mu;exact mu
 by_cases j:b=x
 ·subst j;rw[lE]at q;cases q;exact new
 ·rw[j8 j]at q;by_cases d:b=e
  ·have m:H b=some (.own x):=by
    rcases he with z|z
    ·exact absurd (d.trans z) j
    ·rw[d];exact z
   rw[q]at m;cases m;obtain⟨v,hv⟩:=heo;exact⟨v,by rw[d];exact hv⟩
  ·refine(ok b u q).stay (λc v hc r=>k c v ?_ r) (λc r=>by rw[j8<|f c b r];exact r) λc xs r=>by rw[j8<|g c xs r];exact r
   rcases hc with rfl|hc
   ·exact d
   ·rintro rfl
    rcases he with z|z
    ·exact f c b hc z
    ·rw[hc]at z;cases z;exact j rfl
end
structure Un (fs ex:bd)(H H':Hp)(h h':aq):Prop where
 keep:∀b o,h.get? b=some o->H b=none->b∉fs->b∉ex->h'.get? b=some o
 slot:∀b o,h.get? b=some o->H b=none->b∈fs->b∉ex->∃sl,h'.get? b=some { o with slots:=sl }
 free:∀b o,h.get? b=some o->H b=none->b∉ex->H' b=none
 there:∀b o,h.get? b=some o->b∉ex->∃o',h'.get? b=some o'
 tups:∀b xs,H b=some (.tup xs)->H' b=some (.tup xs)
 frzs:∀b o u,H b=some (.frz o u)->H' b=some (.frz o u)
 tbls:∀b ps,H b=some (.tbl ps)->∃more,H' b=some (.tbl<|ps++more)
section
variable {fs ex:bd}{H H1:Hp}{h h1 h':aq}{a x e:ak}{o:HO}
def Un.any(u:Un fs ex H H1 h h1){ob:Obj}(q:h.get? b=some ob)(n:H b=none)(hx:b∉ex):∃sl,h1.get? b=some { ob with slots:=sl }:=by
 by_cases c:b∈fs
 ·exact u.slot b ob q n c hx
 ·exact⟨ob.slots,u.keep b ob q n c hx⟩
def Un.kept(k:∀b u,h.get? b=some u->h'.get? b=some u):Un fs ex H H h h':=
 ⟨λb c q _ _ _=>k b c q,λb c q _ _ _=>⟨c.slots,k b c q⟩,λ_ _ _ n _=>n,λb c q _=>⟨c,k b c q⟩,λ_ _ q=>q,λ_ _ _ q=>q,λ_ ps q=>⟨#[],by rw[q];simp⟩⟩
def Un.refl:Un fs ex H H h h:=Un.kept λ_ _ q=>q
def Un.laid(k:∀b u,h.get? b=some u->h'.get? b=some u)(hp:h.objs.size<=a)(hn:H a=none):Un fs ex H (upd H a o) h h' where
 keep:=λb u q _ _ _=>k b u q
 slot:=λb u q _ _ _=>⟨u.slots,k b u q⟩
 free:=λb u q n _=>by rw[j8<|bD<|b6 (bA q) hp];exact n
 there:=λb u q _=>⟨u,k b u q⟩
 tups:=λb xs q=>by rw[j8<|ko q hn];exact q
 frzs:=λb u xs q=>by rw[j8<|ko q hn];exact q
 tbls:=λb ps q=>⟨#[],by rw[j8<|ko q hn,q];simp⟩
def Un.write(mu:Mut<|H x)(he:e=x\/H e=some (.own x))(k:∀b u,b≠e->h.get? b=some u->h'.get? b=some u)(heo:∃u,h'.get? e=some u):Un fs ex H (upd H x o) h h':=by
 have f:∀b,H b=none->b≠x:=λb n z=>by subst z;rw[n]at mu;exact mu
 have g:∀b,H b=none->b≠e:=λb n z=>by
  subst z
  rcases he with r|r
  ·exact f b n r
  ·rw[n]at r;cases r
 have d:∀b u,H b=some u->¬Mut (some u)->b≠x:=λb u q j z=>by subst z;rw[q]at mu;exact j mu
 refine⟨λb u q n _ _=>k b u (g b n) q,λb u q n _ _=>⟨u.slots,k b u (g b n) q⟩,λb u q n _=>by rw[j8<|f b n];exact n,λb u q _=>?_,
  λb xs q=>by rw[j8<|d b _ q λz=>z];exact q,λb u xs q=>by rw[j8<|d b _ q λz=>z];exact q,λb ps q=>⟨#[],by rw[j8<|d b _ q λz=>z,q];simp⟩⟩
 by_cases c:b=e
 ·subst c;exact heo
 ·exact⟨u,k b u c q⟩
end
abbrev trk (h:aq)(H:Hp):bd:=(List.range h.objs.size).filter λa=>(H a).isSome
abbrev Ej (h:aq)(H:Hp):aq:=PySem.W.hideAll h<|trk h H
def NU(h:aq)(H:Hp):(Ej h H).objs.size=h.objs.size:=PySem.W.hideAll_size _ _
def OP{h:aq}{H:Hp}(e:h.get? b=some o)(n:H b=none):(Ej h H).get? b=some o:=
 PySem.W.hideAll_get _ e λc=>by
  have q:(H b).isSome=true:=(cD.mp c).2;rw[n]at q;simp at q
def Vd{h:aq}{H:Hp}(e:(Ej h H).get? b=some o):h.get? b=some o/\H b=none:=by
 have c:h.get? b=some o:=PySem.W.of_hideAll (trk h H) e;refine⟨c,?_⟩
 cases q:H b with
 | none=>rfl
 | some x=>
  have d:b∈trk h H:=cD.mpr ⟨dP.mpr<|bA c,by simp[q]⟩;have z:(Ej h H).get? b=none:=PySem.W.hideAll_none (trk h H) d;rw[z]at e;cases e
abbrev Vi (g h:aq)(L:ak):bp:=(List.range h.objs.size).filterMap λa=>if a=L\/(g.get? a).isSome=true then none else(h.get? a).map λo=>(a,o)
abbrev rest (g h:aq)(L d:ak):bp:=(Vi g h L).filter λp=>decide<|p.1≠d
structure Mod (K:au)(mg:Str->bi)(base:aq):Prop where
 kin:K.In base
 glob:base.Ns mainGlobals mg
 blt:∃mb,base.Ns builtinsNs mb/\∀x:Str,x ≠ "__name__" -> mb x=bootBuiltins x
 nolimit:base.NoLimit
structure Cx where
 prog:aj
 w:ah
 K:au
 mg:Str->bi
 base:aq
 A:aA
 N:ba
 s₀:aC
 H₀:Hp
 env:Env
 outer:List Env
 stack:List Env
 ex:bd
 fn:Str->Bool
 calm:Bool
 pn:bp
 xe:af->aC->Prop
abbrev frs (l:List Env):bd:=l.filterMap (·.frame)
meta abbrev Cx.fs (X:Cx):bd:=frs X.outer
abbrev Vis (sc:Scope)(x:Str):Prop:=sc.names.lookup x=some .local\/sc.names.lookup x=some .cell\/sc.names.lookup x=some .free
abbrev Loc (sc:Scope)(x:Str):Prop:=sc.names.lookup x=some .local\/sc.names.lookup x=some .cell
abbrev Look (env:Env)(h:aq)(m:Str->bi)(x:Str)(u:af):Prop:=
 (env.kindOf x=some .local/\m x=some u)\/((env.kindOf x=some .cell\/env.kindOf x=some .free)/\∃c,env.cells.lookup x=some c/\h.IsCell c (some u))
structure Cx.Ok (X:Cx):Prop where
 mod:Mod X.K X.mg X.base
 kind:X.env.scope.kind=.function
 glob:X.env.globals=mainGlobals
 blt:X.env.builtins=builtinsNs
 above:X.s₀.heap.objs.size<=X.env.locals
 inj:∀x y c,X.env.cells.lookup x=some c->X.env.cells.lookup y=some c->x=y
 has:∀x,(X.env.kindOf x=some .cell\/X.env.kindOf x=some .free)->∃c,X.env.cells.lookup x=some c
 cab:∀x c,X.fn x=true->X.env.cells.lookup x=some c->X.s₀.heap.objs.size<=c
 hd:X.calm=true->X.A.handled=none
 frames:X.A.frames=some X.stack
 stk:X.stack=X.outer\/(X.stack=X.env::X.outer/\X.env.frame=some X.env.locals)
 exf:∀b∈X.ex,b≠X.env.locals/\∀x c,X.env.cells.lookup x=some c->c≠b
 bs:∀b o,X.base.get? b=some o->X.s₀.heap.get? b=some o/\X.H₀ b=none
 bsz:X.base.objs.size<=X.s₀.heap.objs.size
 noex:∀b o,X.base.get? b=some o->b∉X.ex
 exfs:∀b∈X.ex,b∉X.fs
 Cb:X.s₀.heap.FunFrames X.base X.outer
 frf:∀b∈X.fs,X.H₀ b=none
structure Inv (X:Cx)(pins:bp)(σ:List (Option V))(H:Hp)(s:aC):Prop where
 ok:X.Ok
 os:s.os=X.s₀.os
 bare:AllBare s.gens
 base:Un X.fs X.ex X.H₀ H X.s₀.heap s.heap
 loc:∃m,s.heap.Ns X.env.locals m/\∀(i:Nat) (x:Str) (v:V),X.N[i]?=some x->σ[i]?=some (some v)->Vis X.env.scope x->∃u,RelV v u/\Look X.env s.heap m x u
 cell:∀x c,X.env.cells.lookup x=some c->∃v,s.heap.IsCell c v
 free:H X.env.locals=none
 freeC:∀x c,X.env.cells.lookup x=some c->H c=none
 pin:∀p∈X.pn++pins,s.heap.get? p.1=some p.2/\H p.1=none/\p.1≠X.env.locals/\p.1∉X.fs/\∀v,p.2.data≠.cell v
 hok:xQ X.prog X.w H s.heap
 len:σ.length=X.N.length
section
variable {X:Cx}{pins:bp}{σ:List (Option V)}{H H':Hp}{s:aC}{h':aq}
def Cx.Ok.ad4(ok:X.Ok)(e:X.base.get? b=some o):b∉X.fs:=λc=>by
 have:=(ok.Cb.mem c).1;rw[e]at this;cases this
def Inv.bs(I:Inv X pins σ H s):∀b o,X.base.get? b=some o->s.heap.get? b=some o/\H b=none:=λb o e=>
 ⟨I.base.keep b o (I.ok.bs b o e).1 (I.ok.bs b o e).2 (I.ok.ad4 e)<|I.ok.noex b o e,I.base.free b o (I.ok.bs b o e).1 (I.ok.bs b o e).2<|I.ok.noex b o e⟩
def Inv.bk(I:Inv X pins σ H s):∀b o,X.base.get? b=some o->s.heap.get? b=some o:=λb o e=>(I.bs b o e).1
def Inv.mod(I:Inv X pins σ H s):Mod X.K X.mg X.base:=I.ok.mod
def Inv.FZ(I:Inv X pins σ H s):X.K.In s.heap:=I.ok.mod.kin.keeps I.bk
def Inv.lt(I:Inv X pins σ H s):X.env.locals<s.heap.objs.size:=let⟨_,hn,_⟩:=I.loc;hn.lt
def Inv.sz(I:Inv X pins σ H s):X.s₀.heap.objs.size<=s.heap.objs.size:=bH I.ok.above<|jH I.lt
def Inv.aet(I:Inv X pins σ H s){a:ak}(h:s.heap.objs.size<=a):a∉X.fs:=λd=>by
 obtain⟨_,o,c,_⟩:=I.ok.Cb.mem d;exact absurd (b6 (bA c)<|bH I.sz h)<|gb _
def Inv.Zi(I:Inv X pins σ H s):∀x c,X.env.cells.lookup x=some c->c≠X.env.locals:=λx c e z=>by
 obtain⟨v,o,g,j⟩:=I.cell x c e;obtain⟨m,⟨o',es,ep,d,f,_⟩,_⟩:=I.loc;rw[z,d]at g;cases g;rw[f]at j;cases j
def Inv.Cb(I:Inv X pins σ H s):s.heap.FunFrames X.base X.outer:=by
 have all:∀(l:List Env),(∀b∈frs l,b∈X.fs)->X.s₀.heap.FunFrames X.base l->s.heap.FunFrames X.base l:=by
  intro l
  induction l with
  | nil=>intro _ _;trivial
  | cons p r j=>
   intro hs m;obtain⟨k,⟨L,o,hf,hn,f,q⟩,g⟩:=m;have c:L∈X.fs:=hs L (by unfold frs;rw[jh,hf];exact aK);obtain⟨B,e⟩:=I.base.slot L o f (I.ok.frf L c) c λz=>I.ok.exfs L z c;exact⟨k,⟨L,_,hf,hn,e,q⟩,j (λb d=>hs b<|by unfold frs;rw[jh,hf];exact aO _ d) g⟩
 exact all X.outer (λ_ d=>d) I.ok.Cb
def Inv.stack(I:Inv X pins σ H s):s.heap.FunFrames X.base X.stack:=by
 rcases I.ok.stk with e|⟨e,hf⟩
 ·rw[e];exact I.Cb
 ·rw[e];obtain⟨m,hn,_⟩:=I.loc;refine .cons (by rw[I.ok.kind];decide) hf hn ?_ I.Cb;exact Heap.get?_none_of_le<|bH I.ok.bsz I.ok.above
def Inv.Ie(I:Inv X pins σ H s):∀b∈frs X.stack,b∈X.env.locals::X.fs:=λb c=>by
 rcases I.ok.stk with e|⟨e,hf⟩
 ·rw[e]at c;exact aO _ c
 ·rw[e]at c;unfold frs at c;rw[jh,hf]at c;exact c
def Inv.LR(I:Inv X pins σ H s):∀b∈frs X.stack,H b=none:=λb c=>by
 rcases bB.mp (I.Ie b c)with e|c
 ·rw[e];exact I.free
 ·obtain⟨_,o,d,_⟩:=I.ok.Cb.mem c;exact I.base.free b o d (I.ok.frf b c) λz=>I.ok.exfs b z c
def Inv.step{g':Array GenState}{t':Nat}{d':Drawn}{ch:bd}(I:Inv X pins σ H s)
  (hch:∀b∈ch,(b∈X.ex\/X.s₀.heap.objs.size<=b)/\b≠X.env.locals/\(∀x c,X.env.cells.lookup x=some c->c≠b)/\∀p∈X.pn++pins,p.1≠b)
  (keep:∀b o,b≠X.env.locals->b∉X.fs->b∉ch->s.heap.get? b=some o->H b=none->h'.get? b=some o)
  (slot:∀b o,b≠X.env.locals->b∈X.fs->b∉ch->s.heap.get? b=some o->H b=none->∃sl,h'.get? b=some { o with slots:=sl }) (free:∀b o,b∉ch->s.heap.get? b=some o->H b=none->H' b=none)
  (there:∀b o,b∉ch->s.heap.get? b=some o->∃o',h'.get? b=some o')
  (tups:∀b xs,H b=some (.tup xs)->H' b=some (.tup xs)) (frzs:∀b o u,H b=some (.frz o u)->H' b=some (.frz o u)) (tbls:∀b ps,H b=some (.tbl ps)->∃more,H' b=some (.tbl<|ps++more))
  (ns:∀m,s.heap.Ns X.env.locals m->h'.Ns X.env.locals m) (hok:xQ X.prog X.w H' h') (hg:AllBare g') :
  Inv X pins σ H' { s with heap:=h',gens:=g',drawn:=d',toks:=t' }:=by
 have G:∀b o,X.s₀.heap.get? b=some o->b≠X.env.locals:=λb o e=>bD<|b6 (bA e) I.ok.above;have B:∀b o,X.s₀.heap.get? b=some o->b∉X.ex->b∉ch:=λb o e f C=>by
  rcases(hch b C).1 with z|z
  ·exact f z
  ·exact absurd (b6 (bA e) z)<|gb _
 have j:∀x c,X.env.cells.lookup x=some c->∀v,s.heap.IsCell c v->h'.IsCell c v:=λx c e v ⟨o,F,J⟩=>by
  have g:c∉ch:=λz=>(hch c z).2.2.1 x c e rfl;by_cases hc:c∈X.fs
  ·obtain⟨sl,q⟩:=slot c o (I.Zi x c e) hc g F<|I.freeC x c e;exact⟨_,q,J⟩
  ·exact⟨o,keep c o (I.Zi x c e) hc g F<|I.freeC x c e,J⟩
 refine⟨I.ok,I.os,hg,⟨λb o e n C f=>?_,λb o e n C f=>?_,λb o e n f=>?_,λb o e f=>?_,λb xs e=>tups b xs<|I.base.tups b xs e,λb o xs e=>frzs b o xs<|I.base.frzs b o xs e,λb ps e=>?_⟩,?_,λx c e=>?_,?_,λx c e=>?_,λp N=>?_,hok,I.len⟩
 ·exact keep b o (G b o e) C (B b o e f) (I.base.keep b o e n C f) (I.base.free b o e n f)
 ·obtain⟨sl,e1⟩:=I.base.slot b o e n C f;obtain⟨K,e2⟩:=slot b _ (G b o e) C (B b o e f) e1<|I.base.free b o e n f;exact⟨K,e2⟩
 ·obtain⟨o',e1⟩:=I.base.there b o e f;exact free b o' (B b o e f) e1 (I.base.free b o e n f)
 ·obtain⟨o',e1⟩:=I.base.there b o e f;exact there b o' (B b o e f) e1
 ·obtain⟨P,e1⟩:=I.base.tbls b ps e;obtain⟨T,e2⟩:=tbls b _ e1;exact⟨P++T,by rw[e2,Array.append_assoc]⟩
 ·obtain⟨m,hn,O⟩:=I.loc;refine⟨m,ns m hn,λi x v e1 e2 e3=>?_⟩;obtain⟨u,r,l⟩:=O i x v e1 e2 e3;refine⟨u,r,?_⟩
  rcases l with l|⟨k,c,e,z⟩
  ·exact .inl l
  ·exact .inr ⟨k,c,e,j x c e _ z⟩
 ·obtain⟨v,z⟩:=I.cell x c e;exact⟨v,j x c e v z⟩
 ·obtain⟨m,⟨o,_,_,F,_⟩,_⟩:=I.loc;exact free _ o (λz=>(hch _ z).2.1 rfl) F I.free
 ·obtain⟨v,o,F,J⟩:=I.cell x c e;exact free c o (λz=>(hch c z).2.2.1 x c e rfl) F (I.freeC x c e)
 ·obtain⟨e,n,L,M,d⟩:=I.pin p N;have g:p.1∉ch:=λz=>(hch p.1 z).2.2.2 p N rfl;exact⟨keep p.1 p.2 L M g e n,free p.1 p.2 g e n,L,M,d⟩
def Inv.un{t':Nat}(I:Inv X pins σ H s)(u:Un X.fs [] H H' s.heap h')(hok:xQ X.prog X.w H' h'):Inv X pins σ H' { s with heap:=h',toks:=t' }:=by
 obtain⟨m,⟨o,es,ep,j,r⟩,_⟩:=id I.loc;obtain⟨B,p⟩:=u.any j I.free (by simp);exact I.step (g':=s.gens) (d':=s.drawn) (ch:=[]) (nofun) (λb o _ d _ e n=>u.keep b o e n d<|by simp) (λb o _ d _ e n=>u.slot b o e n d<|by simp) (λb o _ e n=>u.free b o e n<|by simp) (λb o _ e=>u.there b o e<|by simp) u.tups u.frzs u.tbls (λC k=>by
  obtain⟨o',f,g,c,q⟩:=k;rw[j]at c;cases c;exact⟨_,f,g,p,q⟩) hok I.bare
def Inv.call{g':Array GenState}{t':Nat}{d':Drawn}{ch:bd}(I:Inv X pins σ H s)(u:Un (frs X.stack) ch H H' s.heap h')(hok:xQ X.prog X.w H' h')(hg:AllBare g')
  (hch:∀b∈ch,(b∈X.ex\/X.s₀.heap.objs.size<=b)/\b≠X.env.locals/\(∀x c,X.env.cells.lookup x=some c->c≠b)/\∀p∈X.pn++pins,p.1≠b) :
  Inv X pins σ H' { s with heap:=h',gens:=g',drawn:=d',toks:=t' }:=by
 obtain⟨m,⟨o,es,ep,k,r⟩,_⟩:=id I.loc;obtain⟨F,f⟩:=u.any k I.free λz=>(hch _ z).2.1 rfl;exact I.step (ch:=ch) hch (λb o f B hc e n=>u.keep b o e n (λz=>(bB.mp<|I.Ie b z).elim f B) hc) (λb o _ _ hc e n=>u.any e n hc) (λb o hc e n=>u.free b o e n hc) (λb o hc e=>u.there b o e hc) u.tups u.frzs u.tbls (λG q=>by
  obtain⟨o',g,j,d,C⟩:=q;rw[k]at d;cases d;exact⟨_,g,j,f,C⟩) hok hg
def Inv.turned{t':Nat}{it:ak}(I:Inv X pins σ H s)(k:∀b o,b≠it->s.heap.get? b=some o->h'.get? b=some o)(hn:H it=none)(hL:it≠X.env.locals)
  (h1:it∈X.ex\/X.s₀.heap.objs.size<=it) (h2:∀x c,X.env.cells.lookup x=some c->c≠it) (h3:∀p∈X.pn++pins,p.1≠it):Inv X pins σ H { s with heap:=h',toks:=t' }:=by
 have d:∀b u,H b=some u->b≠it:=λb u e z=>by rw[z,hn]at e;cases e
 refine I.step (g':=s.gens) (d':=s.drawn) (ch:=[it]) (λb j=>?_) (λb o _ _ hc e _=>k b o (λz=>hc<|by simp[z]) e) (λb o _ _ hc e _=>⟨o.slots,k b o (λz=>hc<|by simp[z]) e⟩) (λ_ _ _ _ n=>n)
  (λb o hc e=>⟨o,k b o (λz=>hc<|by simp[z]) e⟩) (λ_ _ e=>e) (λ_ _ _ e=>e) (λb ps e=>⟨#[],by rw[e];simp⟩) (λm g=>?_) (λb u e=>?_) I.bare
 ·have e:b=it:=by simpa using j
  subst e;exact⟨h1,hL,h2,h3⟩
 ·obtain⟨o,es,ep,f,r⟩:=g;exact⟨o,es,ep,k _ o (c9 hL) f,r⟩
 ·refine(I.hok b u e).stay (λc v hc q=>k c v ?_ q) (λ_ q=>q) λ_ _ q=>q
  rcases hc with z|z
  ·rw[z];exact d b u e
  ·exact d c _ z
def Inv.tok(I:Inv X pins σ H s)(t:Nat):Inv X pins σ H { s with toks:=t }:=I.un (h':=s.heap) (t':=t) Un.refl I.hok
def Inv.kept{t':Nat}(I:Inv X pins σ H s)(k:∀b u,s.heap.get? b=some u->h'.get? b=some u):Inv X pins σ H { s with heap:=h',toks:=t' }:=I.un (Un.kept k)<|I.hok.kept k
def Inv.laid{a:ak}{t':Nat}(I:Inv X pins σ H s)(k:∀b u,s.heap.get? b=some u->h'.get? b=some u)(hp:s.heap.objs.size<=a)(new:lO X.prog X.w (upd H a o) h' a o) :
  Inv X pins σ (upd H a o) { s with heap:=h',toks:=t' }:=I.un (Un.laid k hp<|I.hok.fresh hp)<|I.hok.laid k hp new
def Inv.write{x e:ak}{t':Nat}(I:Inv X pins σ H s)(mu:Mut<|H x)(he:e=x\/H e=some (.own x))(k:∀b u,b≠e->s.heap.get? b=some u->h'.get? b=some u)(heo:∃u,h'.get? e=some u)
  (new:lO X.prog X.w (upd H x o) h' x o):Inv X pins σ (upd H x o) { s with heap:=h',toks:=t' }:=I.un (Un.write mu he k heo)<|I.hok.write mu he k heo new
def Inv.Lv{pins':bp}(I:Inv X pins σ H s)(h:∀p∈pins',s.heap.get? p.1=some p.2/\H p.1=none/\p.1≠X.env.locals/\p.1∉X.fs/\∀v,p.2.data≠.cell v):Inv X pins' σ H s:=
 ⟨I.ok,I.os,I.bare,I.base,I.loc,I.cell,I.free,I.freeC,λp c=>(bG.mp c).elim (λz=>I.pin p<|fy _ z)<|h p,I.hok,I.len⟩
def GD{N:ba}(hN:N.Nodup){i j:Nat}{x:Str}(a:N[i]?=some x)(b:N[j]?=some x):i=j:=by
 obtain⟨h1,e1⟩:=aN.mp a;obtain⟨h2,e2⟩:=aN.mp b;exact(dB hN).mp (e1.trans e2.symm)
def _root_.η0(h:1=1:=by first|exact .inl rfl|exact .inr rfl|assumption):1=1:=h
def _root_.η:Lean.Syntax:=η0._auto_1
def _root_.θ0(h:1=1:=by decide):1=1:=h
def _root_.θ:Lean.Syntax:=θ0._auto_1
def _root_.ι0(h:1=1:=by rfl):1=1:=h
def _root_.ι:Lean.Syntax:=ι0._auto_1
def _root_.ν0(h:1=1:=by intro _;rfl):1=1:=h
def _root_.ν:Lean.Syntax:=ν0._auto_1
def _root_.ξ0(h:1=1:=by with_unfolding_all rfl):1=1:=h
def _root_.ξ:Lean.Syntax:=ξ0._auto_1
def _root_.ο0(h:1=1:=by exact λ_ _=>rfl):1=1:=h
def _root_.ο:Lean.Syntax:=ο0._auto_1
def Ol{A:aA}{E:af->aC->Prop}{i:Nat}{x:Str}{v:V}{Q:Unit->aC->Prop}(I:Inv X pins σ H s)(hN:X.N.Nodup)(hi:X.N[i]?=some x)(hx:Loc X.env.scope x)(r:RelV v u)
  (h:∀s',Inv X pins (σ.set i<|some v) H s'->(∃a,Heap.SameBut a s.heap s'.heap/\(a=X.env.locals\/X.env.cells.lookup x=some a))->Q Unit.unit s') (hf:X.fn x=true\/X.env.scope.names.lookup x=some .local<|>η):wpAny M A (storeName X.env x u) Q E s:=by
 obtain⟨m,hn,hl⟩:=id I.loc;have T:(X.env.scope.kind == .class || (X.env.scope.kind == .module && X.env.locals != X.env.globals))=false:=by rw[I.ok.kind];rfl
 have C:i<σ.length:=by rw[I.len];exact(aN.mp hi).1
 have Zi:=I.Zi;have f:∀{a:ak} {h':aq},(∃o,s.heap.get? a=some o/\H a=none)->Heap.SameBut a s.heap h'->xQ X.prog X.w H h':=λ{a h'} ha hs b ob e=>by
  obtain⟨_,_,g⟩:=ha;refine(I.hok b ob e).stay (λc W hc q=>(hs.2 c ?_).trans q) (λ_ q=>q) λ_ _ q=>q;rintro rfl
  rcases hc with rfl|hc
  ·rw[g]at e;cases e
  ·rw[g]at hc;cases hc
 rcases hx with B|B
 ·refine wpAny_storeName_local B hn (λh' hn' hs=>?_) T;obtain⟨oL,_,_,hoL,_⟩:=id hn;refine h _ ⟨I.ok,I.os,I.bare,⟨λb o e n J hx=>?_,λb o e n J hx=>?_,I.base.free,λb o e hx=>?_,I.base.tups,I.base.frzs,I.base.tbls⟩,⟨_,hn',λj y v' e1 e2 e3=>?_⟩,λy c e=>?_,I.free,I.freeC,λp hp=>?_,f ⟨oL,hoL,I.free⟩ hs,by simpa using I.len⟩ ⟨_,hs,.inl rfl⟩
  ·exact(hs.2 b<|bD<|b6 (bA e) I.ok.above).trans (I.base.keep b o e n J hx)
  ·obtain⟨sl,e1⟩:=I.base.slot b o e n J hx;exact⟨sl,(hs.2 b<|bD<|b6 (bA e) I.ok.above).trans e1⟩
  ·obtain⟨o',e1⟩:=I.base.there b o e hx;exact⟨o',(hs.2 b<|bD<|b6 (bA e) I.ok.above).trans e1⟩
  ·by_cases G:j=i
   ·subst G;rw[hi]at e1;cases e1;rw[bJ C]at e2
    cases e2
    exact⟨u,r,.inl ⟨B,by simp⟩⟩
   ·rw[bP<|c9 G]at e2;obtain⟨u',r',q⟩:=hl j y v' e1 e2 e3;refine⟨u',r',?_⟩
    rcases q with⟨k,e⟩|⟨k,c,e,z⟩
    ·refine .inl ⟨k,?_⟩;have:y≠x:=λe=>G<|GD hN e1<|e ▸ hi;simp[this,e]
    ·exact .inr ⟨k,c,e,z.sameBut hs<|Zi y c e⟩
  ·obtain⟨W,z⟩:=I.cell y c e;exact⟨W,z.sameBut hs<|Zi y c e⟩
  ·obtain⟨e,n,U,Z,d⟩:=I.pin p hp;exact⟨(hs.2 p.1 U).trans e,n,U,Z,d⟩
 ·have F:X.fn x=true:=by
   rcases hf with z|z
   ·exact z
   ·rw[z]at B;cases B
  obtain⟨c,hc⟩:=I.ok.has x<|.inl B;obtain⟨W,z⟩:=I.cell x c hc;refine wpAny_storeName_cell I.ok.kind B hc z λh' O hs=>?_;obtain⟨oc,L,P⟩:=id z;refine h { s with heap:=h' } ⟨I.ok,I.os,I.bare,⟨λb o e n J hx=>?_,λb o e n J hx=>?_,I.base.free,λb o e hx=>?_,I.base.tups,I.base.frzs,I.base.tbls⟩,⟨m,hn.sameBut hs<|c9<|Zi x c hc,λj y v' e1 e2 e3=>?_⟩,λy Y e=>?_,I.free,I.freeC,λp hp=>?_,f ⟨oc,L,I.freeC x c hc⟩ hs,by simpa using I.len⟩ ⟨c,hs,.inr hc⟩
  ·exact(hs.2 b<|bD<|b6 (bA e)<|I.ok.cab x c F hc).trans (I.base.keep b o e n J hx)
  ·obtain⟨sl,e1⟩:=I.base.slot b o e n J hx;exact⟨sl,(hs.2 b<|bD<|b6 (bA e)<|I.ok.cab x c F hc).trans e1⟩
  ·obtain⟨o',e1⟩:=I.base.there b o e hx;exact⟨o',(hs.2 b<|bD<|b6 (bA e)<|I.ok.cab x c F hc).trans e1⟩
  ·by_cases G:j=i
   ·subst G;rw[hi]at e1;cases e1;rw[bJ C]at e2
    cases e2
    exact⟨u,r,.inr ⟨.inl B,c,hc,O⟩⟩
   ·rw[bP<|c9 G]at e2;obtain⟨u',r',q⟩:=hl j y v' e1 e2 e3;refine⟨u',r',?_⟩
    rcases q with q|⟨k,Y,e,z'⟩
    ·exact .inl q
    ·refine .inr ⟨k,Y,e,z'.sameBut hs ?_⟩;rintro rfl;exact G<|GD hN e1<|I.ok.inj _ _ _ e hc ▸ hi
  ·by_cases K:Y=c
   ·subst K;exact⟨_,O⟩
   ·obtain⟨w2,z2⟩:=I.cell y Y e;exact⟨w2,z2.sameBut hs K⟩
  ·obtain⟨e,n,U,Z,d⟩:=I.pin p hp;refine⟨(hs.2 p.1 ?_).trans e,n,U,Z,d⟩;intro q;rw[q,L]at e;have q':oc=p.2:=aZ e;exact d W<|by rw[<- q'];exact P
def Bq{A:aA}{E:af->aC->Prop}{i:Nat}{x:Str}{v:V}{Q:Unit->aC->Prop}(I:Inv X pins σ H s)(hN:X.N.Nodup)(hi:X.N[i]?=some x)(hx:Loc X.env.scope x)(r:RelV v u)
  (h:∀s',Inv X pins (σ.set i<|some v) H s'->Q Unit.unit s') (hf:X.fn x=true\/X.env.scope.names.lookup x=some .local<|>η):wpAny M A (storeName X.env x u) Q E s:=
 Ol I hN hi hx r (λs' c _=>h s' c) hf
def Inv.acG{s':aC}{ch:bd}(I:Inv X pins σ H s)(ho:s'.os=s.os)(u:Un (frs X.stack) ch H H' s.heap s'.heap)(hok:xQ X.prog X.w H' s'.heap)(hg:AllBare s'.gens)
  (hch:∀b∈ch,(b∈X.ex\/X.s₀.heap.objs.size<=b)/\b≠X.env.locals/\(∀x c,X.env.cells.lookup x=some c->c≠b)/\∀p∈X.pn++pins,p.1≠b):Inv X pins σ H' s':=by
 obtain⟨h',g',d',t',o'⟩:=s';have e:o'=s.os:=ho;subst e;exact I.call (g':=g') (t':=t') (d':=d') u hok hg hch
end
meta abbrev XK:=af->Option ak->Hp->Prop
meta abbrev St:=List<|Option V
meta abbrev VK:=V->Hp->Prop
meta abbrev TE:=St->Hp->VK->Prop
meta abbrev TT:=St->Hp->(Bool->Hp->Prop)->Prop
meta abbrev TA:=St->Hp->(List V->Hp->Prop)->Prop
structure Ends where
 nx:St->Hp->Prop
 rt:VK
 bk:St->Hp->Prop:=λ_ _=>False
 ct:St->Hp->Prop:=λ_ _=>False
meta abbrev TS:=Ends->St->Hp->Prop
abbrev EP (X:Cx)(pins:bp)(σ:St)(Q:VK)(u:af)(s':aC):Prop:=∃v H',Inv X pins σ H' s'/\RelV v u/\Q v H'
abbrev TP (X:Cx)(pins:bp)(σ:St)(Q:Bool->Hp->Prop)(b:Bool)(s':aC):Prop:=∃H',Inv X pins σ H' s'/\Q b H'
abbrev AP (X:Cx)(pins:bp)(σ:St)(Q:List V->Hp->Prop)(us:bb)(s':aC):Prop:=∃c H',Inv X pins σ H' s'/\Vals c us/\Q c H'
abbrev SP (X:Cx)(pins:bp)(D:Ends)(f:Flow)(s':aC):Prop:=
 match f with
 | .next=>∃c H',Inv X pins c H' s'/\D.nx c H'
 | .brk=>∃c H',Inv X pins c H' s'/\D.bk c H'
 | .cont=>∃c H',Inv X pins c H' s'/\D.ct c H'
 | .ret u=>∃v c H',Inv X pins c H' s'/\RelV v u/\D.rt v H'
abbrev PE (X:Cx)(e:aE)(t:TE):Prop:=
 ∀(pins:bp) (s:aC) (σ:St) (H:Hp) (Q:VK),Inv X pins σ H s->t σ H Q->wpAny (model X.prog X.w) X.A (eval e X.env) (EP X pins σ Q) X.xe s
abbrev PT (X:Cx)(e:aE)(t:TT):Prop:=
 ∀(pins:bp) (s:aC) (σ:St) (H:Hp) (Q:Bool->Hp->Prop),Inv X pins σ H s->t σ H Q->wpAny (model X.prog X.w) X.A (isTrue e X.env<|eval e X.env) (TP X pins σ Q) X.xe s
abbrev PW (X:Cx)(e:aE)(t:TT):Prop:=
 ∀(c:Sem af) (pins:bp) (s:aC) (σ:St) (H:Hp) (Q:Bool->Hp->Prop),Inv X pins σ H s->t σ H Q->wpAny (model X.prog X.w) X.A (isTrue e X.env c) (TP X pins σ Q) X.xe s
abbrev PA (X:Cx)(es:List aE)(t:TA):Prop:=
 ∀(pos:Pos) (pins:bp) (s:aC) (σ:St) (H:Hp) (Q:List V->Hp->Prop),Inv X pins σ H s->t σ H Q->wpAny (model X.prog X.w) X.A (spliced<|backTo pos<|starEach es X.env) (AP X pins σ Q) X.xe s
abbrev PS (X:Cx)(st:aF)(t:TS):Prop:=
 ∀(pins:bp) (s:aC) (σ:St) (H:Hp) (D:Ends),Inv X pins σ H s->t D σ H->wpAny (model X.prog X.w) X.A (exec st X.env) (SP X pins D) X.xe s
abbrev EN (X:Cx)(st:List aF)(t:TS):Prop:=
 ∀(pins:bp) (s:aC) (σ:St) (H:Hp) (D:Ends),Inv X pins σ H s->t D σ H->wpAny (model X.prog X.w) X.A (execs st X.env) (SP X pins D) X.xe s
theorem ny{α:Type}{t:Sem α}{Q Q':α->aC->Prop}{A:aA}{E:af->aC->Prop}(h:wpAny M A t Q E s)(hQ:∀a s,Q a s->Q' a s):wpAny M A t Q' E s:=jj h hQ λ_ _ x=>x
section
variable {X:Cx}
abbrev abA (i:Nat):TE:=λσ H Q=>∃v,σ[i]?=some (some v)/\Q v H
abbrev tC (v:V):TE:=λ_ H Q=>Q v H
def OE{i:Nat}{x:Str}(hN:X.N[i]?=some x)(hv:Vis X.env.scope x)(hd:(x == ("__debug__" : Str))=false<|>θ)(hcd:(x == ("__classdict__" : Str))=false<|>θ):PE X (.Name x pos) (abA i):=by
 kd_p;obtain⟨v,e,h⟩:=h;obtain⟨m,hn,j⟩:=I.loc;obtain⟨u,r,l⟩:=j i x v hN e hv;have fin:EP X pins σ Q u s:=⟨v,H,I,r,h⟩
 rcases l with⟨f,g⟩|⟨f,c,hc,d⟩
 ·exact wpAny_Name (wpAny_loadName_local I.ok.kind f hn g fin) hd
 ·rcases f with f|f
  ·exact wpAny_Name (wpAny_loadName_cell I.ok.kind f hc d fin) hd
  ·exact wpAny_Name (wpAny_loadName_free I.ok.kind f hc d fin hcd) hd
def Y8{i j pos}:PE X (.Constant (.int i) j pos) (tC<|.int i):=λ_ _ _ H _ I h=>wpAny_Constant_int ⟨.int i,H,I.tok _,⟨_,rfl⟩,h⟩
def ab1{b j pos}:PE X (.Constant (.bool b) j pos) (tC<|.bl b):=λ_ _ _ H _ I h=>Constant_bool ⟨.bl b,H,I,rfl,h⟩
def aab{j pos}:PE X (.Constant .none j pos) (tC .non):=λ_ _ _ H _ I h=>Constant_none ⟨.non,H,I,rfl,h⟩
abbrev Gl (X:Cx)(x:Str):Prop:=X.env.kindOf x=some .globalImplicit
def MY{E:af->aC->Prop}{H:Hp}{x:Str}{Q:af->aC->Prop}(I:Inv X pins σ H s)(hg:Gl X x)(hm:X.mg x=some u)(h:Q u s)
  (hd:(x == ("__debug__" : Str))=false<|>θ):wpAny (model X.prog X.w) X.A (eval (.Name x pos) X.env) Q E s:=
 Calls.Name_function_global I.ok.kind hg (Calls.loadGlobal_global (by rw[I.ok.glob];exact I.mod.glob.keeps I.bk) hm h) hd
def xD{E:af->aC->Prop}{H:Hp}{x:Str}{Q:af->aC->Prop}(I:Inv X pins σ H s)(hg:Gl X x)(hm:X.mg x=none)(hv:bootBuiltins x=some u)(h:Q u s)
  (hn:x ≠ "__name__"<|>θ) (hd:(x == ("__debug__" : Str))=false<|>θ):wpAny (model X.prog X.w) X.A (eval (.Name x pos) X.env) Q E s:=by
 obtain⟨c,h1,h2⟩:=I.mod.blt;exact Calls.Name_function_global I.ok.kind hg (Calls.loadGlobal_builtin (by rw[I.ok.glob];exact I.mod.glob.keeps I.bk) hm (by rw[I.ok.blt];exact h1.keeps I.bk) ((h2 x hn).trans hv) h) hd
def L1{x:Str}{v:V}(hg:Gl X x)(hm:X.mg x=some u)(r:RelV v u)(hd:(x == ("__debug__" : Str))=false<|>θ):PE X (.Name x pos) (tC v):=
 λ_ _ _ H _ I h=>MY I hg hm ⟨v,H,I,r,h⟩ hd
def V2{x:Str}{v:V}(hg:Gl X x)(hm:X.mg x=none)(hv:bootBuiltins x=some u)(r:RelV v u)(hn:x ≠ "__name__"<|>θ)(hd:(x == ("__debug__" : Str))=false<|>θ):PE X (.Name x pos) (tC v):=
 λ_ _ _ H _ I h=>xD I hg hm hv ⟨v,H,I,r,h⟩ hn hd
variable {a b:aE}{ta tb:TE}{pos:Pos}
variable {tA tB':TT}{rest:List aE}
abbrev abq (t u:TT):TT:=λσ H Q=>t σ H λc H1=>if c=true then u σ H1 Q else Q false H1
abbrev adI (t:TT):TT:=λσ H Q=>t σ H λc H1=>Q (!c) H1
def UN(ha:PT X a tA):PW X (.BoolOp .And [a] pos) tA:=by
 intro f pins s σ H Q I h;refine isTrue_and (ny (ha pins s σ H Q I h) λc d e=>?_)
 cases c with
 | true=>exact isTrue_and_nil e
 | false=>exact e
def aa2(ha:PT X a tA)(hb:PW X (.BoolOp .And (b::rest) pos) tB'):PW X (.BoolOp .And (a::b::rest) pos) (abq tA tB'):=by
 intro f pins s σ H Q I h;refine isTrue_and (ny (ha pins s σ H _ I h) λc e ⟨H1,I1,d⟩=>?_)
 cases c with
 | true=>exact hb f pins e σ H1 Q I1 d
 | false=>exact⟨H1,I1,d⟩
def YG(ha:PT X a tA):PT X (.UnaryOp .Not a pos) (adI tA):=by
 kd_p;exact isTrue_not<|ha pins s σ H (λc H1=>Q (!c) H1) I h
abbrev ab5 (ta tb:TE):TE:=λσ H Q=>ta σ H λx H1=>∃c,x=.bl c/\if c=true then tb σ H1 Q else Q (.bl false) H1
abbrev abn (ta:TE):TE:=λσ H Q=>ta σ H λx H1=>∃c,x=.bl c/\Q (.bl<|!c) H1
def aaM{op}{t:TE}(h:PE X a t):PE X (.BoolOp op [a] pos) t:=λpins s σ H Q I hw=>BoolOp_one<|h pins s σ H Q I hw
def ZY(ha:PE X a ta)(hb:PE X (.BoolOp .And (b::rest) pos) tb):PE X (.BoolOp .And (a::b::rest) pos) (ab5 ta tb):=by
 kd_p;refine BoolOp_and<|ny (ha pins s σ H _ I h) λv e ⟨x,H1,I1,r1,d⟩=>?_;obtain⟨c,rfl,d⟩:=d
 cases r1
 refine dI ?_
 cases c with
 | true=>exact hb pins e σ H1 Q I1 d
 | false=>exact⟨.bl false,H1,I1,rfl,d⟩
def YN(ha:PE X a ta):PE X (.UnaryOp .Not a pos) (abn ta):=by
 kd_p;refine UnaryOp_<|ny (ha pins s σ H _ I h) λv e ⟨x,H1,I1,r1,d⟩=>?_;obtain⟨c,rfl,d⟩:=d
 cases r1
 exact not_of<|dI ⟨.bl<|!c,H1,I1,rfl,d⟩
end
abbrev qj (K:au)(H:Hp)(a:ak)(xs:List V):Prop:=
 Rd H a (.lst xs) \/
  ∃(o:Obj) (c:Array af) (n:Nat),K.lookup a=some o/\o.cls=.type "list" /\ o.dict=none/\o.data=.seq c n/\c.size<=sizeLine/\Vals xs c.toList
abbrev oF (K:au)(H:Hp)(a:ak)(xs:List V):Prop:=
 Rd H a (.tup xs) \/
  ∃(o:Obj) (c:Array af) (n:Nat),K.lookup a=some o/\o.cls=.type "tuple" /\ o.dict=none/\o.data=.seq c n/\c.size<=sizeLine/\Vals xs c.toList
abbrev adp:af->Option V
 | .none=>some .non
 | .bool b=>some (.bl b)
 | .int i _=>some (.int i)
 | .str x _=>some (.str x)
 | .bytes b _=>some (.byt b)
 | .float b _=>some (.flt b)
 | .ref a=>some (.ref a)
 | .type n=>some (.ty n)
 | _=>none
def RelV.abs{x:V}(r:RelV x u):adp u=some x:=by
 cases x with
 | non=>cases r;rfl
 | bl _=>cases r;rfl
 | int _=>obtain⟨t,rfl⟩:=r;rfl
 | str _=>obtain⟨t,rfl⟩:=r;rfl
 | byt _=>obtain⟨t,rfl⟩:=r;rfl
 | flt _=>obtain⟨t,rfl⟩:=r;rfl
 | ref _=>cases r;rfl
 | ty _=>cases r;rfl
def RelV.inj{x:V}(r:RelV x u)(q:RelV y u):x=y:=aZ<|r.abs.symm.trans q.abs
theorem Vals.inj:∀{xs ys:List V}{us:bb},Vals xs us->Vals ys us->xs=ys
 | _,_,_,.nil,.nil=>rfl
 | _,_,_,.cons r t,.cons c d=>by rw[r.inj c,Vals.inj t d]
section
variable {X:Cx}{pins:bp}{σ:St}{H:Hp}{s:aC}{a:ak}{xs ys:List V}
def qj.of{K:au}(h:H a=some (.lst xs)):qj K H a xs:=.inl<|.inl h
def oF.of{K:au}(h:H a=some (.tup xs)):oF K H a xs:=.inl<|.inl h
def Inv.list(I:Inv X pins σ H s)(h:qj X.K H a xs):∃its:bb,Vals xs its/\PlainL s.heap a its.toArray/\xs.length<=sizeLine:=by
 rcases h with h|⟨o,its,n,d,hc,c,hs,f,r⟩
 ·obtain⟨z,its,n,r,e⟩:=h.ok I.hok;exact⟨its,r,⟨_,n,e,rfl,rfl,rfl⟩,z⟩
 ·refine⟨its.toList,r,⟨o,n,I.FZ a o d,hc,c,by simpa using hs⟩,?_⟩;have e:=r.length;dsimp[cW]at e
  lia
def Inv.tuple(I:Inv X pins σ H s)(h:oF X.K H a xs):∃its:bb,Vals xs its/\IsTup s.heap a its.toArray/\xs.length<=sizeLine:=by
 rcases h with h|⟨o,its,n,c,hc,_,hs,d,r⟩
 ·obtain⟨z,its,r,p⟩:=h.ok I.hok;exact⟨its,r,p.tup,z⟩
 ·refine⟨its.toList,r,⟨o,I.FZ a o c,hc,n,by simpa using hs⟩,?_⟩;have e:=r.length;dsimp[cW]at e
  lia
def Inv.HZ(I:Inv X pins σ H s)(h:qj X.K H a xs)(h':qj X.K H a ys):xs=ys:=by
 obtain⟨f,r,⟨o,n,e,_,_,d⟩,_⟩:=I.list h;obtain⟨c,k,⟨o',m,j,_,_,g⟩,_⟩:=I.list h';rw[e]at j;cases j;rw[d]at g
 injection g with d1 _
 have:f=c:=by simpa using dQ Array.toList d1
 subst this;exact r.inj k
def Inv.zd(I:Inv X pins σ H s)(h:oF X.K H a xs)(h':oF X.K H a ys):xs=ys:=by
 obtain⟨f,r,⟨o,e,_,n,d⟩,_⟩:=I.tuple h;obtain⟨c,k,⟨o',j,_,m,g⟩,_⟩:=I.tuple h';rw[e]at j;cases j;rw[d]at g
 injection g with d1 _
 have:f=c:=by simpa using dQ Array.toList d1
 subst this;exact r.inj k
end
meta abbrev Cx.CL (X:Cx)(E:af->aC->Prop):Cx:={ X with xe:=E }
meta abbrev Cx.nox (X:Cx):Cx:=X.CL λ_ _=>False
def Cx.Ok.CL{X:Cx}(ok:X.Ok)(E:af->aC->Prop):(X.CL E).Ok:=
 ⟨ok.mod,ok.kind,ok.glob,ok.blt,ok.above,ok.inj,ok.has,ok.cab,ok.hd,ok.frames,ok.stk,ok.exf,ok.bs,ok.bsz,ok.noex,ok.exfs,ok.Cb,ok.frf⟩
def Cx.Ok.wk{X:Cx}{E:af->aC->Prop}(ok:(X.CL E).Ok):X.Ok:=
 ⟨ok.mod,ok.kind,ok.glob,ok.blt,ok.above,ok.inj,ok.has,ok.cab,ok.hd,ok.frames,ok.stk,ok.exf,ok.bs,ok.bsz,ok.noex,ok.exfs,ok.Cb,ok.frf⟩
section
variable {X:Cx}{pins:bp}{σ:St}{H:Hp}{s:aC}{E:af->aC->Prop}
def Inv.CL(I:Inv X pins σ H s)(E:af->aC->Prop):Inv (X.CL E) pins σ H s:=⟨I.ok.CL E,I.os,I.bare,I.base,I.loc,I.cell,I.free,I.freeC,I.pin,I.hok,I.len⟩
def Inv.wk(I:Inv (X.CL E) pins σ H s):Inv X pins σ H s:=⟨I.ok.wk,I.os,I.bare,I.base,I.loc,I.cell,I.free,I.freeC,I.pin,I.hok,I.len⟩
def SP.wk{D:Ends}{f:Flow}(h:SP (X.CL E) pins D f s'):SP X pins D f s':=by
 cases f with
 | next=>obtain⟨c,H',I,q⟩:=h;exact⟨c,H',I.wk,q⟩
 | brk=>obtain⟨c,H',I,q⟩:=h;exact⟨c,H',I.wk,q⟩
 | cont=>obtain⟨c,H',I,q⟩:=h;exact⟨c,H',I.wk,q⟩
 | ret u=>obtain⟨v,c,H',I,r,q⟩:=h;exact⟨v,c,H',I.wk,r,q⟩
def EN.nox{st:List aF}{t:TS}(h:EN X.nox st t):EN X st t:=λpins s σ H D I hw=>
 jj (h pins s σ H D (I.CL _) hw) (λ_ _ q=>q.wk) λ_ _ z=>False.elim z
end
section
variable {X:Cx}{st:aF}{rest:List aF}{t u:TS}{e:aE}{te:TE}{pos:Pos}
abbrev acm:TS:=λD σ H=>D.nx σ H
abbrev abg (t u:TS):TS:=λD σ H=>t { D with nx:=u D } σ H
def Xd:EN X [] acm:=λ_ _ σ H _ I h=>i_ ⟨σ,H,I,h⟩
def Rr(h1:PS X st t)(h2:EN X rest u):EN X (st::rest) (abg t u):=by
 kst_p;refine wpAny_execs_cons (ny (h1 pins s σ H { D with nx:=u D } I h) λf d q=>?_)
 cases f with
 | next=>
  obtain⟨c,H',e,q⟩:=q;exact h2 pins d c H' D e q
 | ret v=>exact q
 | brk=>exact q
 | cont=>exact q
def Wv(h1:PS X st t):EN X [st] t:=by
 kst_p;refine wpAny_execs_cons (ny (h1 pins s σ H D I h) λf c q=>?_)
 cases f with
 | next=>exact i_ q
 | ret v=>exact q
 | brk=>exact q
 | cont=>exact q
def Inv.quiet{H:Hp}(I:Inv X pins σ H s):interactive X.env=false:=by simp[interactive,I.ok.kind]
abbrev abV (te:TE):TS:=λD σ H=>te σ H λ_ H1=>D.nx σ H1
def WM(he:PE X e te)(hs:swapsWith e none pos.line X.env=pure false<|>ι):PS X (.Expr e pos) (abV te):=by
 kst_p;exact wpAny_Expr_any (ny (he pins s σ H _ I h) λv d ⟨x,H1,I1,r1,c⟩=>⟨σ,H1,I1,c⟩) I.quiet hs
abbrev ad5 (te:TE):TS:=λD σ H=>te σ H D.rt
def Zr(he:PE X e te):PS X (.Return (some e) pos) (ad5 te):=by
 kst_p;exact wpAny_Return_some<|ny (he pins s σ H _ I h) λv d ⟨x,H1,I1,r1,c⟩=>⟨x,σ,H1,I1,r1,c⟩
abbrev ab2:TS:=λD _ H=>D.rt .non H
def W7:PS X (.Return none pos) ab2:=λ_ _ σ H _ I h=>wpAny_Return_none ⟨.non,σ,H,I,rfl,h⟩
abbrev ad0 (c:TT)(t u:TS):TS:=λD σ H=>c σ H λb H1=>if b=true then t D σ H1 else u D σ H1
def abx{c:aE}{a:List aF}{tc:TT}(hc:PT X c tc)(ha:EN X a t)(hb:EN X b u):PS X (.If c a b pos) (ad0 tc t u):=by
 kst_p;refine wpAny_If (ny (hc pins s σ H _ I h) λd f ⟨H1,I1,e⟩=>?_)
 cases d with
 | true=>exact ha pins f σ H1 D I1 e
 | false=>exact hb pins f σ H1 D I1 e
abbrev ZF:TS:=λ_ _ _=>False
def Th:PS X st ZF:=λ_ _ _ _ _ _ h=>h.elim
end
meta abbrev TG:=V->St->Hp->(St->Hp->Prop)->Prop
meta abbrev Xq:=List V->St->Hp->(St->Hp->Prop)->Prop
abbrev PG (X:Cx)(target:aE)(t:TG):Prop:=
 ∀(pins:bp) (s:aC) (σ:St) (H:Hp) (v:V) (u:af) (Q:St->Hp->Prop),Inv X pins σ H s->RelV v u->t v σ H Q ->
  wpAny (model X.prog X.w) X.A (assign target X.env u) (λ_ s'=>∃c H',Inv X pins c H' s'/\Q c H') X.xe s
abbrev PGs (X:Cx)(ts:List aE)(t:Xq):Prop:=
 ∀(pins:bp) (s:aC) (σ:St) (H:Hp) (d:List V) (us:bb) (Q:St->Hp->Prop),Inv X pins σ H s->Vals d us->t d σ H Q ->
  wpAny (model X.prog X.w) X.A (assignInOrder ((assignEach ts X.env).map (·.2)) us) (λ_ s'=>∃c H',Inv X pins c H' s'/\Q c H') X.xe s
meta abbrev Fo:=V->V->V->Hp->(Hp->Prop)->Prop
abbrev EA (X:Cx)(t:Fo):Prop:=
 ∀(pins:bp) (s:aC) (σ:St) (H:Hp) (o i v:V) (ov iv u:af) (Q:Hp->Prop),Inv X pins σ H s->RelV o ov->RelV i iv->RelV v u->t o i v H Q ->
  wpAny (model X.prog X.w) X.A (setItem ov iv u) (λ_ s'=>∃H',Inv X pins σ H' s'/\Q H') X.xe s
meta abbrev Z3:=V->V->Hp->VK->Prop
abbrev Xi (X:Cx)(op:Operator)(t:Z3):Prop:=
 ∀(pins:bp) (s:aC) (σ:St) (H:Hp) (x y:V) (v u:af) (Q:VK),Inv X pins σ H s->RelV x v->RelV y u->t x y H Q ->
  wpAny (model X.prog X.w) X.A (inplaceOp op v u) (EP X pins σ Q) X.xe s
section
variable {X:Cx}{pos:Pos}
abbrev Xp (i:Nat):TG:=λv σ H Q=>Q (σ.set i<|some v) H
def Wf{i:Nat}{x:Str}(hN:X.N.Nodup)(hi:X.N[i]?=some x)(hx:Loc X.env.scope x)(hf:X.fn x=true\/X.env.scope.names.lookup x=some .local<|>η):PG X (.Name x pos) (Xp i):=by
 intro pins s σ H v u Q I r h;exact wpAny_assign_Name<|Bq I hN hi hx r (λs' c=>⟨_,H,c,h⟩) hf
abbrev aev:Xq:=λc σ H Q=>c=[]/\Q σ H
abbrev acH (t:TG)(u:Xq):Xq:=λd σ H Q=>∃v r,d=v::r/\t v σ H λc H'=>u r c H' Q
def UM:PGs X [] aev:=by
 intro pins s σ H c us Q I r h;obtain⟨e,h⟩:=h;subst e
 cases r
 exact assignInOrder_nil ⟨σ,H,I,h⟩
def Ue{e:aE}{t:TG}{u:Xq}(h1:PG X e t)(h2:PGs X es u)
  (hs:(assignEach (e::es) X.env).map (·.2)=assign e X.env::(assignEach es X.env).map (·.2)<|>ι):PGs X (e::es) (acH t u):=by
 intro pins s σ H j us Q I r h;obtain⟨v,k,e1,h⟩:=h;subst e1
 cases r with
 | cons r f=>
  rw[hs];refine assignInOrder_cons<|ny (h1 pins s σ H _ _ _ I r h) λ_ d ⟨c,H1,I1,g⟩=>?_;exact h2 pins d c H1 _ _ Q I1 f g
abbrev adL (K:au)(n:Nat)(t:Xq):TG:=λv σ H Q=>∃a xs,v=.ref a/\oF K H a xs/\xs.length=n/\t xs σ H Q
def YU{k:Nat}{t:Xq}{n:Nat}(hc:X.calm=true)(h:PGs X es t)
  (hn:(assignEach es X.env).length=n<|>ι) (hst:(assignEach es X.env).findIdx? (·.1)=none<|>ι):PG X (.Tuple es k pos) (adL X.K n t):=by
 intro pins s σ H v u Q I r hw;obtain⟨a,xs,e1,g,f,hw⟩:=hw;subst e1
 cases r
 obtain⟨d,c,m,p⟩:=I.tuple g;refine assign_Tuple_tuple (I.ok.hd hc) m (by simp[hn,<- f,c.length]) hst λh' j=>?_;have I1:Inv X pins σ H { s with heap:=h' }:=I.kept (t':=s.toks) λb o e=>j b o (bD<|bA e) e;exact h pins _ σ H xs _ Q I1 (by simpa using c) hw
abbrev aey (to ti:TE)(t:Fo):TG:=λv σ H Q=>to σ H λo H1=>ti σ H1 λi H2=>t o i v H2 λH3=>Q σ H3
def EC{to ti:TE}{t:Fo}(ho:PE X o to)(hi:PE X i ti)(hs:EA X t)
  (ha:(∀v,assign (.Subscript o i pos) X.env v=(do
   let ov <- holding [v] (eval o X.env)
   let iv <- holding [v,ov] (eval i X.env)
   standAt pos
   holding [v,ov,iv] (setItem ov iv v)
   release [v,ov,iv] []))<|>ν):PG X (.Subscript o i pos) (aey to ti t):=by
 intro pins s σ H v u Q I r h;rw[ha];refine aG<|dw<|ny (ho pins s σ H _ I h) λov c ⟨x,H1,I1,r1,j⟩=>?_;refine aG<|dw<|ny (hi pins c σ H1 _ I1 j) λiv f ⟨y,H2,e,r2,g⟩=>?_;refine aG<|wpAny_standAt<|aG<|dw<|ny (hs pins f σ H2 x y v ov iv u _ e r1 r2 r g) λ_ m ⟨H3,d,k⟩=>?_;exact wpAny_release ⟨σ,H3,d,k⟩
abbrev aaD (te:TE)(g:TG):TS:=λD σ H=>te σ H λx H1=>g x σ H1 D.nx
def aaF{tg e:aE}{te:TE}{g:TG}(he:PE X e te)(hg:PG X tg g)(hs:swapsWithSole [tg] e pos.line X.env=pure false<|>ι)(hw:swappedStores [tg] e X.env=pure none<|>ι)
  (h1:(assignEach [tg] X.env).map (·.2)=[assign tg X.env]<|>ι):PS X (.Assign [tg] e pos) (aaD te g):=by
 kst_p;refine wpAny_Assign_stores (ny (he pins s σ H _ I h) λv d ⟨x,H1,I1,r1,c⟩=>?_) hs hw;rw[h1];exact ny (hg pins d σ H1 x v _ I1 r1 c) λ_ f q=>q
def YV{i:Nat}{x:Str}{e:aE}{te:TE}(hN:X.N.Nodup)(hi:X.N[i]?=some x)(hx:Loc X.env.scope x)(he:PE X e te)(hs:(swapsWith e (some<|.Name x pos') pos.line X.env=pure false)<|>ι)(hf:X.fn x=true\/X.env.scope.names.lookup x=some .local<|>η) :
  PS X (.Assign [.Name x pos'] e pos) (aaD te<|Xp i):=by
 kst_p;refine wpAny_Assign_Name (ny (he pins s σ H _ I h) λv f ⟨y,H1,I1,r1,d⟩=>?_) hs;exact Bq I1 hN hi hx r1 (λg c=>⟨_,H1,c,d⟩) hf
abbrev adK (i:Nat)(te:TE)(ti:Z3):TS:=λD σ H=>∃x,σ[i]?=some (some x)/\te σ H λy H1=>ti x y H1 λz H2=>D.nx (σ.set i<|some z) H2
def YF{i:Nat}{x:Str}{e:aE}{te:TE}{ti:Z3}(hN:X.N.Nodup)(hi:X.N[i]?=some x)(hx:Loc X.env.scope x)(he:PE X e te)(ho:Xi X op ti)(hf:X.fn x=true\/X.env.scope.names.lookup x=some .local<|>η) :
  PS X (.AugAssign (.Name x pos') op e pos) (adK i te ti):=by
 kst_p;obtain⟨v,e1,h⟩:=h;obtain⟨m,hn,F⟩:=I.loc;have p:Vis X.env.scope x:=by rcases hx with k|k;exact .inl k;exact .inr (.inl k)
 obtain⟨u,r,l⟩:=F i x v hi e1 p;refine wpAny_AugAssign_Name ?_;have q:wpAny (model X.prog X.w) X.A (eval e X.env) (λw g=>wpAny (model X.prog X.w) X.A (inplaceOp op u w) (λr j=>wpAny (model X.prog X.w) X.A (storeName X.env x r) (λ_=>SP X pins D .next) X.xe j) X.xe g) X.xe s:=by
  refine ny (he pins s σ H _ I h) λw B ⟨y,H1,I1,r1,L⟩=>?_;refine ny (ho pins B σ H1 v y u w _ I1 r r1 L) λz O ⟨P,H2,J,r2,K⟩=>?_;exact Bq J hN hi hx r2 (λM G=>⟨_,H2,G,K⟩) hf
 rcases l with⟨d,C⟩|⟨d,c,hc,f⟩
 ·exact wpAny_loadName_local I.ok.kind d hn C q
 ·rcases d with d|d
  ·exact wpAny_loadName_cell I.ok.kind d hc f q
  ·rcases hx with k|k
   ·have:X.env.scope.names.lookup x=some .free:=d;rw[k]at this;cases this
   ·have:X.env.scope.names.lookup x=some .free:=d;rw[k]at this;cases this
abbrev acS (to ti te:TE)(tget:V->V->Hp->VK->Prop)(tip:Z3)(tset:Fo):TS:=λD σ H=>to σ H λo H1=>ti σ H1 λi H2=>tget o i H2 λx H3=>te σ H3 λy c=>tip x y c λz e=>tset o i z e λd=>D.nx σ d
abbrev YK (X:Cx)(t:V->V->Hp->VK->Prop):Prop:=
 ∀(pins:bp) (s:aC) (σ:St) (H:Hp) (o i:V) (ov iv:af) (Q:VK),Inv X pins σ H s->RelV o ov->RelV i iv->t o i H Q ->
  wpAny (model X.prog X.w) X.A (getItem ov iv) (EP X pins σ Q) X.xe s
def Vu{e:aE}{to ti te:TE}{tget:V->V->Hp->VK->Prop}{tip:Z3}{tset:Fo}(ho:PE X o to)(hi:PE X i ti)(hg:YK X tget)(he:PE X e te)(hp:Xi X op tip)(hs:EA X tset)
  (ha:∀ov iv new,augStore i ov iv new=(do holding [new,ov,iv] (setItem ov iv new);release [new,ov,iv] [];pure .next):=by intros;rfl):PS X (.AugAssign (.Subscript o i tpos) op e pos) (acS to ti te tget tip tset):=by
 kst_p;refine wpAny_AugAssign_SubscriptAny (ny (ho pins s σ H _ I h) λov f ⟨d,H1,I1,r1,U⟩=>?_) ha;refine ny (hi pins f σ H1 _ I1 U) λiv N ⟨c,H2,M,r2,P⟩=>?_;refine ny (hg pins N σ H2 d c ov iv _ M r1 r2 P) λold m ⟨J,H3,K,G,Y⟩=>?_;refine ny (he pins m σ H3 _ K Y) λv O ⟨W,q,j,r4,Z⟩=>?_;refine ny (hp pins O σ q J W old v _ j G r4 Z) λnew g ⟨F,k,I5,p,L⟩=>?_;exact ny (hs pins g σ k d c F ov iv new _ I5 r1 r2 p L) λ_ s6 ⟨C,T,B⟩=>⟨σ,C,T,B⟩
abbrev ipI (f:Int->Int->Int):Z3:=λx y H Q=>∃i j,x=.int i/\y=.int j/\Q (.int<|f i j) H
def aaN:Xi X .Add (ipI λi j=>i+j):=by
 intro pins s σ H x y v u Q I r1 r2 h;obtain⟨i,j,e1,e2,q⟩:=h;subst e1;subst e2;obtain⟨t,rfl⟩:=r1;obtain⟨c,rfl⟩:=r2;exact iadd_int ⟨.int _,H,I.tok _,⟨_,rfl⟩,q⟩
def ZN:Xi X .Sub (ipI λi j=>i-j):=by
 intro pins s σ H x y v u Q I r1 r2 h;obtain⟨i,j,e1,e2,q⟩:=h;subst e1;subst e2;obtain⟨t,rfl⟩:=r1;obtain⟨c,rfl⟩:=r2;exact isub_int ⟨.int _,H,I.tok _,⟨_,rfl⟩,q⟩
end
section
variable {X:Cx}{pos:Pos}
abbrev Qq (c:TT)(tb:TS):TS:=λD σ H=>∃W:Nat->St->Hp->Prop,(∃m,W m σ H)/\∀m σ H,W m σ H ->
 c σ H λb H1=>if b=true then ∃N:St->Hp->Prop,(∀d H',N d H'->∃e,e<m/\W e d H')/\tb { D with nx:=N,ct:=N,bk:=D.nx } σ H1 else D.nx σ H1
def QI{c:aE}{tc:TT}{tb:TS}(hp:PassesOwn (model X.prog X.w) X.A X.env X.xe)(hc:PT X c tc)(hb:EN X body tb):PS X (.While c body [] pos) (Qq tc tb):=by
 kst_p;obtain⟨W,⟨M,J⟩,turn⟩:=h;refine wpAny_While<|codeAny_whileLoop (λn s'=>∃g H',Inv X pins g H' s'/\W n g H') ?_ M ⟨σ,H,I,J⟩;rintro n K ⟨e,H1,I1,O⟩;refine fm hp (ny (hc pins K e H1 _ I1<|turn n e H1 O) λb L ⟨H2,F,j⟩=>?_)
 cases b with
 | true=>
  obtain⟨N,G,j⟩:=j;rw[aM rfl];refine fm hp (ny (hb pins L e H2 _ F j) λf P k=>?_)
  cases f with
  | next=>
   obtain⟨d,H3,m,C⟩:=k;obtain⟨B,q,p⟩:=G d H3 C;exact⟨B,q,d,H3,m,p⟩
  | cont=>
   obtain⟨d,H3,m,C⟩:=k;obtain⟨B,q,p⟩:=G d H3 C;exact⟨B,q,d,H3,m,p⟩
  | brk=>exact k
  | ret v=>exact k
 | false=>
  rw[aJ bR];exact i_ ⟨e,H2,F,j⟩
end
structure It where
 go:Nat->Hp->Prop
 yld:Nat->Hp->V->Hp->Prop
 stop:Nat->Hp->Prop
abbrev zh (X:Cx)(pins:bp)(H:Hp)(b:ak):Prop:=
 H b=none/\b≠X.env.locals/\b∉X.fs/\(b∈X.ex\/X.s₀.heap.objs.size<=b)/\(∀x c,X.env.cells.lookup x=some c->c≠b)/\∀p∈X.pn++pins,p.1≠b
def Inv.Gx{X:Cx}{H H':Hp}{s:aC}(I:Inv X pins σ H s)(hb:s.heap.objs.size<=b)(hn:H' b=none):zh X pins H' b:=by
 refine⟨hn,ne_of_gt<|b6 I.lt hb,I.aet hb,.inr<|bH I.sz hb,λx c e z=>?_,λp d z=>?_⟩
 ·obtain⟨v,q⟩:=I.cell x c e;exact absurd (b6 q.lt<|by rw[z];exact hb) (gb _)
 ·exact absurd (b6 (bA (I.pin p d).1)<|by rw[z];exact hb)<|gb _
structure Turn (P:aj)(w:ah)(K:au)(tg:aE)(J:It)(fp:bd)(it:ak)(tn:Nat->aq->Prop):Prop where
 mem:it∈fp
 obj:∀i h,tn i h->∀b∈fp,∃o,h.get? b=some o/\∀v,o.data≠.cell v
 keep:∀i h h',tn i h->(∀b∈fp,∀o,h.get? b=some o->h'.get? b=some o)->tn i h'
 item:∀(X:Cx),X.prog=P->X.w=w->X.K=K->X.calm=true->∀(i:Nat) (pins:bp) (s:aC) (σ:St) (H:Hp) (E:af->aC->Prop),Inv X pins σ H s->(∀b∈fp,zh X pins H b)->tn i s.heap->J.go i H ->
  wpAny (model P w) X.A (pyNext<|.ref it) (λr s1=>∃u,r=some u /\
   wpAny (model P w) X.A (letOwnedTupleGo tg (.ref it) u) (λ_ s2=>∃x H',Inv X pins σ H' s2/\RelV x u/\J.yld i H x H'/\tn (i+1) s2.heap/\∀b∈fp,H' b=none) E s1) E s
 done:∀(X:Cx),X.prog=P->X.w=w->X.K=K->X.calm=true->∀(i:Nat) (pins:bp) (s:aC) (σ:St) (H:Hp) (E:af->aC->Prop),Inv X pins σ H s->(∀b∈fp,zh X pins H b)->tn i s.heap->J.stop i H ->
  wpAny (model P w) X.A (pyNext<|.ref it) (λr s1=>r=none/\Inv X pins σ H s1) E s
 self:∀(A:aA) (i:Nat) (s:aC) (Q:af->aC->Prop) (E:af->aC->Prop),tn i s.heap->Q (.ref it) s->wpAny (model P w) A (pyIter<|.ref it) Q E s
meta abbrev TI:=St->Hp->(It->Hp->Prop)->Prop
abbrev PIE (X:Cx)(pins:bp)(σ:St)(tg:aE)(R:It->Hp->Prop)(itv:af)(s2:aC):Prop:=
 ∃(it:ak) (c:bd) (d:Nat->aq->Prop) (J:It) (H':Hp),itv=.ref it/\Inv X pins σ H' s2/\Turn X.prog X.w X.K tg J c it d/\d 0 s2.heap/\(∀b∈c,zh X pins H' b)/\R J H'
abbrev PI (X:Cx)(tg iter:aE)(wi:TI):Prop:=
 ∀(pins:bp) (s:aC) (σ:St) (H:Hp) (R:It->Hp->Prop),Inv X pins σ H s->wi σ H R ->
  wpAny (model X.prog X.w) X.A (eval iter X.env) (λv c=>wpAny (model X.prog X.w) X.A (pyIter v) (PIE X pins σ tg R) X.xe c) X.xe s
def F_{A:aA}{E:af->aC->Prop}{s:aC}{o:Obj}{n:String}{Q:Unit->aC->Prop}(ho:s.heap.get? it=some o)(hc:o.cls=.type n)(hd:o.data=.fields vs)
  (hn:["enumerate", "zip", "dict_itemiterator", "dict_reverseitemiterator", "odict_iterator", "itertools.zip_longest", "itertools.pairwise"].contains n=false) (hQ:Q Unit.unit s):wpAny M A (letOwnedTupleGo tg (.ref it) u) Q E s:=by
 unfold letOwnedTupleGo
 cases tg<;>first
  | exact aQ hQ
  | (cases u<;>first
    | exact aQ hQ
    | (refine aG (wpAny_load ho ?_)
       rw[hc,hd];show wpAny M A (if (["enumerate", "zip", "dict_itemiterator", "dict_reverseitemiterator", "odict_iterator", "itertools.zip_longest", "itertools.pairwise"].contains n && vs[0]? == some (rawInt _))=true then _ else _) Q E s;rw[aJ<|by intro h;rw[hn,jk]at h;cases h];exact aQ hQ))
abbrev Itl (K:au)(a:ak):It:=
 ⟨λi H=>∃xs x,qj K H a xs/\xs[i]?=some x,λi H x H'=>H'=H/\∀xs,qj K H a xs->xs[i]?=some x,λi H=>∃xs,qj K H a xs/\xs.length<=i⟩
abbrev Itt (K:au)(a:ak):It:=
 ⟨λi H=>∃xs x,oF K H a xs/\xs[i]?=some x,λi H x H'=>H'=H/\∀xs,oF K H a xs->xs[i]?=some x,λi H=>∃xs,oF K H a xs/\xs.length<=i⟩
abbrev Itr (lo:Int)(n:Nat):It:=⟨λi _=>i<n,λi H x H'=>H'=H/\x=.int (lo+i),λi _=>n<=i⟩
def Nz{P:aj}{w:ah}{K:au}(a it:ak):Turn P w K tg (Itl K a) [it] it (λi h=>h.IsListIter it a i) where
 mem:=by simp
 obj:=λi h st b f=>by
  have e:b=it:=by simpa using f
  subst e;obtain⟨o,e,c,d⟩:=st;exact⟨o,e,λv z=>by rw[d]at z;cases z⟩
 keep:=λi h h' st k=>st.at λo e=>k it (by simp) o e
 item:=by
  w_up;subst hP hw hK;obtain⟨xs,x,j,q⟩:=hg;obtain⟨m,B,p,C⟩:=I.list j;obtain⟨u,G,L⟩:=B.get q;kj_on;refine wpAny_pyNext_list_item st p.isList (x:=u) (by simpa using G) λh' g J=>?_;have I1:Inv X pins σ H { s with heap:=h' }:=I.turned (t':=s.toks) (λb o f e=>(J.2 b f).trans e) f0 f1 f3 f4 f5;obtain⟨o,e,c,d⟩:=id g;exact⟨u,rfl,F_ (s:={ s with heap:=h' }) e c d ⋯ ⟨x,H,I1,L,⟨rfl,λys F=>by rw[I.HZ F j];exact q⟩,g,λb f=>(hf b f).1⟩⟩
 done:=by
  w_up;subst hP hw hK;obtain⟨xs,j,q⟩:=hg;obtain⟨m,B,p,C⟩:=I.list j;kj_on;have N:=B.length;exact wpAny_pyNext_list_end (I.ok.hd hc) st p.isList (by simp;omega) λh' M=>⟨rfl,I.turned (t':=s.toks) (λb o f e=>M b o f e) f0 f1 f3 f4 f5⟩
 self:=λ_ _ _ _ _ st h=>wpAny_pyIter_listiter st h
def IC{P:aj}{w:ah}{K:au}(a it:ak):Turn P w K tg (Itt K a) [it] it (λi h=>h.IsTupleIter it a i) where
 mem:=by simp
 obj:=λi h st b g=>by
  have e:b=it:=by simpa using g
  subst e;obtain⟨o,e,c,d⟩:=st;exact⟨o,e,λv z=>by rw[d]at z;cases z⟩
 keep:=λi h h' st k=>st.at λo e=>k it (by simp) o e
 item:=by
  w_up;subst hP hw hK;obtain⟨xs,x,m,q⟩:=hg;obtain⟨f,B,p,C⟩:=I.tuple m;obtain⟨u,G,L⟩:=B.get q;kj_on;refine wpAny_pyNext_tuple_item st (show s.heap.IsTuple a f.toArray from p) (x:=u) (by simpa using G) λh' j J=>?_;have I1:Inv X pins σ H { s with heap:=h' }:=I.turned (t':=s.toks) (λb o g e=>(J.2 b g).trans e) f0 f1 f3 f4 f5;obtain⟨o,e,c,d⟩:=id j;exact⟨u,rfl,F_ (s:={ s with heap:=h' }) e c d ⋯ ⟨x,H,I1,L,⟨rfl,λys F=>by rw[I.zd F m];exact q⟩,j,λb g=>(hf b g).1⟩⟩
 done:=by
  w_up;subst hP hw hK;obtain⟨xs,m,q⟩:=hg;obtain⟨f,B,p,C⟩:=I.tuple m;kj_on;have N:=B.length;exact wpAny_pyNext_tuple_end (I.ok.hd hc) st (show s.heap.IsTuple a f.toArray from p) (by simp;omega) λh' M=>⟨rfl,I.turned (t':=s.toks) (λb o g e=>M b o g e) f0 f1 f3 f4 f5⟩
 self:=λ_ _ _ _ _ st h=>wpAny_pyIter_tupleiter st h
def IX{P:aj}{w:ah}{K:au}(it:ak)(lo:Int)(n:Nat):Turn P w K tg (Itr lo n) [it] it (λi h=>IsRangeIter h it (lo+(i:Nat) * 1) ((n:Int)-(i:Nat)) 1) where
 mem:=by simp
 obj:=λi h st b c=>by
  have e:b=it:=by simpa using c
  subst e;exact⟨_,st,λv z=>by
   have g:Data.fields _=Data.cell v:=z
   cases g⟩
 keep:=λi h h' st k=>k it (by simp) _ st
 item:=by
  w_up;subst hP hw hK;kj_on;have W:=Walks.range (prog:=X.prog) (w:=X.w) (I.ok.hd hc) it lo 1 n;refine W.item i s _ _ hg st λv h' f hv d m=>?_;obtain⟨t,rfl⟩:=hv;have I1:Inv X pins σ H { s with heap:=h',toks:=f }:=I.turned (λb o c e=>m b o (by simpa using c) e) f0 f1 f3 f4 f5;refine⟨_,rfl,F_ (s:={ s with heap:=h',toks:=f }) (n := "range_iterator") d rfl rfl ⋯ ⟨.int<|lo+i,H,I1,⟨t,?_⟩,⟨rfl,rfl⟩,d,λb c=>(hf b c).1⟩⟩;rw[Int.mul_one]
 done:=by
  w_up;subst hP hw hK;kj_on;exact wpAny_pyNext_range_end (I.ok.hd hc) st (by have:n<=i:=hg;lia) λh' j=>⟨rfl,I.turned (t':=s.toks) (λb o c e=>j b o c e) f0 f1 f3 f4 f5⟩
 self:=λ_ _ _ _ _ st h=>wpAny_pyIter_rangeiter st h
section
variable {X:Cx}{tg:aE}
abbrev acQ (K:au)(tl:TE):TI:=λσ H R=>tl σ H λx H1=>∃a,x=.ref a/\(∃xs,qj K H1 a xs)/\R (Itl K a) H1
abbrev adt (K:au)(tl:TE):TI:=λσ H R=>tl σ H λx H1=>∃a,x=.ref a/\(∃xs,oF K H1 a xs)/\R (Itt K a) H1
def LG{l:aE}{tl:TE}(hl:PE X l tl):PI X tg l (acQ X.K tl):=by
 intro pins s σ H R I h;refine ny (hl pins s σ H _ I h) λv c ⟨x,H1,I1,r1,j⟩=>?_;obtain⟨a,e,⟨xs,f⟩,q⟩:=j;subst e
 cases r1
 obtain⟨d,m,p,k⟩:=I1.list f;refine jy p.isList ?_;refine⟨c.heap.objs.size,[c.heap.objs.size],_,_,H1,rfl,I1.kept (t':=c.toks) λb o e=>aR _ e,Nz a _,⟨_,bz _ rfl,rfl,rfl⟩,λb g=>?_,q⟩;have e:b=c.heap.objs.size:=by simpa using g
 subst e;kln_w
def TY{l:aE}{tl:TE}(hl:PE X l tl):PI X tg l (adt X.K tl):=by
 intro pins s σ H R I h;refine ny (hl pins s σ H _ I h) λv c ⟨x,H1,I1,r1,j⟩=>?_;obtain⟨a,e,⟨xs,f⟩,q⟩:=j;subst e
 cases r1
 obtain⟨d,m,p,k⟩:=I1.tuple f;refine gT (show c.heap.IsTuple a d.toArray from p) ?_;refine⟨c.heap.objs.size,[c.heap.objs.size],_,_,H1,rfl,I1.kept (t':=c.toks) λb o e=>aR _ e,IC a _,⟨_,bz _ rfl,rfl,rfl⟩,λb g=>?_,q⟩;have e:b=c.heap.objs.size:=by simpa using g
 subst e;kln_w
def Hv{H:Hp}{s:aC}{R:It->Hp->Prop}{E:af->aC->Prop}{lo hi:Int}{t v:Tok}{tk:Nat}(I:Inv X pins σ H s)(h1:-(2 ^ 62)<=lo)(h2:lo<2 ^ 62)(h3:-(2 ^ 62)<=hi)(h4:hi<2 ^ 62)
  (q:R (Itr lo (hi-lo).toNat) H):wpAny (model X.prog X.w) X.A (pyIter<|.ref s.heap.objs.size) (PIE X pins σ tg R) E { s with heap:=s.heap.push { cls:=.type "range",data:=.fields #[.int lo t,.int hi u,.int 1 v]},toks:=tk }:=by
 refine wpAny_pyIter_range (IsRange.new ..) (small_one h1 h2 h3 h4) ?_;have I1:Inv X pins σ H { s with heap:=s.heap.push { cls:=.type "range",data:=.fields #[.int lo t,.int hi u,.int 1 v]},toks:=tk }:=I.kept λb o e=>aR _ e;refine⟨(s.heap.push { cls:=.type "range",data:=.fields #[.int lo t,.int hi u,.int 1 v]}).objs.size,[(s.heap.push { cls:=.type "range",data:=.fields #[.int lo t,.int hi u,.int 1 v]}).objs.size],_,_,H,rfl,
  I1.kept (t':=tk) λb o e=>aR _ e,IX _ lo (hi-lo).toNat,?_,λb c=>?_,q⟩
 ·have e1:lo+((0:Nat):Int) * 1=lo:=by simp
  have e2:(((hi-lo).toNat:Nat):Int)-((0:Nat):Int)=Builtin.Range.rangeSize lo hi 1:=by rw[rangeSize_one];split<;>lia
  skip
  rw[e1,e2];exact bz _ rfl
 ·have e:b=(s.heap.push { cls:=.type "range",data:=.fields #[.int lo t,.int hi u,.int 1 v]}).objs.size:=by simpa using c
  subst e;kln_w
abbrev ug (ta:TA):TI:=λσ H R=>ta σ H λc H1=>∃j:Int,c=[.int j]/\-(2 ^ 62)<=j/\j<2 ^ 62/\R (Itr 0 j.toNat) H1
abbrev zX (ta:TA):TI:=λσ H R=>ta σ H λc H1=>∃i j:Int,c=[.int i,.int j]/\(-(2 ^ 62)<=i/\i<2 ^ 62/\-(2 ^ 62)<=j/\j<2 ^ 62)/\R (Itr i (j-i).toNat) H1
def NW{a:aE}{ta:TA}{p:Pos}(hg:Gl X "range")(hm:X.mg "range" = none)(ha:PA X [a] ta)(hs:starEach [a] X.env=[(false,eval a X.env)]<|>ι):PI X tg (.Call (.Name "range" p) [a] [] pos) (ug ta):=by
 intro pins s σ H R I h;refine Call_<|xD I hg hm boot_range<|dZ (ny (ha pos pins s σ H _ I h) λus g ⟨k,H1,I1,r1,c⟩=>?_) hs rfl;obtain⟨j,e,c,d,q⟩:=c;subst e
 cases r1 with
 | cons r f=>
  cases f
  obtain⟨t,rfl⟩:=r;exact call_range_1<|Hv I1 () () c d<|by simpa using q
def Of{a b:aE}{ta:TA}{p:Pos}(hg:Gl X "range")(hm:X.mg "range" = none)(ha:PA X [a,b] ta)(hs:starEach [a,b] X.env=[(false,eval a X.env),(false,eval b X.env)]<|>ι)(hs2:starEach [b] X.env=[(false,eval b X.env)]<|>ι) :
  PI X tg (.Call (.Name "range" p) [a,b] [] pos) (zX ta):=by
 intro pins s σ H R I h;refine Call_ (xD I hg hm boot_range<|dZ (ny (ha pos pins s σ H _ I h) λus B ⟨C,H1,I1,r1,d⟩=>?_) (by rw[hs,hs2])<|by rw[hs2];rfl);obtain⟨i,j,e,⟨d,g,k,m⟩,q⟩:=d;subst e
 cases r1 with
 | cons r c=>
  cases c with
  | cons f c=>
   cases c
   obtain⟨t,rfl⟩:=r;obtain⟨F,rfl⟩:=f;exact call_range_2<|Hv I1 d g k m q
abbrev adH (wi:TI)(g:TG)(tb:TS):TS:=λD σ H=>wi σ H λJ H1=>∃W:Nat->Nat->St->Hp->Prop,(∃m,W 0 m σ H1)/\∀i m σ H,W i m σ H ->
 (J.stop i H/\D.nx σ H)\/(J.go i H/\∃N:St->Hp->Prop,(∀c H',N c H'->∃e,e<m/\W (i+1) e c H')/\∀x H',J.yld i H x H'->g x σ H' λd H2=>tb { D with nx:=N,ct:=N,bk:=D.nx } d H2)
abbrev Bp (fp:bd)(h:aq):bp:=fp.filterMap λb=>(h.get? b).map λo=>(b,o)
def uF{fp:bd}{h:aq}{b:ak}(hb:b∈fp)(e:h.get? b=some o):(b,o)∈Bp fp h:=List.mem_filterMap.mpr ⟨b,hb,by rw[e];rfl⟩
def NS{fp:bd}{h:aq}{p:ak×Obj}(hp:p∈Bp fp h):p.1∈fp/\h.get? p.1=some p.2:=by
 obtain⟨b,c,e⟩:=List.mem_filterMap.mp hp
 cases q:h.get? b with
 | none=>rw[q]at e;cases e
 | some o=>
  rw[q]at e;have d:(b,o)=p:=aZ e;subst d;exact⟨c,q⟩
def Inv.pinned{H:Hp}{s:aC}{fp:bd}(I:Inv X pins σ H s)(hf:∀b∈fp,zh X pins H b)(ho:∀b∈fp,∃o,s.heap.get? b=some o/\∀v,o.data≠.cell v):Inv X (pins++Bp fp s.heap) σ H s:=
 I.Lv λp g=>(bG.mp g).elim (λz=>I.pin p<|cu _ z) λz=>by
  obtain⟨f,e⟩:=NS z;obtain⟨f0,f1,f2,_⟩:=hf p.1 f;obtain⟨o,c,d⟩:=ho p.1 f;rw[e]at c;cases c;exact⟨e,f0,f1,f2,d⟩
def Inv.yM{pl:bp}{H:Hp}(I:Inv X (pins++pl) σ H s):Inv X pins σ H s:=I.Lv λp c=>I.pin p<|cu _<|fy _ c
def ZQ{iter:aE}{wi:TI}{g:TG}{tb:TS}(hp:PassesOwn (model X.prog X.w) X.A X.env X.xe)(hc:X.calm=true)(hi:PI X tg iter wi)(hg:PG X tg g)(hb:EN X body tb)
  (hs:(∀x,foldedSetIterable iter X.env x=pure x)<|>ν):PS X (.For tg iter body [] pos) (adH wi g tb):=by
 kst_p;refine wpAny_For (ny (hi pins s σ H _ I h) λv s1 h1=>ny h1 λitv s2 h2=>?_) hs;obtain⟨it,G,tn,J,H2,e,I2,T,Z,f2,W,⟨m0,w0⟩,turn⟩:=h2;subst e;have k:∀{H':Hp},(∀b∈G,H' b=none)->∀b∈G,zh X pins H' b:=λhn b hb=>⟨hn b hb,(f2 b hb).2⟩;refine codeAny_forLoop_any (λn s'=>∃i B H',Inv X pins B H' s'/\tn i s'.heap/\(∀b∈G,H' b=none)/\W i n B H') ?_ m0 ⟨0,σ,H2,I2,Z,λb hb=>(f2 b hb).1,w0⟩;rintro n s3 ⟨i,j,H3,I3,O,M,w3⟩
 rcases turn i n j H3 w3 with⟨K,qn⟩|⟨go,N,hN,step⟩
 ·refine fm hp<|ny (T.done X rfl rfl rfl hc i pins s3 j H3 X.xe I3 (k M) O K) λr s4 ⟨U,I4⟩=>?_;subst U;exact i_ ⟨j,H3,I4,qn⟩
 ·refine fm hp<|ny (T.item X rfl rfl rfl hc i pins s3 j H3 X.xe I3 (k M) O go) λr s4 ⟨u,U,h4⟩=>?_;subst U;refine fm hp<|ny h4 λ_ s5 ⟨x,H5,I5,r5,y5,F,fr5⟩=>?_;have P:=I5.pinned (k fr5)<|T.obj _ _ F;refine fm hp<|ny (hg _ s5 j H5 x u _ P r5<|step x H5 y5) λ_ s6 ⟨V,H6,I6,q6⟩=>?_;refine fm hp<|ny (hb _ s6 V H6 _ I6 q6) λf Y C=>?_;have again:∀{c:St} {q:Hp},Inv X (pins++Bp G s5.heap) c q Y->N c q->∃m,m<n/\∃i B H',Inv X pins B H' Y/\tn i Y.heap/\(∀b∈G,H' b=none)/\W i m B H':=λ{c q} p L=>by
   obtain⟨m',hm,w7⟩:=hN c q L;refine⟨m',hm,i+1,c,q,p.yM,T.keep _ _ _ F λb hb o e=>(p.pin (b,o)<|cu _<|cu _<|uF hb e).1,λb hb=>?_,w7⟩;obtain⟨o,e,d⟩:=T.obj _ _ F b hb;exact(p.pin (b,o)<|cu _<|cu _<|uF hb e).2.1
  cases f with
  | next=>obtain⟨c,q,p,L⟩:=C;exact again p L
  | cont=>obtain⟨c,q,p,L⟩:=C;exact again p L
  | brk=>obtain⟨c,q,p,C⟩:=C;exact⟨c,q,p.yM,C⟩
  | ret v=>obtain⟨x7,c,q,p,r7,C⟩:=C;exact⟨x7,c,q,p.yM,r7,C⟩
end
def vm{c:TT}{tb:TS}{D:Ends}{H:Hp}(Pv:St->Hp->Prop)(μ:St->Hp->Nat)(h0:Pv σ H)
  (hs:∀σ H,Pv σ H->c σ H λb H1=>if b=true then tb { D with nx:=λσ' H'=>Pv σ' H'/\μ σ' H'<μ σ H,ct:=λσ' H'=>Pv σ' H'/\μ σ' H'<μ σ H,bk:=D.nx } σ H1 else D.nx σ H1)
  (mono:∀σ H Q Q',(∀b H1,Q b H1->Q' b H1)->c σ H Q->c σ H Q'):Qq c tb D σ H:=by
 refine⟨λm σ H=>m=μ σ H/\Pv σ H,⟨_,rfl,h0⟩,?_⟩;rintro m σ H ⟨rfl,p⟩;refine mono σ H _ _ (λb H1 q=>?_) (hs σ H p)
 cases b with
 | true=>exact⟨_,λσ' H' ⟨d,l⟩=>⟨_,l,rfl,d⟩,q⟩
 | false=>exact q
meta abbrev R2:=V->V->Hp->VK->Prop
abbrev pH (X:Cx)(f:af->af->Sem af)(r:R2):Prop:=
 ∀(pins:bp) (s:aC) (σ:St) (H:Hp) (x y:V) (v u:af) (Q:VK),Inv X pins σ H s->RelV x v->RelV y u->r x y H Q ->
  wpAny (model X.prog X.w) X.A (f v u) (EP X pins σ Q) X.xe s
abbrev UnR (X:Cx)(f:af->Sem af)(r:V->Hp->VK->Prop):Prop:=
 ∀(pins:bp) (s:aC) (σ:St) (H:Hp) (x:V) (v:af) (Q:VK),Inv X pins σ H s->RelV x v->r x H Q ->
  wpAny (model X.prog X.w) X.A (f v) (EP X pins σ Q) X.xe s
abbrev kO (X:Cx)(f:af)(r:List V->Hp->VK->Prop):Prop:=
 ∀(pins:bp) (s:aC) (σ:St) (H:Hp) (xs:List V) (us:bb) (Q:VK),Inv X pins σ H s->Vals xs us->r xs H Q ->
  wpAny (model X.prog X.w) X.A (call f us) (EP X pins σ Q) X.xe s
abbrev ad3 (X:Cx)(r:V->Hp->(Bool->Hp->Prop)->Prop):Prop:=
 ∀(pins:bp) (s:aC) (σ:St) (H:Hp) (x:V) (v:af) (Q:Bool->Hp->Prop),Inv X pins σ H s->RelV x v->r x H Q ->
  wpAny (model X.prog X.w) X.A (truthy v) (TP X pins σ Q) X.xe s
abbrev tOp (r:R2)(ta tb:TE):TE:=λσ H Q=>ta σ H λx H1=>tb σ H1 λy H2=>r x y H2 Q
abbrev tUn (r:V->Hp->VK->Prop)(ta:TE):TE:=λσ H Q=>ta σ H λx H1=>r x H1 Q
abbrev rI (C:Int->Int->Prop)(g:Int->Int->V):R2:=λx y H Q=>∃i j,x=.int i/\y=.int j/\C i j/\Q (g i j) H
abbrev XQ (g:Int->Int->V):R2:=λx y H Q=>∃i j,x=.int i/\y=.int j/\Q (g i j) H
abbrev rU (g:Int->V):V->Hp->VK->Prop:=λx H Q=>∃i,x=.int i/\Q (g i) H
section
variable {X:Cx}{a b:aE}{ta tb:TE}{pos:Pos}
def Zh(ha:PE X a ta)(hb:PE X b tb){H:Hp}{R:V->V->Hp->Prop}(I:Inv X pins σ H s)
  (h:ta σ H λx H1=>tb σ H1 λy H2=>R x y H2) {Q:af->aC->Prop} {f:af->af->Sem af}
  (hf:∀v u s2 x y H2,Inv X pins σ H2 s2->RelV x v->RelV y u->R x y H2->wpAny (model X.prog X.w) X.A (f v u) Q X.xe s2) :
  wpAny (model X.prog X.w) X.A (eval a X.env) (λv s₁=>wpAny (model X.prog X.w) X.A (eval b X.env) (λu s₂=>wpAny (model X.prog X.w) X.A (f v u) Q X.xe s₂) X.xe s₁) X.xe s:=by
 refine ny (ha pins s σ H _ I h) λv g ⟨x,H1,I1,r1,e⟩=>?_;refine ny (hb pins g σ H1 _ I1 e) λu s2 ⟨y,H2,c,r2,d⟩=>?_;exact hf v u s2 x y H2 c r1 r2 d
def ab8{r:R2}(ho:pH X (binaryOp op) r)(ha:PE X a ta)(hb:PE X b tb):PE X (.BinOp a op b pos) (tOp r ta tb):=by
 kd_p;exact wpAny_BinOp<|Zh ha hb I h λv u d x y H2 c rx ry q=>ho pins d σ H2 x y v u Q c rx ry q
def acM{r:V->Hp->VK->Prop}(ho:UnR X (unaryOp op) r)(ha:PE X a ta):PE X (.UnaryOp op a pos) (tUn r ta):=by
 kd_p;exact UnaryOp_<|ny (ha pins s σ H _ I h) λv d ⟨x,H1,I1,r1,c⟩=>ho pins d σ H1 x v Q I1 r1 c
def opI{f:af->af->Sem af}{C:Int->Int->Prop}{g:Int->Int->Int}
  (rule:∀(i j:Int) (t u:Tok) (s:aC) (Q:af->aC->Prop) (E:af->aC->Prop),C i j->Q (.int (g i j) s.toks) { s with toks:=s.toks+1 }->wpAny (model X.prog X.w) X.A (f (.int i t)<|.int j u) Q E s) :
  pH X f (rI C λi j=>.int<|g i j):=by
 gp_on;obtain⟨i,j,rfl,rfl,hc,q⟩:=h;f_are;obtain⟨c,rfl⟩:=ry;exact rule i j t c s _ _ hc ⟨.int<|g i j,H,I.tok _,⟨_,rfl⟩,q⟩
def acO{f:af->af->Sem af}{g:Int->Int->Int}
  (rule:∀(i j:Int) (t u:Tok) (s:aC) (Q:af->aC->Prop) (E:af->aC->Prop),Q (.int (g i j) s.toks) { s with toks:=s.toks+1 }->wpAny (model X.prog X.w) X.A (f (.int i t)<|.int j u) Q E s) :
  pH X f (XQ λi j=>.int<|g i j):=by
 gp_on;obtain⟨i,j,rfl,rfl,q⟩:=h;f_are;obtain⟨c,rfl⟩:=ry;exact rule i j t c s _ _ ⟨.int<|g i j,H,I.tok _,⟨_,rfl⟩,q⟩
def VT{f:af->af->Sem af}{g:Int->Int->Bool}
  (rule:∀(i j:Int) (t u:Tok) (s:aC) (Q:af->aC->Prop) (E:af->aC->Prop),Q (.bool<|g i j) s->wpAny (model X.prog X.w) X.A (f (.int i t)<|.int j u) Q E s) :
  pH X f (XQ λi j=>.bl<|g i j):=by
 gp_on;obtain⟨i,j,rfl,rfl,q⟩:=h;f_are;obtain⟨c,rfl⟩:=ry;exact rule i j t c s _ _ ⟨.bl<|g i j,H,I,rfl,q⟩
abbrev aer (i j:Int):Prop:=0<=j/\j<=1000000/\i.natAbs<2 ^ 64
abbrev VO (i j:Int):Prop:=(-(2 ^ 64)<i/\i<2 ^ 64)\/(-(2 ^ 64)<j/\j<2 ^ 64)
def VO.ok{i j:Int}(h:VO i j):IntMulOk i j:=by
 rcases h with⟨h1,h2⟩|⟨h1,h2⟩
 ·exact .of_left (intBits_le_64 h1 h2)
 ·exact .of_right<|intBits_le_64 h1 h2
def aa1:pH X (binaryOp .Add) (XQ λi j=>.int<|i+j):=acO λ_ _ _ _ _ _ _ q=>add_int q
def aaZ:pH X (binaryOp .Sub) (XQ λi j=>.int<|i-j):=acO λ_ _ _ _ _ _ _ q=>sub_int q
def aaX:pH X (binaryOp .Mult) (rI VO λi j=>.int<|i * j):=opI λ_ _ _ _ _ _ _ hc q=>mul_int q hc.ok
def ZJ:pH X (binaryOp .Mod) (rI (λ_ j=>0<j) λi j=>.int<|i % j):=opI λi j _ _ _ _ _ hc q=>by
 have h1:(0:Int)<j:=hc;exact mod_int' ()<|by rw[Int.fmod_eq_emod_of_nonneg i ()];exact q
def ZK:pH X (binaryOp .Pow) (rI aer λi j=>.int<|i ^ j.toNat):=opI λ_ _ _ _ _ _ _ hc q=>pow_int_small hc.1 hc.2.1 hc.2.2 q
def unI{f:af->Sem af}{g:Int->Int}
  (rule:∀(i:Int) (t:Tok) (s:aC) (Q:af->aC->Prop) (E:af->aC->Prop),Q (.int (g i) s.toks) { s with toks:=s.toks+1 }->wpAny (model X.prog X.w) X.A (f<|.int i t) Q E s) :
  UnR X f (rU λi=>.int<|g i):=by
 intro pins s σ H x v Q I rx h;obtain⟨i,rfl,q⟩:=h;f_are;exact rule i t s _ _ ⟨.int<|g i,H,I.tok _,⟨_,rfl⟩,q⟩
def Zz:UnR X (unaryOp .USub) (rU λi=>.int<|-i):=unI λ_ _ _ _ _ q=>neg_int q
end
section
variable {X:Cx}{a b c:aE}{ta tb tc:TE}{pos:Pos}
def aaO{H:Hp}{Q:VK}{k:Bool}(I:Inv X pins σ H s)(q:Q (.bl k) H)(e:k=k'):EP X pins σ Q (.bool k') s:=by
 subst e;exact⟨.bl k,H,I,rfl,q⟩
def acU:pH X (compareOp .Lt) (XQ λi j=>.bl<|decide<|i<j):=VT λ_ _ _ _ _ _ _ q=>lt_int q
def acp:pH X (compareOp .LtE) (XQ λi j=>.bl<|decide<|i<=j):=VT λ_ _ _ _ _ _ _ q=>le_int q
def abD:pH X (compareOp .Gt) (XQ λi j=>.bl<|decide<|j<i):=VT λ_ _ _ _ _ _ _ q=>gt_int q
def abm:pH X (compareOp .GtE) (XQ λi j=>.bl<|decide<|j<=i):=VT λ_ _ _ _ _ _ _ q=>ge_int q
def aaw:pH X (compareOp .Is) (λx y H Q=>y=.non/\Q (.bl<|decide<|x=.non) H):=by
 gp_on;obtain⟨rfl,q⟩:=h
 cases ry
 refine is_none_gen (aaO I q ?_)
 cases x<;>first
  | (cases rx;rfl)
  | (obtain⟨t,rfl⟩:=rx;rfl)
def OU(b:aE)(h:op≠.In<|>θ)(h2:op≠.NotIn<|>θ):behindInMarks op b=false:=by
 have e1:(op == CmpOp.In)=false:=by cases op<;>first|rfl|exact absurd rfl h
 have e2:(op == CmpOp.NotIn)=false:=by cases op<;>first|rfl|exact absurd rfl h2
 cases b<;>simp[behindInMarks,e1,e2]
def U4{op:CmpOp}{r:R2}(ho:pH X (compareOp op) r)(ha:PE X a ta)(hb:PE X b tb)(hm:behindInMarks op b=false):PE X (.Compare a [op] [b] pos) (tOp r ta tb):=by
 kd_p;exact wpAny_Compare1 (Zh ha hb I h λv u d x y H2 c rx ry q=>ho pins d σ H2 x y v u Q c rx ry q) hm
abbrev XF (t:TE):TT:=λσ H Q=>t σ H λx H'=>∃k,x=.bl k/\Q k H'
def W9{op:CmpOp}{r:R2}(ho:pH X (compareOp op) r)(ha:PE X a ta)(hb:PE X b tb)(hm:behindInMarks op b=false):PT X (.Compare a [op] [b] pos) (XF<|tOp r ta tb):=by
 kd_p;refine wpAny_isTrue_Compare1 (ny (ha pins s σ H _ I h) λv d ⟨x,H1,I1,r1,q⟩=>ny (hb pins d σ H1 _ I1 q) λu m ⟨y,H2,j,r2,p⟩=>
  ny (ho pins m σ H2 x y v u _ j r1 r2 p) λc C ⟨z,H3,g,f,k,e,B⟩=>?_) hm
 subst e
 cases f
 exact dI ⟨H3,g,B⟩
abbrev Iu (r r':R2)(ta tb tc:TE):TE:=λσ H Q=>ta σ H λx H1=>tb σ H1 λy H2=>r x y H2 λz H3=>∃k,z=.bl k /\
 (if k=true then tc σ H3 λd c=>r' y d c Q else Q (.bl false) H3)
def Qy{r r':R2}(ho:pH X (compareOp op) r)(ho':pH X (compareOp op') r')(ha:PE X a ta)(hb:PE X b tb)(hc:PE X c tc)
  (hm:lastMarks [op,op'] [b,c]=false<|>ξ):PE X (.Compare a [op,op'] [b,c] pos) (Iu r r' ta tb tc):=by
 kd_p;refine Compare_chain (ny (ha pins s σ H _ I h) λv m ⟨x,H1,I1,r1,M⟩=>chain_link (ny (hb pins m σ H1 _ I1 M) λu G ⟨y,H2,F,r2,L⟩=>
  ny (ho pins G σ H2 x y v u _ F r1 r2 L) λd q ⟨z,H3,f,C,k,e,g⟩=>?_)) hm
 subst e
 cases C
 refine dI ?_
 cases k with
 | false=>exact ite_ff ⟨.bl false,H3,f,rfl,g⟩
 | true=>exact ite_tt<|chain_last<|ny (hc pins q σ H3 _ f g) λj J ⟨K,B,p,O,N⟩=>ho' pins J σ B y K u j Q p r2 O N
def O1{r r':R2}(ho:pH X (compareOp op) r)(ho':pH X (compareOp op') r')(ha:PE X a ta)(hb:PE X b tb)(hc:PE X c tc)
  (hm:lastMarks [op,op'] [b,c]=false<|>ξ):PT X (.Compare a [op,op'] [b,c] pos) (XF<|Iu r r' ta tb tc):=by
 kd_p;refine isTrue_chain (ny (ha pins s σ H _ I h) λv p ⟨x,H1,I1,r1,U⟩=>test_link (ny (hb pins p σ H1 _ I1 U) λu N ⟨y,H2,M,r2,T⟩=>
  ny (ho pins N σ H2 x y v u _ M r1 r2 T) λd C ⟨z,H3,f,K,k,e,g⟩=>?_)) hm
 subst e
 cases K
 refine dI ?_
 cases k with
 | false=>
  obtain⟨k',m,F⟩:=g
  cases m
  exact ite_ff ⟨H3,f,F⟩
 | true=>
  refine ite_tt<|test_last<|ny (hc pins C σ H3 _ f g) λj O ⟨P,J,q,W,V⟩=>ny (ho' pins O σ J y P u j _ q r2 W V) λd' Z ⟨z2,B,Y,G,k2,e2,L⟩=>?_;subst e2
  cases G
  exact dI ⟨B,Y,L⟩
abbrev aa4 (K:au)(x:V)(H:Hp)(k:Bool):Prop:=
 match x with
 | .non=>k=false
 | .bl b=>k=b
 | .int i=>k=(i != 0)
 | .str y=>y.length<=sizeLine/\k=((y.length:Int) != 0)
 | .byt y=>y.size<=sizeLine/\k=((y.size:Int) != 0)
 | .ref p=>(∃xs,qj K H p xs/\k=!xs.isEmpty)\/(∃xs,oF K H p xs/\k=!xs.isEmpty)\/∃kvs,H p=some (.dK kvs)/\k=!kvs.isEmpty
 | _=>False
def Im{κ:Type}{kvs:List<|κ×V}{vs:List<|κ×af}(r:KV kvs vs):(!vs.isEmpty)=!kvs.isEmpty:=by
 cases r<;>rfl
def Bx{xs:List V}{its:bb}(r:Vals xs its):(!its.toArray.isEmpty)=!xs.isEmpty:=by
 cases r<;>simp
def xK:(sizeLine:Nat)<2 ^ 63:=by rw[dJ];decide
def YL:ad3 X (λx H Q=>∃k,aa4 X.K x H k/\Q k H):=by
 intro pins s σ H x v Q I rx h;obtain⟨k,e,q⟩:=h;have F:=xK;have hs:sizeLine=16777216:=dJ
 cases x with
 | non=>
  cases rx
  have c:k=false:=e;subst c;exact truthy_none ⟨H,I,q⟩
 | bl b=>
  cases rx
  have c:k=b:=e;subst c;exact dI ⟨H,I,q⟩
 | int i=>
  f_are;have c:k=(i != 0):=e;subst c;exact PySem.P.truthy_int ⟨H,I,q⟩
 | str y=>
  f_are;obtain⟨C,c⟩:y.length<=sizeLine/\k=((y.length:Int) != 0):=e;subst c;exact PySem.P.truthy_str () ⟨H,I.tok _,q⟩
 | byt y=>
  f_are;obtain⟨C,c⟩:y.size<=sizeLine/\k=((y.size:Int) != 0):=e;subst c;exact PySem.W.truthy_bytes () ⟨H,I.tok _,q⟩
 | ref p=>
  cases rx
  have c:(∃xs,qj X.K H p xs/\k=!xs.isEmpty)\/(∃xs,oF X.K H p xs/\k=!xs.isEmpty)\/∃kvs,H p=some (.dK kvs)/\k=!kvs.isEmpty:=e
  rcases c with⟨xs,f,c⟩|⟨xs,f,c⟩|⟨kvs,f,c⟩
  ·subst c;obtain⟨j,r,pl,B⟩:=I.list f;have d:=r.length;exact wpAny_truthy_list pl.isList (by dsimp[br];lia) ⟨H,I.tok _,by rw[Bx r];exact q⟩
  ·subst c;obtain⟨j,r,pl,B⟩:=I.tuple f;have d:=r.length;exact truthy_tuple pl (by dsimp[br];lia) ⟨H,I.tok _,by rw[Bx r];exact q⟩
  ·subst c;obtain⟨B,hS,g,r,m⟩:kvs.length<=sizeLine/\(p == sysModules)=false/\∃g,KV kvs g/\s.heap.DictOf (k_ X.prog X.w) p g:=I.hok p _ f;have d:kvs.length=g.length:=jC r;exact wpAny_truthy_dict hS m () ⟨H,I.tok _,by rw[Im r];exact q⟩
 | _=>exact(show False from e).elim
def Qj(ha:PE X a ta)(he:∀whole,isTrue a X.env whole=(do let v <- whole;standAt a.pos;holding [v] (truthy v))) :
  PT X a (λσ H Q=>ta σ H λx H'=>∃k,aa4 X.K x H' k/\Q k H'):=by
 kd_p;exact isTrue_plain (ny (ha pins s σ H _ I h) λv d ⟨x,H1,I1,r1,c⟩=>YL pins d σ H1 x v Q I1 r1 c)<|he _
def Jj:pH X (binaryOp .Add) (λx y H Q=>∃i j,x=.str i/\y=.str j/\i.length+j.length<=sizeLine/\Q (.str<|i++j) H):=by
 gp_on;obtain⟨i,j,rfl,rfl,d,q⟩:=h;f_are;obtain⟨c,rfl⟩:=ry;exact add_str (λc e=>⟨.str<|i++j,H,I.tok _,⟨_,rfl⟩,q⟩) d
def vals1{x:V}(r:Vals [x] us):∃u,us=[u]/\RelV x u:=by
 cases r with
 | cons r1 r2=>cases r2;exact⟨_,rfl,r1⟩
def vals2{x:V}(r:Vals [x,y] us):∃u w',us=[u,w']/\RelV x u/\RelV y w':=by
 cases r with
 | cons r1 r2=>
  cases r2 with
  | cons d c=>cases c;exact⟨_,_,rfl,r1,d⟩
def NX(hc:X.calm=true):kO X (.builtin "max") (λxs H Q=>∃i j,xs=[.int i,.int j]/\Q (.int<|if j>i then j else i) H):=by
 k_ne;obtain⟨i,j,rfl,q⟩:=h;obtain⟨u,e,rfl,⟨t,rfl⟩,⟨d,rfl⟩⟩:=vals2 r;refine max_two_ints (I.ok.hd hc) λh' f k=>⟨_,H,I.kept k,?_,q⟩;by_cases c:j>i
 ·rw[aM c,aM c];exact⟨_,rfl⟩
 ·rw[aJ c,aJ c];exact⟨_,rfl⟩
def NH(hc:X.calm=true):kO X (.builtin "min") (λxs H Q=>∃i j,xs=[.int i,.int j]/\Q (.int<|if j<i then j else i) H):=by
 k_ne;obtain⟨i,j,rfl,q⟩:=h;obtain⟨u,e,rfl,⟨t,rfl⟩,⟨d,rfl⟩⟩:=vals2 r;refine min_two_ints (I.ok.hd hc) λh' f k=>⟨_,H,I.kept k,?_,q⟩;by_cases c:j<i
 ·rw[aM c,aM c];exact⟨_,rfl⟩
 ·rw[aJ c,aJ c];exact⟨_,rfl⟩
def DC:kO X (.type "int") (λxs H Q=>(∃i,xs=[.int i]/\Q (.int i) H)\/∃k,xs=[.bl k]/\Q (.int<|if k then 1 else 0) H):=by
 k_ne
 rcases h with⟨i,rfl,q⟩|⟨k,rfl,q⟩
 ·obtain⟨u,rfl,t,rfl⟩:=vals1 r;exact call_int_int ⟨.int i,H,I,⟨_,rfl⟩,q⟩
 ·obtain⟨u,rfl,r1⟩:=vals1 r
  cases r1
  exact call_int_bool ⟨.int<|if k then 1 else 0,H,I.tok _,⟨_,rfl⟩,q⟩
abbrev aeq (K:au)(x:V)(H:Hp)(n:Nat):Prop:=
 match x with
 | .str y=>y.length<=sizeLine/\n=y.length
 | .byt y=>y.size<=sizeLine/\n=y.size
 | .ref p=>(∃xs,qj K H p xs/\n=xs.length)\/∃xs,oF K H p xs/\n=xs.length
 | _=>False
def Ui:kO X (.builtin "len") (λxs H Q=>∃x n,xs=[x]/\aeq X.K x H n/\Q (.int n) H):=by
 k_ne;obtain⟨x,n,rfl,e,q⟩:=h;kpc_g;have B:=xK;have hs:sizeLine=16777216:=dJ
 cases x with
 | str y=>
  f_are;obtain⟨m,d⟩:y.length<=sizeLine/\n=y.length:=e;subst d;exact len_str () ⟨.int _,H,I.tok _,⟨_,rfl⟩,q⟩
 | byt y=>
  f_are;obtain⟨m,d⟩:y.size<=sizeLine/\n=y.size:=e;subst d;exact PySem.W.len_bytes () ⟨.int _,H,I.tok _,⟨_,rfl⟩,q⟩
 | ref p=>
  cases rx
  have d:(∃xs,qj X.K H p xs/\n=xs.length)\/∃xs,oF X.K H p xs/\n=xs.length:=e
  rcases d with⟨xs,j,d⟩|⟨xs,j,d⟩
  ·subst d;obtain⟨f,g,pl,k⟩:=I.list j;have c:=g.length;exact Calls.call_len_list pl.isList (by dsimp[br];lia) ⟨.int xs.length,H,I.tok _,⟨_,by dsimp[br];rw[c]⟩,q⟩
  ·subst d;obtain⟨f,g,pl,k⟩:=I.tuple j;have c:=g.length;exact len_tuple pl (by dsimp[br];lia) ⟨.int xs.length,H,I.tok _,⟨_,by dsimp[br];rw[c]⟩,q⟩
 | _=>exact(show False from e).elim
end
structure ObjM (h:aq)(x dx C:ak)(mA:Str->bi):Prop where
 obj:h.get? x=some (PySem.W.instObj C dx)
 ns:h.Ns1 dx mA
 ne:dx≠x
def NO{h:aq}{mA:Str->bi}(n:h.Ns1 dx mA):∃od,h.get? dx=some od/\∀name,PySem.W.lookIn name od=some (mA name):=by
 obtain⟨o,es,ep,d,j,k,_,g⟩:=n;refine⟨o,d,λname=>?_⟩;have e:=g name;unfold nsFind findBy at e;rw[<- Array.find?_toList]at e;unfold PySem.W.lookIn;rw[j];dsimp only;split
 ·rename_i y q;rw[q]at e;exact dQ some e
 ·rename_i q;rw[q]at e;have a:es.toList.any (·.refKey)=false:=by
   rw[List.any_eq_false];intro y m;obtain⟨z,t,c⟩:=k y<|Array.mem_toList_iff.mp m;simp[DictEntry.refKey,c]
  have f:¬es.toList.any (·.refKey)=true:=by rw[a];exact bR
  rw[aJ f];exact dQ some e
def ObjM.look{x:ak}{mA:Str->bi}(I:ObjM h x dx C mA):∃od,PySem.W.InstAt h x (PySem.W.instObj C dx) C (some od)/\∀name,PySem.W.lookIn name od=some (mA name):=
 let⟨od,ho,hl⟩:=NO I.ns
 ⟨od,⟨I.obj,rfl,rfl,ho⟩,hl⟩
def zS.some_of{v:V}(r:zS (some v) o):∃u,o=some u/\RelV v u:=by
 cases o with
 | none=>exact(show False from r).elim
 | some u=>exact⟨u,rfl,r⟩
section
variable {P:aj}{w:ah}{H:Hp}{h:aq}{a C dx:ak}{fs:List (Str×V)}
def Vo(hok:xQ P w H h)(e:H a=some (.ins C dx fs)):∃mA,ObjM h a dx C mA/\(∀f,zS (fs.lookup f)<|mA f)/\PySem.Within mA (fs.map (·.1))/\fs.length<=1000/\H dx=some (.own a):=by
 obtain⟨d,z,c,g,mA,n,r,q⟩:=(show lO P w H h a (.ins C dx fs)from hok a _ e);exact⟨mA,⟨g,n,c⟩,r,q,z,d⟩
end
structure Cls (K:au)(C:ak):Prop where
 pg:PySem.W.plainGet K C Str.empty=true
 hd:PySem.W.hasDictIn K C=true
 po:PySem.W.plainOver K C=true
 sa:PySem.W.findIn K (.ref C) "__setattr__" = some (some<|.builtin "object.__setattr__")
def Cls.get{K:au}(c:Cls K C)(f:Str):PySem.W.plainGet K C f=true:=c.pg
structure Con (K:au)(C:ak)(f:Str)(v:V)(u:af):Prop where
 at_:PySem.W.findIn K (.ref C) f=some (some u)
 rel:RelV v u
 get:PySem.W.specialIn K u "__get__" = some none
 cp:PySem.W.copiedNames.contains f=false
structure Meth (K:au)(C:ak)(m:Str)(f:ak):Prop where
 at_:PySem.W.findIn K (.ref C) m=some (some<|.ref f)
 fn:PySem.W.isFn K (.ref f)=true
 kp:PySem.W.keepIn K (.ref f)=true
section
variable {X:Cx}{pins:bp}{σ:St}{H:Hp}{s:aC}{A:aA}{E:af->aC->Prop}{Q:af->aC->Prop}{c:af}{b:Bool}
inductive TyOf (K:au) (H:Hp):V->af->Prop where
 | non:TyOf K H .non (.type "NoneType")
 | bl (x:Bool):TyOf K H (.bl x) (.type "bool")
 | int (i:Int):TyOf K H (.int i) (.type "int")
 | str (x:Str):TyOf K H (.str x) (.type "str")
 | flt (x:UInt64):TyOf K H (.flt x) (.type "float")
 | lst {a:ak} {xs:List V} (e:H a=some (.lst xs)):TyOf K H (.ref a) (.type "list")
 | frz {a:ak} {o:Obj} {xs:List V} (e:H a=some (.frz o<|.lst xs)):TyOf K H (.ref a) (.type "list")
 | tup {a:ak} {xs:List V} (e:H a=some (.tup xs)):TyOf K H (.ref a) (.type "tuple")
 | dK {a:ak} {kvs:List<|Key×V} (e:H a=some (.dK kvs)):TyOf K H (.ref a) (.type "dict")
 | dT {a:ak} {kvs:List<|List Key×V} (e:H a=some (.dT kvs)):TyOf K H (.ref a) (.type "dict")
 | ins {a C dx:ak} {fs:List<|Str×V} (e:H a=some (.ins C dx fs)) (cl:Cls K C) (ha:PySem.W.findIn K (.ref C) "__class__" = some (some<|.builtin "object.__class__"))
   (hn:PySem.W.specialIn K (.builtin "object.__class__") "__get__" = some (some<|.builtin "getset_descriptor.__get__")) (htk:PySem.W.takesIn K (.builtin "object.__class__")=some true)
   (hm:PySem.W.mroIn K C (.type "object")=some true):TyOf K H (.ref a)<|.ref C
def Ou{x:V}{t:af}(I:Inv X pins σ H s)(rx:RelV x u)(ty:TyOf X.K H x t)(e:PySem.W.kitOne X.K t c=some b)(h:∀tk,Q (.bool b) { s with toks:=tk }) :
  wpAny (model X.prog X.w) A (call (.builtin "isinstance") [u,c]) Q E s:=by
 cases ty with
 | non=>cases(show u=Value.none from rx);exact dh PySem.W.kitx_none I.FZ True.intro e (λz=>nomatch z) h
 | bl y=>cases(show u=Value.bool y from rx);exact dh PySem.W.kitx_bool I.FZ True.intro e (λz=>nomatch z) h
 | int i=>obtain⟨t,q⟩:=(show ∃t,u=Value.int i t from rx);cases q;exact dh PySem.W.kitx_int I.FZ True.intro e (λz=>nomatch z) h
 | str y=>obtain⟨t,q⟩:=(show ∃t,u=Value.str y t from rx);cases q;exact dh PySem.W.kitx_str I.FZ True.intro e (λz=>nomatch z) h
 | flt y=>obtain⟨t,q⟩:=(show ∃t,u=Value.float y t from rx);cases q;exact dh PySem.W.kitx_float I.FZ True.intro e (λz=>nomatch z) h
 | @lst a xs d=>
  cases(show u=Value.ref a from rx)
  obtain⟨_,_,n,_,h1⟩:=(show lO X.prog X.w H s.heap a (.lst xs)from I.hok a _ d);exact dh PySem.W.kitx_list I.FZ ⟨_,h1,rfl⟩ e (λz=>nomatch z) h
 | @frz a m xs d=>
  cases(show u=Value.ref a from rx)
  obtain⟨_,_,_,n,_,h1⟩:=(show lO X.prog X.w H s.heap a (.frz m<|.lst xs)from I.hok a _ d);exact dh PySem.W.kitx_list I.FZ ⟨_,h1,rfl⟩ e (λz=>nomatch z) h
 | @tup a xs d=>
  cases(show u=Value.ref a from rx)
  obtain⟨_,_,_,p⟩:=(show lO X.prog X.w H s.heap a (.tup xs)from I.hok a _ d);obtain⟨o,h1,h2,_⟩:=p;exact dh PySem.W.kitx_tuple I.FZ ⟨o,h1,h2⟩ e (λz=>nomatch z) h
 | @dK a kvs d=>
  cases(show u=Value.ref a from rx)
  obtain⟨_,_,F,_,p⟩:=(show lO X.prog X.w H s.heap a (.dK kvs)from I.hok a _ d);obtain⟨o,es,ep,h1,h2,_⟩:=p;exact dh PySem.W.kitx_dict I.FZ ⟨o,h1,h2.1⟩ e (λz=>nomatch z) h
 | @dT a kvs d=>
  cases(show u=Value.ref a from rx)
  obtain⟨_,_,xs,_,o,es,ep,h1,h2,_⟩:=(show lO X.prog X.w H s.heap a (.dT kvs)from I.hok a _ d);exact dh PySem.W.kitx_dict I.FZ ⟨o,h1,h2.1⟩ e (λz=>nomatch z) h
 | @ins a C dx fs d g k hn f j=>
  cases(show u=Value.ref a from rx)
  obtain⟨G,O,_⟩:=Vo I.hok d;obtain⟨B,J,_⟩:=O.look;exact dh (PySem.W.kitx_own (g.get _) g.hd k hn f j) I.FZ J e (λz=>nomatch z) h
end
structure Room (k:Nat)(A:aA):Prop where
 hd:A.handled=none
 dp:A.depth+3 * k+5<recursionLimit
 un:A.units+16 * k+200<cLine
def Room.mono{k:Nat}{A:aA}(r:Room k A)(h:j<=k):Room j A:=⟨r.hd,by have:=r.dp;lia,by have:=r.un;lia⟩
def Room.deeper{k:Nat}{A:aA}(r:Room (k+1) A)(env:Env):Room k (A.deeper env):=
 ⟨r.hd,by have:=r.dp;show A.depth+1+3 * k+5<_;lia,by have:=r.un;show A.units+3+16 * k+200<_;lia⟩
def Room.depth{k:Nat}{A:aA}(r:Room k A):A.depth<recursionLimit:=by have:=r.dp;lia
def Room.units{k:Nat}{A:aA}(r:Room k A):A.units+64<cLine:=by have:=r.un;lia
abbrev adz:TA:=λ_ H Q=>Q [] H
abbrev abS (ta:TE)(tr:TA):TA:=λσ H Q=>ta σ H λx H1=>tr σ H1 λxs H2=>Q (x::xs) H2
section
variable {X:Cx}{e:aE}{es:List aE}{te:TE}{t:TA}{pos:Pos}
def xN:PA X [] adz:=λ_ _ _ _ H Q I h=>Calls.spliced_nil ⟨[],H,I,.nil,h⟩
def qk(ha:PE X e te)(hr:PA X es t)(hs:starEach (e::es) X.env=(false,eval e X.env)::starEach es X.env<|>ι):PA X (e::es) (abS te t):=by
 intro pos pins s σ H Q I h;rw[hs]
 skip
 refine Calls.spliced_cons<|ny (ha pins s σ H _ I h) λu c ⟨x,H1,I1,r1,g⟩=>?_;exact ny (hr pos pins c σ H1 _ I1 g) λus j ⟨xs,H2,d,r2,f⟩=>⟨x::xs,H2,d,.cons r1 r2,f⟩
abbrev ad7 (t:TA):TE:=λσ H Q=>t σ H λxs H1=>xs.length<=sizeLine/\∀p,H1 p=none->Q (.ref p) (upd H1 p<|.tup xs)
abbrev ady (t:TA):TE:=λσ H Q=>t σ H λxs H1=>xs.length<=sizeLine/\∀p,H1 p=none->Q (.ref p) (upd H1 p<|.lst xs)
def aaJ{x1}(h:PA X es t):PE X (.Tuple es x1 pos) (ad7 t):=by
 intro pins s σ H Q I d;refine wpAny_Tuple_spliced (ny (h pos pins s σ H _ I d) λus c ⟨xs,H1,I1,r,z,q⟩=>⟨by rw[<- r.length];exact z,?_⟩);have hf:H1 c.heap.objs.size=none:=I1.hok.fresh<|aP _;refine⟨.ref c.heap.objs.size,upd H1 c.heap.objs.size<|.tup xs,I1.laid (t':=c.toks) (λb u e=>aR _ e) (aP _) ?_,rfl,q _ hf⟩;exact⟨z,us,r,⟨_,bz _ rfl,rfl,rfl,_,rfl⟩⟩
def Zx(h:PA X es t):PE X (.List es pos) (ady t):=by
 intro pins s σ H Q I d;refine wpAny_List_spliced (ny (h pos pins s σ H _ I d) λus c ⟨xs,H1,I1,r,z,q⟩=>⟨by rw[<- r.length];exact z,?_⟩);have hf:H1 c.heap.objs.size=none:=I1.hok.fresh<|aP _;refine⟨.ref c.heap.objs.size,upd H1 c.heap.objs.size<|.lst xs,I1.laid (t':=c.toks) (λb u e=>aR _ e) (aP _) ?_,rfl,q _ hf⟩;exact⟨z,us,0,r,bz _ rfl⟩
end
meta abbrev Sp:=List V->Hp->VK->XK->Prop
meta abbrev UI:=List Env->Hp->aC->XK->af->aC->Prop
structure Env0 (P:aj)(w:ah)(K:au)(mg:Str->bi)(base:aq)(A:aA)(outer:List Env)(s:aC)(H:Hp):Prop where
 frames:A.frames=some outer
 mod:Mod K mg base
 bs:∀b o,base.get? b=some o->s.heap.get? b=some o/\H b=none
 bsz:base.objs.size<=s.heap.objs.size
 Cb:s.heap.FunFrames base outer
 frf:∀b∈frs outer,H b=none
 hok:xQ P w H s.heap
 bare:AllBare s.gens
abbrev CE (outer:List Env)(P:aj)(w:ah)(H:Hp)(s:aC)(Q:VK)(u:af)(s':aC):Prop:=
 ∃v H',s'.os=s.os/\AllBare s'.gens/\Un (frs outer) [] H H' s.heap s'.heap/\xQ P w H' s'.heap/\RelV v u/\Q v H'
abbrev CR (CX:UI)(outer:List Env)(P:aj)(w:ah)(H:Hp)(s:aC)(Q:VK)(E:XK)(r:Result)(s':aC):Prop:=
 match r with
 | .ok (.ret u)=>CE outer P w H s Q u s'
 | .ok _=>False
 | .error e=>CX outer H s E e s'
structure FnOk (P:aj)(w:ah)(K:au)(mg:Str->bi)(base:aq)(CX:UI)(k:Nat)(f:ak)(fd:FuncData)(ps:ba)(sp:Sp):Prop where
 len:∀vs H Q E,sp vs H Q E->vs.length=ps.length
 run:∀(A:aA) (outer:List Env) (s:aC) (H:Hp) (args:Args) (us:bb) (vs:List V) (Q:VK) (E:XK),Room k A->Env0 P w K mg base A outer s H->BindsTo s fd args (ps.zip us)->Vals vs us->sp vs H Q E ->
  codeAny (model P w) A (.call (.ref f) args) (CR CX outer P w H s Q E) s
section
variable {X:Cx}{pins:bp}{σ:St}{H:Hp}{s s':aC}
def Inv.adO(I:Inv X pins σ H s):Env0 X.prog X.w X.K X.mg X.base X.A X.stack s H:=
 ⟨I.ok.frames,I.ok.mod,I.bs,bH I.ok.bsz I.sz,I.stack,I.LR,I.hok,I.bare⟩
def Inv.after{Q:VK}(I:Inv X pins σ H s)(h:CE X.stack X.prog X.w H s Q u s'):EP X pins σ Q u s':=by
 obtain⟨v,H',os,c,un,hok,r,q⟩:=h;obtain⟨f,g,d,t,e⟩:=s';obtain rfl:e=s.os:=os;exact⟨v,H',I.call (h':=f) (g':=g) (d':=d) (t':=t) (ch:=[]) un hok c λb z=>absurd z<|by simp,r,q⟩
end
abbrev XR (sp:Sp)(dvs:List V)(E:XK)(t:TA):TE:=λσ H Q=>t σ H λc H1=>sp (c++dvs) H1 Q E
abbrev Binds (K:au)(fd:FuncData)(ps:ba)(ds:bb):Prop:=
 ∀(s:aC) (us:bb),K.In s.heap->(us++ds).length=ps.length->BindsTo s fd ⟨us,[]⟩ (ps.zip<|us++ds)
def Binds.all{K:au}{ps:ba}(h:∀us:bb,us.length=ps.length->bindArgs fd ⟨us,[]⟩=pure (ps.zip us)):Binds K fd ps []:=λs us _ c=>by
 rw[cZ]at c ⊢;exact .of_eq<|h us c
abbrev Passes (CX:UI)(X:Cx)(E:XK):Prop:=∀(pins:bp) (σ:St) (H:Hp) (s:aC) (e:af) (s':aC),Inv X pins σ H s->CX X.stack H s E e s'->X.xe e s'
section
variable {X:Cx}{CX:UI}{k:Nat}{f C:ak}{fd:FuncData}{ps:ba}{sp:Sp}{dvs:List V}{ds:bb}{E:XK}{x:Str}{p pos:Pos}{e:aE}{es:List aE}{t:TA}
def Zs{H:Hp}{Q:VK}(F:FnOk X.prog X.w X.K X.mg X.base CX k f fd ps sp)(hr:Room k X.A)(hb:Binds X.K fd ps ds)(hd:Vals dvs ds)(hx:Passes CX X E)
  (I:Inv X pins σ H s) (r:Vals vs us) (h:sp (vs++dvs) H Q E):wpAny (model X.prog X.w) X.A (call (.ref f) us) (EP X pins σ Q) X.xe s:=by
 have r2:Vals (vs++dvs) (us++ds):=r.append hd;have d:(us++ds).length=ps.length:=by rw[<- r2.length];exact F.len _ _ _ _ h
 refine wpAny_call (ji (F.run X.A X.stack s H ⟨us,[]⟩ (us++ds) (vs++dvs) Q E hr I.adO (hb s us I.FZ d) r2 h) λr s' c=>?_)
 cases r with
 | error e=>exact hx pins σ H s e s' I c
 | ok fl=>
  cases fl with
  | ret u=>exact I.after c
  | next=>exact False.elim c
  | brk=>exact False.elim c
  | cont=>exact False.elim c
def Wc(F:FnOk X.prog X.w X.K X.mg X.base CX k f fd ps sp)(hr:Room k X.A)(hg:Gl X x)(hm:X.mg x=some (.ref f))(hk:PySem.W.keepIn X.K (.ref f)=true)(hb:Binds X.K fd ps ds)(hd:Vals dvs ds)(hx:Passes CX X E)
  (ha:PA X (e::es) t) (hdb:(x == ("__debug__" : Str))=false<|>θ) (he:starEach (e::es) X.env=(false,eval e X.env)::starEach es X.env<|>ι) (hpl:((backTo pos<|starEach es X.env).any (·.1)=false)<|>ι) :
  PE X (.Call (.Name x p) (e::es) [] pos) (XR sp dvs E t):=by
 kd_p;refine jl<|MY I hg hm ?_ hdb;refine PySem.W.callWith_K (h₀:=X.base) I.ok.mod.kin hk (ny (ha pos pins s σ H _ I h) λus c ⟨d,H1,I1,r,q⟩=>⟨I1.FZ,?_⟩) he hpl;exact Zs F hr hb hd hx I1 r q
structure Mk (K:au)(C f:ak):Prop where
 makes:PySem.W.makesIn K C=true
 init:PySem.W.findIn K (.ref C) "__init__" = some (some<|.ref f)
 fn:PySem.W.isFn K (.ref f)=true
 kp:PySem.W.keepIn K (.ref C)=true
end
section
variable {fd:FuncData}{ps ks:ba}
structure KBinds (K:au)(fd:FuncData)(ps ks:ba)(g:bb->bb->bb)(gV:List V->List V->List V):Prop where
 to:∀(s:aC) (us ws:bb),K.In s.heap->(g us ws).length=ps.length->BindsTo s fd ⟨us,ks.zip ws⟩ (ps.zip<|g us ws)
 rel:∀{vs:List V} {us:bb} {zs:List V} {ws:bb},Vals vs us->Vals zs ws->Vals (gV vs zs) (g us ws)
end
structure FnScope (N P:ba)(sc:Scope):Prop where
 kind:sc.kind=.function
 co:sc.isCoroutine=false
 gen:sc.isGenerator=false
 nd:N.Nodup
 pre:N.take P.length=P
 par:∀x∈P,sc.names.lookup x=some .local\/sc.names.lookup x=some .cell
 nofree:∀y∈sc.names,y.2≠.free
theorem DH{kindOf:Str->Option NameKind}{x:Str}:∀{binds:List<|Str×af}{m:Str->bi},(∀v,(x,v)∉binds)->bindL kindOf binds m x=m x
 | [],_,_=>rfl
 | (n,v)::r,m,h=>by
  unfold bindL;rw[DH λw hw=>h w<|aO _ hw];split
  ·have:x≠n:=by rintro rfl;exact h v aK
   simp[this]
  ·rfl
theorem Dp{kindOf:Str->Option NameKind}{x:Str}:∀{binds:List<|Str×af}{m:Str->bi},(∀v,(x,v)∉binds)->bindC kindOf binds m x=m x
 | [],_,_=>rfl
 | (n,v)::r,m,h=>by
  unfold bindC;rw[Dp λw hw=>h w<|aO _ hw];split
  ·rfl
  ·have:x≠n:=by rintro rfl;exact h v aK
   simp[this]
theorem DR{kindOf:Str->Option NameKind}{x:Str}{v:af}:∀{P:ba}{vs:bb}{i:Nat}{m:Str->bi},P.Nodup->P[i]?=some x->vs[i]?=some v->kindOf x=some .local ->
  bindL kindOf (P.zip vs) m x=some v
 | [],_,_,_,_,h,_,_=>by simp at h
 | _::_,[],_,_,_,_,h,_=>by simp at h
 | p::P,w::vs,0,m,nd,h1,h2,hk=>by
  simp at h1 h2;subst h1;subst h2;show bindL kindOf ((p,w)::P.zip vs) m p=_;unfold bindL;rw[DH λv hv=>(c5.mp nd).1 (jJ hv).1,aM hk];simp
 | p::P,w::vs,i+1,m,nd,h1,h2,hk=>by
  skip
  unfold bindL;exact DR (i:=i) (c5.mp nd).2 (by simpa using h1) (by simpa using h2) hk
theorem C9{kindOf:Str->Option NameKind}{x:Str}{v:af}:∀{P:ba}{vs:bb}{i:Nat}{m:Str->bi},P.Nodup->P[i]?=some x->vs[i]?=some v->kindOf x≠some .local ->
  bindC kindOf (P.zip vs) m x=some v
 | [],_,_,_,_,h,_,_=>by simp at h
 | _::_,[],_,_,_,_,h,_=>by simp at h
 | p::P,w::vs,0,m,nd,h1,h2,hk=>by
  simp at h1 h2;subst h1;subst h2;show bindC kindOf ((p,w)::P.zip vs) m p=_;unfold bindC;rw[Dp λv hv=>(c5.mp nd).1 (jJ hv).1,aJ hk];simp
 | p::P,w::vs,i+1,m,nd,h1,h2,hk=>by
  skip
  unfold bindC;exact C9 (i:=i) (c5.mp nd).2 (by simpa using h1) (by simpa using h2) hk
abbrev start (N:ba)(vs:List V):St:=vs.map some++List.replicate (N.length-vs.length) none
abbrev I_ (CX:UI)(P:aj)(w:ah)(K:au)(mg:Str->bi)(base:aq)(N:ba)(qual:Str)(scope:Scope)(f:ak)(cd:af)(A:aA)(outer:List Env)(s:aC)(H:Hp)(E:XK):Cx where
 prog:=P
 w:=w
 K:=K
 mg:=mg
 base:=base
 A:=A.deeper (envOfC qual scope s.heap.objs.size f cd)
 N:=N
 s₀:=s
 H₀:=H
 env:=envOfC qual scope s.heap.objs.size f cd
 outer:=outer
 stack:=envOfC qual scope s.heap.objs.size f cd::outer
 ex:=[]
 calm:=true
 fn:=λ_=>true
 pn:=[]
 xe:=λe s'=>wpAny (model P w) (A.deeper<|envOfC qual scope s.heap.objs.size f cd) (leaving (envOfC qual scope s.heap.objs.size f cd) e) (λ_ c=>CX outer H s E e c) (λd c=>CX outer H s E d c) s'
def GS{sc:Scope}{n:Nat}{x:Str}(h:sc.names.lookup x=some .cell):∃c,(cellsFrom n sc.names []).lookup x=some c:=by
 have q:=PySem.W.cellsFrom_some sc.names n []<|.inl h;exact fJ.mp q
def Oo{CX:UI}{P:aj}{w:ah}{K:au}{mg:Str->bi}{base:aq}{N ps:ba}{scope:Scope}{f:ak}{cd:af}{A:aA}{outer:List Env}{s:aC}{H:Hp}{E:XK}{vs:List V}
  (S:FnScope N ps scope) (hd:A.handled=none) (e0:Env0 P w K mg base A outer s H) (hl:vs.length=ps.length) (r:Vals vs us)
  (x:InCallC s s.heap.objs.size (bindL (envOfC qual scope s.heap.objs.size f cd).kindOf (ps.zip us) λ_=>none) (cellsFrom (s.heap.objs.size+1) scope.names []) (bindC (envOfC qual scope s.heap.objs.size f cd).kindOf (ps.zip us) λ_=>none) s1) :
  Inv (I_ CX P w K mg base N qual scope f cd A outer s H E) [] (start N vs) H s1:=by
 have G:ps.length<=N.length:=by have:=dQ List.length S.pre;rw[bE]at this;lia
 obtain⟨h1,L,rfl,B⟩:=x.done;have d:∀b:ak,b∉(I_ CX P w K mg base N qual scope f cd A outer s H E).ex:=λb z=>absurd (show b∈([]:bd)from z) (by simp);refine⟨⟨e0.mod,S.kind,rfl,rfl,aP _,λy z c h1 h2=>?_,λy g=>?_,λy c _ h=>?_,λ_=>hd,Around.frames_deeper e0.frames,.inr ⟨rfl,rfl⟩,λb z=>absurd z<|d b,e0.bs,e0.bsz,λb _ _=>d b,λb z=>absurd z<|d b,e0.Cb,e0.frf⟩,
  rfl,e0.bare,Un.kept B,⟨_,x.toInCall.ns,λi y v h1 h2 h3=>?_⟩,λy c h=>⟨_,x.cell y c h⟩,e0.hok.fresh<|aP _,λy c h=>?_,λp m=>absurd (show p∈([]:bp)from m)<|by simp,e0.hok.kept B,?_⟩
 ·exact name_of_addr x.apart (fN h1) (fN h2)
 ·have g:scope.names.lookup y=some .cell\/scope.names.lookup y=some .free:=g
  rcases g with g|g
  ·exact GS g
  ·exact absurd rfl<|S.nofree _<|fN g
 ·exact jH (x.above y c<|fN h)
 ·have hi:i<vs.length:=by
   unfold start at h2;by_cases hi:i<vs.length
   ·exact hi
   ·rw[c6<|by simpa using hi]at h2;rw[gY]at h2;split at h2<;>cases h2
  have F:vs[i]?=some v:=by
   unfold start at h2;rw[bF<|by simpa using hi,aX]at h2
   cases e:vs[i]? with
   | none=>rw[e]at h2;cases h2
   | some a=>rw[e]at h2;cases h2;rfl
  obtain⟨u,C,J⟩:=r.get F;have m:ps[i]?=some y:=by
   rw[<- S.pre,eo ()];exact h1
  have j:ps.Nodup:=by rw[<- S.pre];exact S.nd.sublist (List.take_sublist _ _)
  refine⟨u,J,?_⟩
  rcases S.par y (aY m)with k|k
  ·exact .inl ⟨k,DR j m C k⟩
  ·obtain⟨c,e⟩:=GS (n:=s.heap.objs.size+1) k;refine .inr ⟨.inl k,c,e,?_⟩;have q:=x.cell y c e;rw[C9 j m C<|by show scope.names.lookup y≠_;rw[k];decide]at q;exact q
 ·exact e0.hok.fresh (jH<|x.above y c<|fN h)
 ·unfold start;show _=N.length;rw[aV,aI,List.length_replicate]
  lia
def acE{CX:UI}{P:aj}{w:ah}{K:au}{mg:Str->bi}{base:aq}{k:Nat}{f:ak}{kV pm ct:af}
  {osl:Array<|bi} {N ps:ba} {sp:Sp} (lk:K.lookup f=some ⟨oc,od,.func<|PySem.W.fnOf name qual params body scope dV kV doc pm an cdv ct,osl⟩) (hcd:PySem.W.codeIn K cdv qual=true) (S:FnScope N ps scope)
  (len:∀vs H Q E,sp vs H Q E->vs.length=ps.length)
  (hbody:∀(A:aA) (outer:List Env) (s:aC) (H:Hp) (vs:List V) (Q:VK) (E:XK),Room k (A.deeper<|envOfC qual scope s.heap.objs.size f cdv)->sp vs H Q E ->
   ∃t,EN (I_ CX P w K mg base N qual scope f cdv A outer s H E) body t/\t { nx:=λ_ H'=>Q .non H',rt:=Q } (start N vs) H) :
  FnOk P w K mg base CX (k+1) f (PySem.W.fnOf name qual params body scope dV kV doc pm an cdv ct) ps sp:=by
 refine⟨len,λA outer s H C us vs Q E j e0 T r g=>?_⟩;have G:=len _ _ _ _ g;have F:K.In s.heap:=e0.mod.kin.keeps λb o e=>(e0.bs b o e).1;have m:s.heap.NoLimit:=e0.mod.nolimit.keeps λb o e=>(e0.bs b o e).1;have d:∀y∈ps.zip us,scope.names.lookup y.1=some .local\/(scope.names.lookup y.1=some .cell/\((cellsFrom (s.heap.objs.size+1) scope.names []).lookup y.1).isSome=true):=λ⟨n,v⟩ U=>by
  rcases S.par n (jJ U).1 with q|q
  ·exact .inl q
  ·exact .inr ⟨q,PySem.W.cellsFrom_some _ _ _<|.inl q⟩
 refine codeAny_call_function j.depth (F _ _ lk) rfl S.co S.gen rfl (PySem.W.codeRec_of F hcd)<|T _ _ _ _ ?_;refine wpAny_newFunctionEnv_cells S.kind d λO L B x=>?_;subst L;refine⟨m.keeps x.toInCall.keep,codeAny_func ?_⟩;obtain⟨t,Y,M⟩:=hbody A outer s H vs Q E (j.deeper _) g;have I:Inv (I_ CX P w K mg base N qual scope f cdv A outer s H E) [] (start N vs) H B:=Oo S j.hd e0 G r x;refine jj (Y [] B (start N vs) H _ I M) (λfl s' hs=>?_) λe s' hs=>hs;have fin:∀{c:St} {H':Hp} {v:V} {u:af},Inv (I_ CX P w K mg base N qual scope f cdv A outer s H E) [] c H' s'->RelV v u->Q v H'->CE outer P w H s Q u s':=
  λ{c H' v u} J p q=>⟨v,H',J.os,J.bare,J.base,J.hok,p,q⟩
 cases fl with
 | ret u=>
  obtain⟨v,c,H',J,p,q⟩:=hs;exact fin J p q
 | next=>
  obtain⟨c,H',J,q⟩:=hs;exact fin (v:=V.non) (u:=Value.none) J rfl q
 | brk=>
  obtain⟨_,_,_,q⟩:=hs;exact False.elim q
 | cont=>
  obtain⟨_,_,_,q⟩:=hs;exact False.elim q
section
variable {X:Cx}{x:Str}{p pos:Pos}{e:aE}{es:List aE}{t:TA}{id T:String}{r:List V->Hp->VK->Prop}
abbrev tCB (r:List V->Hp->VK->Prop)(t:TA):TE:=λσ H Q=>t σ H λc H1=>r c H1 Q
def PD(hc:kO X (.builtin id) r)(hg:Gl X x)(hm:X.mg x=none)(hv:bootBuiltins x=some (.builtin id))(ha:PA X (e::es) t)(hn:x ≠ "__name__"<|>θ)(hdb:(x == ("__debug__" : Str))=false<|>θ)
  (he:starEach (e::es) X.env=(false,eval e X.env)::starEach es X.env<|>ι) (hpl:((backTo pos<|starEach es X.env).any (·.1)=false)<|>ι):PE X (.Call (.Name x p) (e::es) [] pos) (tCB r t):=by
 kd_p;refine jl<|xD I hg hm hv ?_ hn hdb;exact PyProof.Rows.callWith_builtin1 (ny (ha pos pins s σ H _ I h) λus d ⟨f,H1,I1,r1,c⟩=>hc pins d σ H1 f us Q I1 r1 c) he hpl
def zN(hc:kO X (.type T) r)(hg:Gl X x)(hm:X.mg x=none)(hv:bootBuiltins x=some (.type T))(ha:PA X (e::es) t)(hn:x ≠ "__name__"<|>θ)(hdb:(x == ("__debug__" : Str))=false<|>θ)
  (he:starEach (e::es) X.env=(false,eval e X.env)::starEach es X.env<|>ι) (hpl:((backTo pos<|starEach es X.env).any (·.1)=false)<|>ι):PE X (.Call (.Name x p) (e::es) [] pos) (tCB r t):=by
 kd_p;refine jl<|xD I hg hm hv ?_ hn hdb;exact dZ (ny (ha pos pins s σ H _ I h) λus d ⟨f,H1,I1,r1,c⟩=>hc pins d σ H1 f us Q I1 r1 c) he hpl
end
end L2
namespace HT
open PySem PyProof.Rows
abbrev lexLt:ag->ag->Bool
 | [],[]=>false
 | [],_::_=>true
 | _::_,[]=>false
 | x::xs,y::ys=>if x=y then lexLt xs ys else decide (x<y)
def o4(x y:Int)(xs ys:ag):lexLt (x::xs) (y::ys)=if x=y then lexLt xs ys else decide (x<y):=rfl
def sQ:lexLt [] []=false:=rfl
def pK(y:Int)(ys:ag):lexLt [] (y::ys)=true:=rfl
def rL(x:Int)(xs:ag):lexLt (x::xs) []=false:=rfl
section
variable {prog:aj}{w:ah}{A:aA}{E:af->aC->Prop}{s:aC}
def V9{t:ak}{vs ws:bb}{Q:af->aC->Prop}(ht:IsTup s.heap t vs.toArray)(hb:IsTup s.heap b ws.toArray)(hv:vs≠[])
  (h1:ws=[]->Q (.ref t) s) (h2:ws≠[]->Q (.ref s.heap.objs.size) { s with heap:=s.heap.push { cls:=.type "tuple",data:=.seq (vs++ws).toArray }})
  (hsz:vs.length+ws.length<=sizeLine):wpAny (model prog w) A (binaryOp .Add (.ref t)<|.ref b) Q E s:=by
 obtain⟨⟨cls,p,data,B⟩,k,hc,n,q⟩:=id ht;obtain⟨⟨C,j,m,g⟩,c,d,F,f⟩:=id hb;simp only at hc q d f;subst hc q d f;have e:vs.toArray++ws.toArray=(vs++ws).toArray:=by simp
 by_cases hw:ws=[]
 ·exact concat_meets ⟨_,k,rfl⟩ ⟨_,c,rfl⟩ noFill_tuple_add seq_tuple_add ie gZ (gJ _ _)
   (tuple_addW1 t b vs.toArray ws.toArray n F p j B g (by simpa using hv)<|by simp[hw]) ⟨k,c,h1 hw⟩
 ·refine concat_meets ⟨_,k,rfl⟩ ⟨_,c,rfl⟩ noFill_tuple_add seq_tuple_add ie gZ (gJ _ _)
   (tuple_addW2 t b vs.toArray ws.toArray n F p j B g (by simpa using hv) (by simpa using hw)<|by rw[br,br];exact hsz) ⟨k,c,?_⟩
  rw[e];exact h2 hw
abbrev oK (n d:Nat):bj->Nat
 | none=>d
 | some v=>if v<0 then(v+(n:Int)).toNat else min v.toNat n
def GU(n d:Nat):oK n d none=d:=rfl
def u5(n d k:Nat):oK n d (some (k:Int))=min k n:=by
 show(if (k:Int)<0 then((k:Int)+(n:Int)).toNat else min (k:Int).toNat n)=min k n;rw[aJ (),c7]
def YS(n d:Nat)(hd:d<=n)(o:bj):oK n d o<=n:=by
 cases o with
 | none=>exact hd
 | some v=>
  show(if v<0 then(v+(n:Int)).toNat else min v.toNat n)<=n;by_cases hv:v<0
  ·rw[aM hv];lia
  ·rw[aJ hv];exact Nat.min_le_right _ _
def Km(v:Int)(n d:Nat):(if v<0 then max (v+(n:Int)) 0 else min v (n:Int))=((oK n d (some v):Nat):Int):=by
 show(if v<0 then max (v+(n:Int)) 0 else min v (n:Int))=(((if v<0 then(v+(n:Int)).toNat else min v.toNat n):Nat):Int);by_cases hv:v<0
 ·dsimp[aM hv];lia
 ·dsimp[aJ hv];lia
def JL(lo hi:bj)(n:Nat):Builtin.Slice.sliceAdjust lo hi 1 (n:Int)=(((oK n 0 lo:Nat):Int),((oK n n hi:Nat):Int)):=by
 have h1:¬((1:Int)<0):=()
 unfold Builtin.Slice.sliceAdjust;dsimp[h1,bU];refine Prod.ext ?_ ?_
 ·cases lo with
  | none=>rfl
  | some v=>exact Km v n 0
 ·cases hi with
  | none=>rfl
  | some v=>exact Km v n n
def Jb(i j:Nat):Builtin.Slice.slicePlaces (i:Int) (j:Int) 1=j-i:=by
 unfold Builtin.Slice.slicePlaces;have h1:(1:Int)>0:=()
 dsimp[h1,cK,Int.ediv_one];split<;>lia
def By{v:af}{Q:bj->aC->Prop}(p:IsPart v o)(h:Q o s):wpAny (model prog w) A (Builtin.Slice.slicePartIndex v) Q E s:=by
 cases p with
 | none=>exact slicePart_none h
 | int i t=>exact slicePart_int h
def zb{lo:bj}{n:Nat}{Q:Int×Int×Nat->aC->Prop}(hs:s.heap.IsSliceOf sl vl vu .none)(pl:IsPart vl lo)(pu:IsPart vu hi)
  (h:Q (((oK n 0 lo:Nat):Int),1,oK n n hi-oK n 0 lo) s):wpAny (model prog w) A (Builtin.Slice.sliceApplied (.ref sl)<|pure (n:Int)) Q E s:=by
 obtain⟨f,d,e,c⟩:=id hs;unfold Builtin.Slice.sliceApplied Builtin.Slice.sliceFields;refine aG<|aG<|fB d c (x:=vl) rfl<|aG<|fB d c (x:=vu) rfl<|aG<|fB d c (x:=.none) rfl<|aQ ?_;refine aG (slicePart_none ?_)
 skip
 rw[aJ ⋯];refine aG<|By pl<|aG<|By pu<|aG<|aQ ?_;show wpAny _ _ (match Builtin.Slice.sliceAdjust lo hi 1 (n:Int)with|(lo,hi)=>pure (lo,(1:Int),Builtin.Slice.slicePlaces lo hi 1)) _ _ s;rw[JL lo hi n];show wpAny _ _ (pure (((oK n 0 lo:Nat):Int),(1:Int),Builtin.Slice.slicePlaces ((oK n 0 lo:Nat):Int) ((oK n n hi:Nat):Int) 1)) _ _ s;rw[Jb];exact aQ h
def TX(xs:Array af)(i k:Nat):((List.range k).filterMap λ(m:Nat)=>xs[((i:Int)+(m:Int) * 1).toNat]?).toArray=((xs.toList.drop i).take k).toArray:=by
 have e:(λ(m:Nat)=>xs[((i:Int)+(m:Int) * 1).toNat]?)=λm=>xs[i+m]?:=by
  funext m
  have:((i:Int)+(m:Int) * 1).toNat=i+m:=()
  rw[this]
 rw[e];have:=pick_run xs i k;rw[List.filterMap_map]at this;have e2:((λx=>xs[x]?) ∘ λx=>i+x)=λm=>xs[i+m]?:=rfl;rw[e2]at this;rw[this]
def xR{t:ak}{items:Array af}{lo:bj}{Q:af->aC->Prop}(ht:IsTup s.heap t items)(hs:s.heap.IsSliceOf sl vl vu .none)(pl:IsPart vl lo)(pu:IsPart vu hi)
  (hw:¬(oK items.size 0 lo=0/\oK items.size items.size hi=items.size))
  (h:Q (.ref s.heap.objs.size) { s with heap:=s.heap.push { cls:=.type "tuple",data:=.seq ((items.toList.drop<|oK items.size 0 lo).take<|oK items.size items.size hi-oK items.size 0 lo).toArray }})
  (hsz:items.size<=sizeLine):wpAny (model prog w) A (getItem (.ref t)<|.ref sl) Q E s:=by
 have c:sizeOk (.seq ((items.toList.drop<|oK items.size 0 lo).take<|oK items.size items.size hi-oK items.size 0 lo).toArray):=by
  show((items.toList.drop<|oK items.size 0 lo).take<|oK items.size items.size hi-oK items.size 0 lo).toArray.size<=sizeLine;rw[br,bE,cB,cW];omega
 have C:oK items.size items.size hi<=items.size:=YS _ _ (aP _) hi;obtain⟨k,e,f,j⟩:=id hs;have d:s.TypeIs (.ref sl) "slice" := ⟨k,e,f⟩;unfold getItem
 try with_reducible refine dw ?_
 first|refine aG (aQ ?_)|skip
 refine aG<|wpAny_sequenceKey ht.typeIs ⋯ ?_;refine aG (dm (name:=Str.ofString "__getitem__") ht.typeIs fM
  (cN fM ht.typeIs entry_tuple_getitem ?_<|args_tuple_getitem _ _))
 show wpAny _ _ (Builtin.Tuple.tupleItemsOf (.ref t) >>= _) _ _ s;refine aG<|tupleItemsOf_ ht ?_;refine aG<|fY d ?_;rw[aM ⋯];refine aG<|zb hs pl pu ?_;have g:¬((((oK items.size 0 lo:Nat):Int) == 0 && (1:Int) == 1 && (oK items.size items.size hi-oK items.size 0 lo) == items.size)=true):=by
  intro q;rw[fR,fR]at q;have B:((oK items.size 0 lo:Nat):Int)=0:=eq_of_beq q.1.1;have p:oK items.size items.size hi-oK items.size 0 lo=items.size:=eq_of_beq q.2;exact hw ⟨by omega,by omega⟩
 show wpAny _ _ (if (((oK items.size 0 lo:Nat):Int) == 0 && (1:Int) == 1 && (oK items.size items.size hi-oK items.size 0 lo) == items.size)=true then _ else _) _ _ s;rw[aJ g,TX]
 first
  | exact aG (m:=Builtin.Tuple.tupleExact _) (cA (aQ ⟨_,rfl,aQ h⟩) c)
  | exact aG (m:=Builtin.Tuple.tupleExact _) (cA (aG<|aQ<|aQ ⟨_,rfl,aQ h⟩) c)
  | exact aG (aG (m:=Builtin.Tuple.tupleExact _)<|cA (aQ<|aQ ⟨_,rfl,aQ h⟩) c)
  | exact aG<|aG (m:=Builtin.Tuple.tupleExact _)<|cA (aQ ⟨_,rfl,aQ h⟩) c
end
end HT
namespace L2
open PySem PySem.Spec PyProof.Rows
meta abbrev TO:=St->Hp->(bj->Hp->Prop)->Prop
abbrev PO (X:Cx)(e:Option aE)(t:TO):Prop:=
 ∀(pins:bp) (s:aC) (σ:St) (H:Hp) (Q:bj->Hp->Prop),Inv X pins σ H s->t σ H Q ->
  wpAny (model X.prog X.w) X.A (evalPart e X.env) (λu s'=>∃o H',Inv X pins σ H' s'/\IsPart u o/\Q o H') X.xe s
abbrev Vm:TO:=λ_ H Q=>Q none H
abbrev abp (t:TE):TO:=λσ H Q=>t σ H λx H1=>∃i,x=.int i/\Q (some i) H1
def intsAre_of{ns:ag}:∀{us:bb},Vals (ns.map V.int) us->IntsAre us ns:=by
 induction ns with
 | nil=>intro us r;rw[ig]at r;cases r;exact .nil
 | cons n ns c=>
  intro us r;rw[bL]at r
  cases r with
  | cons r1 r2=>
   obtain⟨t,e⟩:=r1;subst e;exact .cons n t<|c r2
section
variable {X:Cx}{e:aE}{te:TE}{lo hi:Option aE}{tl th:TO}{pos p2:Pos}
def WX:PO X none Vm:=by
 kd_p;rw[evalPart_none];exact aQ ⟨none,H,I,.none,h⟩
def Ww(h:PE X e te):PO X (some e) (abp te):=by
 intro pins s σ H Q I hw;rw[evalPart_some];refine ny (h pins s σ H _ I hw) λu d ⟨x,H1,I1,r1,c⟩=>?_;obtain⟨i,rfl,q⟩:=c;obtain⟨t,rfl⟩:=r1;exact⟨some i,H1,I1,.int i t,q⟩
abbrev SlR (X:Cx)(r:V->bj->bj->Hp->VK->Prop):Prop:=
 ∀(pins:bp) (s:aC) (σ:St) (H:Hp) (x:V) (v c e:af) (lo hi:bj) (d:ak) (Q:VK),Inv X pins σ H s->RelV x v->s.heap.IsSliceOf d c e .none->IsPart c lo->IsPart e hi->r x lo hi H Q ->
  ∃T id,typeLookup (.type T) "__getitem__" = pure (some<|.builtin id)/\s.TypeIs v T/\wpAny (model X.prog X.w) X.A (getItem v<|.ref d) (EP X pins σ Q) X.xe s
abbrev tSl (r:V->bj->bj->Hp->VK->Prop)(te:TE)(tl th:TO):TE:=λσ H Q=>te σ H λx H1=>tl σ H1 λl H2=>th σ H2 λu H3=>r x l u H3 Q
def OW{r:V->bj->bj->Hp->VK->Prop}(hr:SlR X r)(he:PE X e te)(hl:PO X lo tl)(hu:PO X hi th):PE X (.Subscript e (.Slice lo hi none p2) pos) (tSl r te tl th):=by
 kd_p;refine Subscript_<|ny (he pins s σ H _ I h) λv g ⟨x,H1,I1,r1,F⟩=>?_;refine wpAny_Slice<|ny (hl pins g σ H1 _ I1 F) λf p ⟨l,H2,m,pl,B⟩=>ny (hu pins p σ H2 _ m B) λd c ⟨u,H3,k,C,G⟩=>?_;rw[evalPart_none];refine aQ ?_;have j:Inv X pins σ H3 { c with heap:=c.heap.push { cls:=.type "slice",data:=.fields #[f,d,.none]}}:=k.kept (t':=c.toks) λb J q=>aR _ q;obtain⟨T,id,hT,ht,hg⟩:=hr pins { c with heap:=c.heap.push { cls:=.type "slice",data:=.fields #[f,d,.none]}} σ H3 x v f d l u c.heap.objs.size Q j r1 (Heap.IsSliceOf.new ..) pl C G
 skip
 exact tail_any (ops:=[.ref c.heap.objs.size,v]) ht hT hg<|by with_unfolding_all rfl
abbrev F7 (xs:List V)(lo hi:bj):List V:=(xs.drop<|HT.oK xs.length 0 lo).take<|HT.oK xs.length xs.length hi-HT.oK xs.length 0 lo
def zW(xs:List V)(lo hi:bj):(F7 xs lo hi).length<=xs.length:=by
 unfold F7;rw[bE,cB]
 lia
abbrev adn (K:au):V->bj->bj->Hp->VK->Prop:=λx lo hi H Q=>∃a xs,x=.ref a/\oF K H a xs /\
 ¬(HT.oK xs.length 0 lo=0/\HT.oK xs.length xs.length hi=xs.length)/\∀p,H p=none->Q (.ref p) (upd H p<|.tup<|F7 xs lo hi)
def YO:SlR X (adn X.K):=by
 intro pins s σ H x v B p lo hi m Q I rx hs pl j h;obtain⟨a,xs,rfl,g,hw,q⟩:=h
 cases rx
 obtain⟨d,r,f,e⟩:=I.tuple g;have c:d.toArray.size=xs.length:=by rw[br];exact r.length.symm
 refine⟨"tuple",_,fM.lookup,f.typeIs,?_⟩;refine HT.xR f hs pl j (by rw[c];exact hw) ?_ (by rw[c];exact e);rw[c];refine⟨.ref s.heap.objs.size,_,I.laid (t':=s.toks) (o:=.tup<|F7 xs lo hi) (λb k q=>aR _ q) (aP _) ?_,rfl,q _<|I.hok.fresh<|aP _⟩;exact⟨bH (zW xs lo hi) e,_,(r.drop<|HT.oK xs.length 0 lo).take<|HT.oK xs.length xs.length hi-HT.oK xs.length 0 lo,p_.new _ _⟩
abbrev abC (K:au):R2:=λx y H Q=>∃a b xs ys,x=.ref a/\y=.ref b/\oF K H a xs/\oF K H b ys/\xs≠[]/\xs.length+ys.length<=sizeLine /\
 (ys=[]->Q (.ref a) H)/\(ys≠[]->∀p,H p=none->Q (.ref p) (upd H p<|.tup<|xs++ys))
def Vals.E4(r:Vals xs us):us=[] ↔ xs=[]:=by
 cases r with
 | nil=>simp
 | cons _ _=>simp
def W3:pH X (binaryOp .Add) (abC X.K):=by
 gp_on;obtain⟨a,b,xs,ys,rfl,rfl,f,g,j,c,m,k⟩:=h
 cases rx
 cases ry
 obtain⟨e,r1,p1,_⟩:=I.tuple f;obtain⟨d,r2,p2,_⟩:=I.tuple g;refine HT.V9 p1 p2 (λz=>j<|r1.E4.mp z) (λz=>⟨.ref a,H,I,rfl,m<|r2.E4.mp z⟩) (λz=>?_) (by rw[<- r1.length,<- r2.length];exact c);refine⟨.ref s.heap.objs.size,_,I.laid (t':=s.toks) (o:=.tup<|xs++ys) (λb p q=>aR _ q) (aP _) ?_,rfl,k (λw=>z<|r2.E4.mpr w) _<|I.hok.fresh<|aP _⟩;exact⟨by rw[aV];exact c,_,r1.append r2,p_.new _ _⟩
end
abbrev CZ (n:Nat)(i:Int):bo:=if 0<=i then(if i<n then some i.toNat else none)else if -(n:Int)<=i then some (i+n).toNat else none
abbrev sO {α:Type}(xs:List α)(i:Int):Option α:=(CZ xs.length i).bind λj=>xs[j]?
def LI{n:Nat}{i:Int}(h:CZ n i=some j):seqIndex? i n=some j/\j<n/\-(n:Int)<=i/\i<n:=by
 unfold CZ at h;by_cases h0:0<=i
 ·rw[aM h0]at h;by_cases h1:i<n
  ·rw[aM h1]at h;have e:i.toNat=j:=aZ h;exact⟨by rw[seqIndex_of h0 h1,e],(),(),h1⟩
  ·rw[aJ h1]at h;cases h
 ·rw[aJ h0]at h;by_cases h1:-(n:Int)<=i
  ·rw[aM h1]at h;have e:(i+n).toNat=j:=aZ h;exact⟨by rw[seqIndex_neg () h1,e],(),h1,()⟩
  ·rw[aJ h1]at h;cases h
def FA{α:Type}{xs:List α}{i:Int}{v:α}(h:sO xs i=some v):∃j,seqIndex? i xs.length=some j/\xs[j]?=some v/\j<xs.length/\-(xs.length:Int)<=i/\i<xs.length:=by
 unfold sO at h
 cases e:CZ xs.length i with
 | none=>rw[e]at h;cases h
 | some j=>
  rw[e]at h;obtain⟨h1,h2,h3,c⟩:=LI e;exact⟨j,h1,h,h2,h3,c⟩
def UP{α:Type}{xs:List α}{j:Nat}{v:α}(h:xs[j]?=some v):sO xs (j:Int)=some v:=by
 have c:j<xs.length:=(aN.mp h).1;have e:CZ xs.length (j:Int)=some j:=by
  unfold CZ;rw[aM (),aM ()];simp
 unfold sO;rw[e];exact h
abbrev yF (b:aE):Prop:=∀o i,subscripted b false o i=operate [o,i] (getItem o i)
abbrev UD (X:Cx)(r:R2):Prop:=
 ∀(value slice:aE) (pins:bp) (s:aC) (σ:St) (H:Hp) (x y:V) (v u:af) (Q:VK),Inv X pins σ H s->RelV x v->RelV y u->r x y H Q ->
  subscripted slice false v u=operate [v,u] (getItem v u)->wpAny (model X.prog X.w) X.A (subscriptTail value slice v u) (EP X pins σ Q) X.xe s
abbrev Xu (X:Cx)(id:String)(r:V->List V->Hp->VK->Prop):Prop:=
 ∀(pins:bp) (s:aC) (σ:St) (H:Hp) (x:V) (xs:List V) (v:af) (us:bb) (Q:VK),Inv X pins σ H s->RelV x v->Vals xs us->r x xs H Q ->
  wpAny (model X.prog X.w) X.A (call (.builtin id) (v::us)) (EP X pins σ Q) X.xe s
section
variable {X:Cx}{a b:aE}{ta tb:TE}{pos:Pos}
def KL{r:R2}(hr:UD X r)(ha:PE X a ta)(hb:PE X b tb)(hs:yF b):PE X (.Subscript a b pos) (tOp r ta tb):=by
 kd_p;exact Subscript_<|Zh ha hb I h λv u d x y H2 c rx ry q=>hr a b pins d σ H2 x y v u Q c rx ry q<|hs _ _
abbrev adS (K:au):R2:=λx y H Q=>∃p xs i v,x=.ref p/\y=.int i/\qj K H p xs/\sO xs i=some v/\Q v H
abbrev adu (K:au):R2:=λx y H Q=>∃p xs i v,x=.ref p/\y=.int i/\oF K H p xs/\sO xs i=some v/\Q v H
abbrev aec:R2:=λx y H Q=>∃z i c,x=.str z/\y=.int i/\z.length<=sizeLine/\sO z.cps.toList i=some c/\Q (.str ⟨#[c]⟩) H
def Kq:UD X (adS X.K):=by
 intro value slice pins s σ H x y v u Q I rx ry h hs;obtain⟨p,xs,i,z,rfl,rfl,B,m,q⟩:=h
 cases rx
 obtain⟨t,rfl⟩:=ry;obtain⟨c,r,pl,F⟩:=I.list B;obtain⟨j,h1,h2,h3,C,g⟩:=FA m;obtain⟨w,f,e⟩:=r.get h2;have k:=r.length;have hn:=xK;have fin:EP X pins σ Q w s:=⟨z,H,I,e,q⟩;by_cases h0:0<=i
 ·have d:i.toNat=j:=by
   rw[seqIndex_of h0 g]at h1;exact aZ h1
  exact item_listR pl.isList h0 () (by rw[d];simpa using f) fin hs
 ·have d:(i+(c.toArray.size:Int)).toNat=j:=by
   rw[seqIndex_neg () C]at h1;rw[br,<- k];exact aZ h1
  exact subscriptTail_builtinR (x:=w) pl.isList.typeIs slot_list_getitem.lookup
   (wpAny_getItem_list_neg (Q:=λr s'=>r=w/\EP X pins σ Q r s') pl.isList () (by rw[br]<;>lia) () (by rw[d];simpa using f) ⟨rfl,fin⟩) hs
def YR:UD X (adu X.K):=by
 intro value slice pins s σ H x y v u Q I rx ry h hs;obtain⟨p,xs,i,z,rfl,rfl,g,f,q⟩:=h
 cases rx
 obtain⟨t,rfl⟩:=ry;obtain⟨d,r,pl,B⟩:=I.tuple g;obtain⟨j,h1,h2,h3,C,m⟩:=FA f;obtain⟨w,k,c⟩:=r.get h2;have e:=r.length;have hn:=xK;have fin:EP X pins σ Q w s:=⟨z,H,I,c,q⟩;exact subscriptTail_builtinR (x:=w) pl.typeIs slot_tuple_getitem.lookup
  (getItem_tuple (j:=j) (Q:=λr s'=>r=w/\EP X pins σ Q r s') pl () () (by rw[br,<- e];exact h1) (by simpa using k) ⟨rfl,fin⟩) hs
def YM:UD X aec:=by
 intro value slice pins s σ H x y v u Q I rx ry h hs;obtain⟨z,i,c,rfl,rfl,m,d,q⟩:=h;f_are;obtain⟨k,rfl⟩:=ry;obtain⟨j,h1,h2,h3,g,f⟩:=FA d;have e:z.cps.toList.length=z.length:=by simp[Str.length]
 rw[e]at h1 g f;have hn:=xK;exact tail_any (typeIs_str s z t) slot_str_getitem.lookup (getItem_str (c:=c) (by
  have e1:decide (i < -(2 ^ 63:Int))=false:=bq ();have e2:decide (i>=2 ^ 63)=false:=bq ();rw[e1,e2,Bool.or_false]) (by rw[h1];simpa using h2) ⟨.str ⟨#[c]⟩,H,I.tok _,⟨_,rfl⟩,q⟩) hs
def Ji(its:bb)(n j:Nat)(u:af):Obj.mapSeq (·.setIfInBounds j u) { cls:=.type "list",data:=.seq its.toArray n }={ cls:=.type "list",data:=.seq (its.set j u).toArray n }:=by
 simp[Obj.mapSeq]
def Inv.lst{H:Hp}{s:aC}{p:ak}{xs:List V}(I:Inv X pins σ H s)(h:H p=some (.lst xs)) :
  ∃(its:bb) (n:Nat),Vals xs its/\s.heap.get? p=some { cls:=.type "list",data:=.seq its.toArray n }/\xs.length<=sizeLine:=by
 obtain⟨z,its,n,r,e⟩:=I.hok p _ h;exact⟨its,n,r,e,z⟩
def Inv.ZS{H:Hp}{s:aC}{p:ak}{ys:List V}{its its':bb}{n:Nat}{f:Obj->Obj}(I:Inv X pins σ H s)(h:H p=some (.lst xs))
  (ho:s.heap.get? p=some { cls:=.type "list",data:=.seq its.toArray n }) (hf:f { cls:=.type "list",data:=.seq its.toArray n }={ cls:=.type "list",data:=.seq its'.toArray n' }) (r:Vals ys its') (hz:ys.length<=sizeLine) (t:Nat) :
  Inv X pins σ (upd H p<|.lst ys) { s with heap:=s.heap.update p f,toks:=t }:=by
 have e:(s.heap.update p f).get? p=some { cls:=.type "list",data:=.seq its'.toArray n' }:=by
  rw[gh f ho<|by rw[hf]<;>rfl,hf]
 refine I.write (x:=p) (e:=p) (by rw[h];trivial) (.inl rfl) (λb u c q=>(Heap.get?_update_other _ _<|c9 c).trans q) ⟨_,e⟩ ?_;exact⟨hz,its',n',r,e⟩
abbrev aco:V->V->V->Hp->(Hp->Prop)->Prop:=λo i v H Q=>∃p xs k j,o=.ref p/\i=.int k/\H p=some (.lst xs)/\CZ xs.length k=some j/\Q (upd H p<|.lst<|xs.set j v)
def set_list:EA X aco:=by
 intro pins s σ H o i v ov iv u Q I J C K h;obtain⟨p,xs,k,j,rfl,rfl,m,F,q⟩:=h
 cases J
 obtain⟨t,rfl⟩:=C;obtain⟨c,n,r,d,G⟩:=I.lst m;obtain⟨h1,h2,h3,B⟩:=LI F;have f:=r.length;have hn:=xK;have g:Inv X pins σ (upd H p<|.lst<|xs.set j v) { s with heap:=s.heap.update p<|Obj.mapSeq (·.setIfInBounds j u)}:=
  I.ZS m d (Ji c n j u) (r.set K j) (by rw[bW];exact G) s.toks
 by_cases h0:0<=k
 ·have e:k.toNat=j:=by
   rw[seqIndex_of h0 B]at h1;exact aZ h1
  exact PySem.W.ki_setAt d h0 () (by rw[br,<- f];exact B)<|by rw[e];exact⟨_,g,q⟩
 ·have e:(k+(c.toArray.size:Int)).toNat=j:=by
   rw[seqIndex_neg () h3]at h1;rw[br,<- f];exact aZ h1
  exact PySem.W.ki_setBack d () (by rw[br,<- f];exact h3) ()<|by rw[e];exact⟨_,g,q⟩
def E_(lo hi:bj)(n:Nat):(sliceBounds lo hi none n).1=((HT.oK n 0 lo:Nat):Int)/\(sliceBounds lo hi none n).2.1=((HT.oK n n hi:Nat):Int)/\(sliceBounds lo hi none n).2.2=1:=by
 refine⟨?_,?_,rfl⟩
 ·cases lo with
  | none=>simp[sliceBounds,HT.oK]
  | some i=>
   dsimp[sliceBounds,HT.oK,getD_none,show(1:Int)>0 by decide,cK];by_cases h:i<0
   ·dsimp[h,cK]<;>lia
   ·dsimp[h,bU]<;>lia
 ·cases hi with
  | none=>simp[sliceBounds,HT.oK]
  | some i=>
   dsimp[sliceBounds,HT.oK,getD_none,show(1:Int)>0 by decide,cK];by_cases h:i<0
   ·dsimp[h,cK]<;>lia
   ·dsimp[h,bU]<;>lia
def CM(its:bb)(lo hi:bj):slicePick its.toArray lo hi none=((its.drop<|HT.oK its.length 0 lo).take<|HT.oK its.length its.length hi-HT.oK its.length 0 lo).toArray:=by
 obtain⟨h1,h2,h3⟩:=E_ lo hi its.toArray.size;unfold slicePick;rw[h1,h2,h3];dsimp[sliceRange_one,pick_run,br]<;>rfl
abbrev adx (K:au):V->bj->bj->Hp->VK->Prop:=λx lo hi H Q=>∃a xs,x=.ref a/\qj K H a xs/\∀p,H p=none->Q (.ref p) (upd H p<|.lst<|F7 xs lo hi)
def MB:SlR X (adx X.K):=by
 intro pins s σ H x v B p lo hi m Q I rx hs pl j h;obtain⟨a,xs,rfl,g,q⟩:=h
 cases rx
 obtain⟨e,r,d,f⟩:=I.list g;have c:=r.length;refine⟨"list",_,slot_list_getitem.lookup,d.isList.typeIs,?_⟩;refine wpAny_getItem_list_slice d.isList hs pl j .none (by simp) ?_ (by rw[br]<;>lia);rw[CM,<- c];refine⟨.ref s.heap.objs.size,_,I.laid (t':=s.toks) (o:=.lst<|F7 xs lo hi) (λb k q=>aR _ q) (aP _) ?_,rfl,q _<|I.hok.fresh<|aP _⟩;exact⟨bH (zW xs lo hi) f,_,0,(r.drop<|HT.oK xs.length 0 lo).take<|HT.oK xs.length xs.length hi-HT.oK xs.length 0 lo,bz _ rfl⟩
def uz:kO X (.type "list") (λxs H Q=>∃p ys,xs=[.ref p]/\(qj X.K H p ys\/oF X.K H p ys)/\∀l,H l=none->Q (.ref l) (upd H l<|.lst ys)):=by
 k_ne;obtain⟨p,ys,rfl,g,q⟩:=h;kpc_g
 cases rx
 have fin:∀(c:bb),Vals ys c->ys.length<=sizeLine->∀(h':aq) (d:Nat),(∀b o',s.heap.get? b=some o'->h'.get? b=some o') ->
   h'.get? s.heap.objs.size=some { cls:=.type "list",dict:=none,data:=.seq c.toArray d,slots:=#[]}->EP X pins σ Q (.ref s.heap.objs.size) { s with heap:=h' }:=λc f j h' d kp e=>
  ⟨.ref s.heap.objs.size,_,I.laid (t':=s.toks) kp (aP _)<|show lO X.prog X.w _ h' _ (.lst ys)from⟨j,c,d,f,e⟩,rfl,q _<|I.hok.fresh<|aP _⟩
 rcases g with g|g
 ·obtain⟨c,f,pl,j⟩:=I.list g;have k:=f.length;obtain⟨o,m,hc,n,B⟩:=pl.isList;exact call_list_seq p (.inl rfl) m hc B (λh' d kp e=>fin c f j h' d kp e) (by dsimp[br]<;>lia)
 ·obtain⟨c,f,pl,j⟩:=I.tuple g;have k:=f.length;obtain⟨o,m,hc,n,B⟩:=pl;exact call_list_seq p (.inr rfl) m hc B (λh' d kp e=>fin c f j h' d kp e)<|by dsimp[br]<;>lia
def tP:kO X (.type "tuple") (λxs H Q=>∃p ys,xs=[.ref p]/\((qj X.K H p ys/\∀l,H l=none->Q (.ref l) (upd H l<|.tup ys))\/(oF X.K H p ys/\Q (.ref p) H))):=by
 k_ne;obtain⟨p,ys,rfl,h⟩:=h;kpc_g
 cases rx
 rcases h with⟨d,q⟩|⟨d,q⟩
 ·obtain⟨c,f,pl,g⟩:=I.list d;have j:=f.length;refine call_tuple_list pl.isList (λh' kp=>?_) (by dsimp[br]<;>lia);have I1:Inv X pins σ H { s with heap:=h' }:=I.kept (t':=s.toks) kp;have k:Inv X pins σ (upd H h'.objs.size<|.tup ys) { s with heap:=h'.push { cls:=.type "tuple",data:=.seq c.toArray }}:=
   I1.laid (t':=s.toks) (λb o e=>aR _ e) (aP _) (show lO X.prog X.w _ _ _ (.tup ys)from⟨g,c,f,p_.new _ _⟩)
  exact⟨.ref h'.objs.size,_,k,rfl,q _<|I1.hok.fresh<|aP _⟩
 ·obtain⟨c,f,pl,g⟩:=I.tuple d;exact call_tuple_same pl ⟨.ref p,H,I,rfl,q⟩
abbrev tyV (K:au)(T:String)(x:V)(H:Hp):Prop:=match x with
 | .str _=>T = "str"
 | .int _=>T = "int"
 | .ref p=>(T = "list" /\ ∃xs,qj K H p xs)\/(T = "tuple" /\ ∃o,K.lookup p=some o/\o.cls=.type "tuple" /\ o.dict=none) \/
   (T = "dict" /\ ((∃kvs,H p=some (.dK kvs))\/∃kvs,H p=some (.dT kvs)))\/(T = "set" /\ ∃S n,H p=some (.set S n))
 | _=>False
def aaV{H:Hp}{s:aC}{x:V}{v:af}(I:Inv X pins σ H s)(r:RelV x v)(ty:tyV X.K T x H) :
  s.TypeIs v T/\∀a,v=.ref a->∃ob,s.heap.get? a=some ob/\ob.dict=none:=by
 cases x with
 | str z=>
  obtain⟨t,rfl⟩:=r
  cases(show T = "str" from ty)
  exact⟨typeIs_str s z t,nofun⟩
 | int i=>
  obtain⟨t,rfl⟩:=r
  cases(show T = "int" from ty)
  exact⟨typeIs_int s i t,nofun⟩
 | ref p=>
  cases r
  rcases ty with⟨rfl,xs,j⟩|⟨rfl,o,d,hc,f⟩|⟨rfl,d⟩|⟨rfl,S,n,d⟩
  ·obtain⟨g,_,pl,_⟩:=I.list j;refine⟨pl.isList.typeIs,λa e=>?_⟩
   cases e
   obtain⟨o,n,e,c,f,_⟩:=pl;exact⟨o,e,f⟩
  ·refine⟨⟨o,I.FZ p o d,hc⟩,λa e=>?_⟩
   cases e
   exact⟨o,I.FZ _ o d,f⟩
  ·have z:∃o,s.heap.get? p=some o/\o.ExactDict:=by
    rcases d with⟨kvs,d⟩|⟨kvs,d⟩
    ·obtain⟨_,_,_,_,o,_,_,e,ex,_⟩:=I.hok p _ d;exact⟨o,e,ex⟩
    ·obtain⟨_,_,_,_,o,_,_,e,ex,_⟩:=I.hok p _ d;exact⟨o,e,ex⟩
   obtain⟨o,e,ex⟩:=z;refine⟨⟨o,e,ex.1⟩,λa e2=>?_⟩
   cases e2
   exact⟨o,e,ex.2.1⟩
  ·obtain⟨o,_,_,_,e,ex,_⟩:=I.hok p _ d;refine⟨⟨o,e,ex.1⟩,λa e2=>?_⟩
   cases e2
   exact⟨o,e,ex.2.1⟩
 | _=>exact False.elim ty
abbrev tBM (K:au)(T:String)(r:V->List V->Hp->VK->Prop)(to:TE)(t:TA):TE:=λσ H Q=>to σ H λx H1=>tyV K T x H1/\t σ H1 λxs H2=>r x xs H2 Q
variable {o e:aE}{es:List aE}{to:TE}{t:TA}{name:Str}{apos cpos:Pos}{T id:String}{r:V->List V->Hp->VK->Prop}
def Ss(pa:PlainAttrs T)(slot:Slot T name id)(hty:typeOf (.builtin id)=pure (.type "method_descriptor"))(hm:Xu X id r)(ho:PE X o to)(ha:PA X (e::es) t)
  (hbase:attributeBase o name X.env (eval o X.env)=eval o X.env<|>ι)
  (hfew:(((backTo cpos<|starEach (e::es) X.env).all (λx=>!x.1) && (backToKw cpos<|keywordEach [] X.env).all (λx=>x.1.isSome)
   && decide ((e::es).length+([]:List Keyword).length+(if ([]:List Keyword).isEmpty then 0 else 1)<30))=true)<|>ι)
  (hline:(apos.endLine == cpos.line)=true<|>ι) (hs:starEach (e::es) X.env=(false,eval e X.env)::starEach es X.env<|>ι) (hplain:((backTo cpos<|starEach es X.env).any (·.1)=false)<|>ι) :
  PE X (.Call (.Attribute o name apos) (e::es) [] cpos) (tBM X.K T r to t):=by
 kd_p;refine wpAny_Call_method_late hbase hfew hline rfl<|ny (ho pins s σ H _ I h) λv j ⟨x,H1,I1,r1,ty,g⟩=>?_;obtain⟨h1,h2⟩:=aaV I1 r1 ty;refine⟨T,id,pa,slot,hty,h1,h2,?_⟩;have c:=ha cpos pins j σ H1 _ I1 g;rw[hs]at c ⊢;refine Calls.callWith_builtin (by show(false || (backTo cpos<|starEach es X.env).any (·.1))=false;rw[hplain]<;>rfl)<|Calls.evalArgs_plain ?_;exact ny c λus k ⟨m,H2,d,r2,f⟩=>hm pins k σ H2 x m v us Q d r1 r2 f
end
abbrev MtM (X:Cx)(id:String)(r:V->List V->Hp->VK->Prop):Prop:=
 ∀(pins:bp) (s:aC) (σ:St) (H:Hp) (x:V) (xs:List V) (v:af) (us:bb) (Q:VK),Inv X pins σ H s->RelV x v->Vals xs us->r x xs H Q ->
  wpAny (model X.prog X.w) X.A (call (.builtin id) (v::us)) (EP X pins σ Q) X.xe s
def Vals.one:∀{x:V}{us:bb},Vals [x] us->∃u,us=[u]/\RelV x u
 | _,_,.cons r .nil=>⟨_,rfl,r⟩
theorem Vals.eraseIdx:∀{xs:List V}{us:bb}(i:Nat),Vals xs us->Vals (xs.eraseIdx i) (us.eraseIdx i)
 | _,_,_,.nil=>.nil
 | _,_,0,.cons _ t=>t
 | _,_,i+1,.cons r t=>.cons r<|Vals.eraseIdx i t
theorem Vals.rep(h:Vals xs us):∀k:Nat,Vals (List.replicate k xs).flatten (List.replicate k us).flatten
 | 0=>.nil
 | k+1=>by
  rw[dG,dG,eK,eK];exact Vals.append h<|Vals.rep h k
theorem DZ{α:Type}:∀(l:List α) (i:Nat),(l.eraseIdx i).length<=l.length
 | [],_=>aP _
 | _::_,0=>Nat.le_succ _
 | _::r,i+1=>Nat.succ_le_succ<|DZ r i
theorem foldl_rep(its:bb):∀(k:Nat) (acc:bb),
  List.foldl (λx1 x2=>x1++x2) acc.toArray (List.replicate k its.toArray)=(acc++(List.replicate k its).flatten).toArray
 | 0,acc=>by simp
 | k+1,acc=>by
  have e:acc.toArray++its.toArray=(acc++its).toArray:=by simp
  have e2:(acc++its)++(List.replicate k its).flatten=acc++(List.replicate (k+1) its).flatten:=by
   rw[dG,eK,bM]
  rw[<- e2,<- foldl_rep its k (acc++its),<- e,dG,dS]
section
variable {X:Cx}{pins:bp}{σ:St}{H:Hp}{s:aC}{l:ak}{xs ys:List V}
def Inv.acv{its its':bb}{n:Nat}{f:Array af->Array af}{t':Nat}(I:Inv X pins σ H s)(hH:H l=some (.lst xs))
  (e:s.heap.get? l=some { cls:=.type "list",data:=.seq its.toArray n }) (hf:f its.toArray=its'.toArray) (hv:Vals ys its') (hz:ys.length<=sizeLine) :
  Inv X pins σ (upd H l<|.lst ys) { s with heap:=s.heap.update l<|Obj.mapSeq f,toks:=t' }:=by
 have q:=PySem.IsL.update e f;rw[hf]at q;refine I.write (x:=l) (e:=l) (by rw[hH];exact trivial) (.inl rfl) (λg u d c=>(Heap.get?_update_other s.heap (Obj.mapSeq f)<|c9 d).trans c) ⟨_,q⟩ ?_;exact⟨hz,its',_,hv,q⟩
def Inv.Y_{its:bb}{t':Nat}(I:Inv X pins σ H s)(hv:Vals ys its)(hz:ys.length<=sizeLine) :
  Inv X pins σ (upd H s.heap.objs.size<|.lst ys) { s with heap:=s.heap.push { cls:=.type "list",data:=.seq its.toArray },toks:=t' }:=
 I.laid (λ_ _ q=>aR _ q) (aP _) ⟨hz,its,0,hv,bz _ rfl⟩
def Inv.fresh(I:Inv X pins σ H s):H s.heap.objs.size=none:=I.hok.fresh<|aP _
def Inv.Ri(I:Inv X pins σ H s)(hH:H l=some (.lst xs)):xs.length<=sizeLine/\∃(its:bb) (n:Nat),Vals xs its/\xs.length=its.length/\s.heap.get? l=some { cls:=.type "list",data:=.seq its.toArray n }:=by
 obtain⟨z,its,n,r,e⟩:=I.hok l _ hH;exact⟨z,its,n,r,r.length,e⟩
def Pz{n:Nat}(h:n<=sizeLine):Builtin.List.listTooLong n=false:=by
 unfold Builtin.List.listTooLong;exact bq ()
end
section
variable {X:Cx}
abbrev Wn:V->List V->Hp->VK->Prop:=λx c H Q=>∃l xs y,x=.ref l/\c=[y]/\H l=some (.lst xs)/\xs.length<sizeLine/\Q .non (upd H l<|.lst<|xs++[y])
def Di:MtM X "list.append" Wn:=by
 intro pins s σ H x k v us Q I rx g h;obtain⟨l,xs,y,rfl,rfl,d,m,q⟩:=h
 cases rx
 obtain⟨u,rfl,f⟩:=g.one;obtain⟨z,c,n,r,j,e⟩:=I.Ri d;refine jm F.slot_list_append ⟨_,e,rfl⟩ F.entry_list_append (F.args_list_append_2 _ _) (PySem.list_append l c.toArray n u<|by rw[br];lia) ⟨e,?_⟩;refine⟨.non,_,I.acv (its':=c++[u]) d e (by simp) (r.append<|.cons f .nil) ?_,rfl,q⟩;rw[aV,dN]
 lia
abbrev YQ:V->List V->Hp->VK->Prop:=λx c H Q=>∃l xs i k y,x=.ref l/\c=[.int i]/\H l=some (.lst xs)/\-(2 ^ 63)<=i/\i<2 ^ 63/\seqIndex? i xs.length=some k/\xs[k]?=some y/\Q y (upd H l<|.lst<|xs.eraseIdx k)
def Rp:MtM X "list.pop" YQ:=by
 intro pins s σ H x C v us Q I rx B h;obtain⟨l,xs,i,k,y,rfl,rfl,f,h1,h2,g,m,q⟩:=h
 cases rx
 obtain⟨u,rfl,p⟩:=B.one;obtain⟨t,rfl⟩:=p;obtain⟨z,c,n,r,j,e⟩:=I.Ri f;obtain⟨w,hw,d⟩:=r.get m;refine jm F.slot_list_pop ⟨_,e,rfl⟩ F.entry_list_pop (F.args_list_pop_2 _ _)
  (MeetsSeq.list_pop_at l c.toArray n i t k w (fitsIndex_both h1 h2) (by rw[br,<- j];exact g) (by rw[<- d7];exact hw)<|by rw[br];lia) ⟨e,?_⟩
 refine⟨y,_,I.acv (its':=c.eraseIdx k) f e ?_ (r.eraseIdx k) ?_,d,q⟩
 ·skip
  rw[iK]
 ·have:=DZ xs k
  lia
abbrev aei:R2:=λx y H Q=>∃l b xs zs,x=.ref l/\y=.ref b/\H l=some (.lst xs)/\H b=some (.lst zs)/\xs.length+zs.length<=sizeLine/\∀p,H p=none->Q (.ref p) (upd H p<|.lst<|xs++zs)
def aaT:pH X (binaryOp .Add) aei:=by
 gp_on;obtain⟨l,b,xs,zs,rfl,rfl,j,f,p,q⟩:=h
 cases rx
 cases ry
 obtain⟨z,d,n,r,m,e⟩:=I.Ri j;obtain⟨B,c,C,r2,k,e2⟩:=I.Ri f;refine PySem.P.add_list e e2 ?_ (by rw[br,br];lia);have g:d.toArray++c.toArray=(d++c).toArray:=by simp
 rw[g];exact⟨.ref _,_,I.Y_ (t':=s.toks) (r.append r2)<|by rw[aV];lia,rfl,q _ I.fresh⟩
abbrev aeu:R2:=λx y H Q=>∃l k xs,x=.ref l/\y=.int k/\H l=some (.lst xs)/\-(2 ^ 63)<=k/\k<2 ^ 63/\xs.length * k.toNat<=sizeLine /\
 ∀p,H p=none->Q (.ref p) (upd H p<|.lst (List.replicate k.toNat xs).flatten)
def len_rep{α:Type}(xs:List α)(k:Nat):(List.replicate k xs).flatten.length=k * xs.length:=by
 induction k with
 | zero=>simp
 | succ k c=>rw[dG,eK,aV,c,fC,add_comm]
def aaj:pH X (binaryOp .Mult) aeu:=by
 gp_on;obtain⟨l,k,xs,rfl,rfl,K,h1,h2,G,q⟩:=h
 cases rx
 obtain⟨t,rfl⟩:=ry;obtain⟨z,c,n,r,J,e⟩:=I.Ri K;have g:c.toArray.size * k.toNat<=sizeLine:=by rw[br,<- J];exact G
 have j:¬c.toArray.size * k.toNat>(2 ^ 63-1) / 8:=by
  have:(sizeLine:Nat)<=(2 ^ 63-1) / 8:=by decide
  omega
 have f:¬(!Builtin.List.listFitsIndex k)=true:=by
  rw[fitsIndex_both h1 h2];exact bR
 have d:¬Builtin.List.listTooLong (c.toArray.size * k.toNat)=true:=by
  rw[Pz g];exact bR
 have p:List.foldl (λC B=>C++B) #[] (List.replicate (if c.toArray.isEmpty=true then 0 else k.toNat) c.toArray)=(List.replicate k.toNat c).flatten.toArray:=by
  have f0:∀m:Nat,List.foldl (λC B=>C++B) #[] (List.replicate m c.toArray)=(List.replicate m c).flatten.toArray:=λm=>by
   have:=foldl_rep c m [];rw[jK]at this;exact this
  rw[f0]
  cases c with
  | nil=>simp
  | cons a L=>rw[aJ<|by simp]
 refine wpAny_binaryOp_repeat_ref (T := "list") (U := "int") ⋯ ⟨_,e,rfl⟩ (λs'=>typeIs_int s' k t) noFill_list_mul F.fills_int_mul F.slot_int_rmul repeat_list F.slot_int_index.lookup
  (jm F.slot_int_rmul (typeIs_int s k t) F.entry_int_rmul (F.args_int_rmul_2 _ _) (int___rmul___int_list k t l c.toArray n)
   ⟨e,rfl,⟨_,e,rfl⟩,jm F.slot_list_mul ⟨_,e,rfl⟩ F.entry_list_mul (F.args_list_mul_2 _ _) (AutoListH.list___mul___list_int_3 l c.toArray n k t f j d) ⟨e,?_⟩⟩)
 rw[p];exact⟨.ref _,_,I.Y_ (t':=s.toks) (r.rep k.toNat)<|by rw[len_rep,Nat.mul_comm];exact G,rfl,q _ I.fresh⟩
end
end L2
namespace Att
open PySem PySem.W PySem.Calls PyProof.Rows
def Aj{P:Params}:∀(ns:ag) (vs:bb),WellAll P h vs (ns.map WData.int)->IntsAre vs ns:=by
 intro ns
 induction ns with
 | nil=>
  intro vs w;rw[ig]at w
  cases w
  exact .nil
 | cons n ns c=>
  intro vs w;rw[bL]at w
  cases w with
  | cons a b=>
   cases a
   exact .cons _ _<|c _ b
def Oj{l:OpenLaw}{n:Nat}(hn:l.most=some n){P:Params}{h:aq}
  (hpre:l.row.toRowW.claim.pre args=true) (hwl:WellAll P h vals args) :
  ∃a vs ns,vals=[Value.ref a]/\args=[WData.list<|ns.map WData.int]/\h.get? a=some { cls:=.type "list",data:=.seq vs.toArray }/\IntsAre vs ns/\ns.length<=n:=by
 have j:WShape.hasAll [] args [.list .int]=true:=(pre_splitW hpre).1;have hc:l.pre.holds [] { args:=args }=true:=(pre_splitW hpre).2;obtain⟨d,r,rfl,h1,h2⟩:=hasAllW_cons j;obtain rfl:=hasAllW_nil h2;obtain⟨xs,rfl,h3⟩:=hasW_list h1;obtain⟨ns,rfl⟩:=items_int h3;have e:ns.length<=n:=by
  unfold OpenLaw.pre at hc;have g:(WTm.not<|.lt (.lit<|.int (n:Int))<|.len<|.arg 0).holds [] { args:=[.list<|ns.map .int]}=true:=by
   have g:=(holds_andW hc).1;rw[hn]at g;exact g
  have f:=condW_of g<|w_not<|w_lt w_lit<|w_len_list<|w_arg rfl;rw[aI]at f;refine iQ λq=>?_;have p:(n:Int)<((ns.length:Nat):Int):=by omega
  first
   | (rw[aW p]at f;exact absurd f ⋯)
   | (simp at f;omega)
 cases hwl with
 | cons m B=>
  cases B
  cases m with
  | list k c=>exact⟨_,_,ns,rfl,rfl,k,Aj ns _ c,e⟩
def Oi(l:OpenLaw)(args:List WData):l.row.toRowW.claim.post args (.bool true) args=true:=
 postW_of (r:=l.row.toRowW) (X:=(true == true))
  (show WShape.has [] (.bool true) .bool=true by first|rfl|decide|simp[WShape.has,WShape.arms,WShape.armsAll])
  (show(WTm.eq .res<|.lit<|.bool true).value [] { args:=args,res:=some<|.bool true,after:=args }=some (.bool<|true == true)from w_eq_bool (w_res rfl) w_lit) rfl
def Gn{l:OpenLaw}{n:Nat}{q:aj}{XP:(Str->bi)->aq->Prop}{YP:ah->aq->Prop}{d:DefRec}
  (hn:l.most=some n) (hdf:d.params.defaults=[])
  (call:∀(w:ah) (s₀ s₁:aC) (mg mb:Str->bi) (fa:ak) (o:Obj) (pm cd doc:af) (a:ak) (vs:bb) (ns:ag),
   Ground q loose [] XP w s₀ mg mb s₁.heap->YP w s₁.heap ->
   s₁.heap.get? fa=some o->o.data=.func (docDef d.name d.params d.body d.scope pm cd doc)->s₁.heap.CodeRec cd d.name->mg d.name=some (.ref fa) ->
   s₁.heap.get? a=some { cls:=.type "list",data:=.seq vs.toArray }->IntsAre vs ns->ns.length<=n->s₁.gens=#[] ->
   codeAny (model l.prog w) callerA (.call (.ref fa) ⟨[.ref a],[]⟩) (λr s'=>r=.ok (.ret<|.bool true)/\OldK s₁.heap s'.heap/\s'.os=s₁.os/\AllBare s'.gens) s₁) :
  WalkO q loose XP YP l.row.toRowW d [] (λf vs=>PySem.call f vs):=by
 intro w s₀ s₁ mg mb G Y fa o pm cd doc T kV K N k B p hg J F as e C O m U;obtain rfl:T=.none:=Dflts.none B hdf;obtain rfl:kV=.none:=Dflts.noKw B;obtain⟨a,vs,ns,rfl,rfl,g,c,j⟩:=Oj hn e m;refine enter_call<|ji (call w s₀ s₁ mg mb fa o pm cd doc a vs ns G Y K (fd_plain N) k p g c j hg) λr s' M=>?_;obtain⟨rfl,h2,h3,P⟩:=M;exact⟨.inl ⟨.bool true,.bool true,[],rfl,λ_=>rfl,.bool true,Oi l _,λ_=>⟨List.Pairwise.nil,λ_ L=>(nomatch L)⟩⟩,h2,h3,P⟩
end Att
namespace L2
open PySem PySem.Spec PyProof.Rows
theorem DJ:∀{vs:bb}{ns:ag},IntsAre vs ns->Vals (ns.map V.int) vs
 | _,_,.nil=>.nil
 | _,_,.cons n t h=>.cons ⟨t,rfl⟩<|DJ h
abbrev WT (H:Hp):Prop:=∀b,H b=none\/∃o xs,H b=some (.frz o<|.lst xs)
def Q7{P:aj}{w:ah}{K:au}{mg mb:Str->bi}{CX:UI}{k:Nat}{fa a:ak}{x:Str}{sp:Sp}{s₁:aC}{vs:bb}{ns:ag}
  (KX:K.In s₁.heap) (hns:s₁.heap.Ns mainGlobals mg) (hb:s₁.heap.Ns builtinsNs mb) (hbb:∀x:Str,x ≠ "__name__" -> mb x=bootBuiltins x) (hlim:s₁.heap.NoLimit) (hg:s₁.gens=#[])
  (ha:s₁.heap.get? a=some { cls:=.type "list",data:=.seq vs.toArray }) (hi:IntsAre vs ns) (hl:ns.length<=sizeLine) (hr:Room k callerA)
  (F:∀base:aq,K.In base->base.Ns mainGlobals mg->FnOk P w K mg base CX k fa fd [x] sp) (hbind:∀(s:aC) (u:af),BindsTo s fd ⟨[u],[]⟩ [(x,u)])
  (hsp:∀H:Hp,WT H->qj K H a (ns.map V.int)->sp [.ref a] H (λv _=>v=.bl true) λ_ _ _=>False)
  (hCX:∀H e s',CX [] H s₁ (λ_ _ _=>False) e s'->False) :
  codeAny (model P w) callerA (.call (.ref fa) ⟨[.ref a],[]⟩) (λr s'=>r=.ok (.ret<|.bool true)/\OldK s₁.heap s'.heap/\s'.os=s₁.os/\AllBare s'.gens) s₁:=by
 have T:=DJ hi;have j:=hi.length;have g:∀H:Hp,WT H->qj K H a (ns.map V.int)->xQ P w H s₁.heap->(∀b,H b≠none->b=a)->(H a≠none->K.lookup a=none) ->
   codeAny (model P w) callerA (.call (.ref fa) ⟨[.ref a],[]⟩) (λr s'=>r=.ok (.ret<|.bool true)/\OldK s₁.heap s'.heap/\s'.os=s₁.os/\AllBare s'.gens) s₁:=by
  intro H O hS hok N hK;have c:∀{b:ak} {o:Obj},s₁.heap.get? b=some o->H b=none->(Ej s₁.heap H).get? b=some o:=λe n=>OP e n;have M:∀{b:ak} {o:Obj} {es:Array DictEntry} {ep:Nat},s₁.heap.get? b=some o->o.data=.dict es ep->H b=none:=λ{b o es ep} e d=>by
   cases q:H b with
   | none=>rfl
   | some u=>
    have J:b=a:=N b (by rw[q];simp);subst J;rw[ha]at e;cases e;have d':Data.seq vs.toArray _=Data.dict es ep:=d
    cases d'
  have f:∀{b:ak} {m:Str->bi},s₁.heap.Ns b m->(Ej s₁.heap H).Ns b m:=λ{b m} ⟨o,es,ep,e,d,r⟩=>⟨o,es,ep,c e<|M e d,d,r⟩;have C:K.In (Ej s₁.heap H):=λb o e=>c (KX b o e) (by
   cases q:H b with
   | none=>rfl
   | some u=>
    have J:b=a:=N b (by rw[q];simp);subst J;rw[hK<|by rw[q];simp]at e;cases e)
  have hM:Mod K mg (Ej s₁.heap H):=⟨C,f hns,⟨mb,f hb,hbb⟩,let⟨mc,h1,h2⟩:=hlim;⟨mc,f h1,h2⟩⟩;have e0:Env0 P w K mg (Ej s₁.heap H) callerA [] s₁ H:=⟨rfl,hM,λb o e=>Vd e,Nat.le_of_eq<|NU _ _,trivial,λb hb=>absurd (show b∈([]:bd)from hb)<|by simp,hok,.of_eq hg⟩;refine ji ((F _ C<|f hns).run callerA [] s₁ H ⟨[.ref a],[]⟩ [.ref a] [.ref a] _ _ hr e0 (hbind s₁<|.ref a) (.cons rfl .nil)<|hsp H O hS) λr s' h=>?_
  cases r with
  | error e=>exact(hCX H e s' h).elim
  | ok fl=>
   cases fl with
   | next=>exact False.elim h
   | brk=>exact False.elim h
   | cont=>exact False.elim h
   | ret u=>
    obtain⟨v,H',os,p,un,B,Y,q⟩:=h;have U:v=.bl true:=q;subst U;obtain rfl:u=Value.bool true:=Y;refine⟨rfl,OldK.of_keep λb o e=>?_,os,p⟩
    cases q:H b with
    | none=>exact un.keep b o e q (by intro z;exact absurd (show b∈([]:bd)from z)<|by simp) (by simp)
    | some u=>
     rcases O b with z|⟨W,xs,z⟩
     ·rw[q]at z;cases z
     ·have Z:=un.frzs b W _ z;obtain⟨e1,_⟩:=hok b _ z;obtain⟨e2,_⟩:=B b _ Z;rw[e]at e1;cases e1;exact e2
 cases L:K.lookup a with
 | some o=>
  have e:=KX a o L;rw[ha]at e
  cases e
  refine g (λ_=>none) (λ_=>.inl rfl) (.inr ⟨_,vs.toArray,_,L,rfl,rfl,rfl,by rw[br,j];exact hl,by simpa using T⟩) (λb u z=>by have G:(none:Option HO)=some u:=z;cases G) (λb z=>absurd rfl z) λz=>absurd rfl z
 | none=>
  refine g (λb=>if b=a then some (.frz { cls:=.type "list",data:=.seq vs.toArray } (.lst<|ns.map V.int))else none) (λb=>?_) (.inl<|.inr ⟨{ cls:=.type "list",data:=.seq vs.toArray },aM rfl⟩) (λb u z=>?_) (λb z=>?_) λ_=>L
  ·by_cases hb:b=a
   ·exact .inr ⟨_,_,aM hb⟩
   ·exact .inl<|aJ hb
  ·by_cases hb:b=a
   ·have G:=(aM hb).symm.trans z
    cases G
    subst hb;exact⟨ha,by rw[aI];exact hl,vs,_,T,ha⟩
   ·have G:=(aJ hb).symm.trans z
    cases G
  ·by_cases hb:b=a
   ·exact hb
   ·exact absurd (aJ hb) z
def Vj{l:PySem.W.OpenLaw}{n k:Nat}{q:aj}{XP:(Str->bi)->aq->Prop}{YP:ah->aq->Prop}{d:DefRec}{K:Params->au}{CX:ah->UI}{sp:ah->Sp}{x:Str}
  (hn:l.most=some n) (hn2:n<=sizeLine) (hdf:d.params.defaults=[]) (hr:Room k callerA)
  (hY:∀(w:ah) (h:aq),YP w h->(K w.params).In h)
  (F:∀(w:ah) (mg:Str->bi) (fa:ak) (h:aq),(K w.params).In h->h.Ns mainGlobals mg->mg d.name=some (.ref fa) ->
   ∃fd:FuncData,(∀(s:aC) (u:af),BindsTo s fd ⟨[u],[]⟩ [(x,u)]) /\
    ∀base:aq,(K w.params).In base->base.Ns mainGlobals mg->FnOk l.prog w (K w.params) mg base (CX w) k fa fd [x] (sp w))
  (hsp:∀(w:ah) (H:Hp) (a:ak) (ns:ag),ns.length<=n->WT H->qj (K w.params) H a (ns.map V.int)->sp w [.ref a] H (λv _=>v=.bl true) λ_ _ _=>False)
  (hCX:∀(w:ah) (H:Hp) (s:aC) (e:af) (s':aC),CX w [] H s (λ_ _ _=>False) e s'->False) :
  PySem.W.WalkO q loose XP YP l.row.toRowW d [] (λf vs=>PySem.call f vs):=by
 refine Att.Gn hn hdf λw C p mg mb fa o Z cd P a vs ns G Y U hd L B m j c hg=>?_;have J:=hY w _ Y;obtain⟨fd,M,O⟩:=F w mg fa _ J G.T.g B;exact Q7 J G.T.g G.T.b G.T.builtins G.T.nolimit hg m j (bH c hn2) hr O M (λH N hS=>hsp w H a ns c N hS) λH e s'=>hCX w H p e s'
abbrev wz (s:aF):Arguments:=match s with
 | .FunctionDef _ a _ _ _ _ _ _ _ _=>a
 | _=>{ posonlyargs:=[],args:=[],vararg:=none,kwonlyargs:=[],kw_defaults:=[],kwarg:=none,defaults:=[]}
abbrev sD (s:aF):List aF:=match s with
 | .FunctionDef _ _ b _ _ _ _ _ _ _=>b
 | _=>[]
abbrev j9 (s:aF):Scope:=match s with
 | .FunctionDef _ _ _ _ _ _ c _ _ _=>c
 | _=>{ kind:=.function,names:=[],isGenerator:=false,isCoroutine:=false }
meta abbrev qi:UI:=λ_ _ _ _ _ _=>False
meta abbrev E0:XK:=λ_ _ _=>False
def acj{X:Cx}:Passes qi X E0:=λ_ _ _ _ _ _ _ h=>h.elim
structure Fun (K:au)(x qual:Str)(st:aF)(f:ak)(fd:FuncData):Prop where
 ex:∃(oc:af) (od:Option ak) (kV doc pm:af) (an:Option ak) (cdv ct:af) (osl:Array<|bi),
  fd=PySem.W.fnOf x qual (wz st) (sD st) (j9 st) .none kV doc pm an cdv ct/\K.lookup f=some ⟨oc,od,.func fd,osl⟩/\PySem.W.codeIn K cdv qual=true
 kp:PySem.W.keepIn K (.ref f)=true
section
variable {P:aj}{w:ah}{K:au}{mg:Str->bi}{base:aq}
def Fun.ok{x:Str}{st:aF}{f:ak}{N ps:ba}{k:Nat}{sp:Sp}(F:Fun K x qual st f fd)(S:FnScope N ps<|j9 st)(len:∀vs H Q E,sp vs H Q E->vs.length=ps.length)
  (hbody:∀(cdv:af) (A:aA) (outer:List Env) (s:aC) (H:Hp) (vs:List V) (Q:VK) (E:XK),Room k (A.deeper<|envOfC qual (j9 st) s.heap.objs.size f cdv)->sp vs H Q E ->
   ∃t,EN (I_ qi P w K mg base N qual (j9 st) f cdv A outer s H E).nox (sD st) t/\t { nx:=λ_ H'=>Q .non H',rt:=Q } (start N vs) H):FnOk P w K mg base qi (k+1) f fd ps sp:=by
 obtain⟨C,p,kV,m,B,G,cdv,ct,g,rfl,j,c⟩:=F.ex;refine acE j c S len λA outer s H vs Q E e d=>?_;obtain⟨t,h,q⟩:=hbody cdv A outer s H vs Q E e d;exact⟨t,h.nox,q⟩
def Fun.binds{x:Str}{st:aF}{f:ak}{ps:ba}(F:Fun K x qual st f fd)
  (h:∀(kV doc pm:af) (an:Option ak) (cdv ct:af) (us:bb),us.length=ps.length->bindArgs (PySem.W.fnOf x qual (wz st) (sD st) (j9 st) .none kV doc pm an cdv ct) ⟨us,[]⟩=pure (ps.zip us)):Binds K fd ps []:=by
 obtain⟨e,j,kV,doc,pm,an,cdv,ct,d,rfl,g,c⟩:=F.ex;exact .all<|h kV doc pm an cdv ct
def Zm{x:Str}{st:aF}{f:ak}{kV pm ct:af}(l:K.lookup f=some ⟨oc,od,.func<|PySem.W.fnOf x qual (wz st) (sD st) (j9 st) .none kV doc pm an cdv ct,osl⟩)
  (c:PySem.W.codeIn K cdv qual=true) (k:PySem.W.keepIn K (.ref f)=true):Fun K x qual st f (PySem.W.fnOf x qual (wz st) (sD st) (j9 st) .none kV doc pm an cdv ct):=⟨⟨oc,od,kV,doc,pm,an,cdv,ct,osl,rfl,l,c⟩,k⟩
end
section
variable {X:Cx}
def pv(i:Nat){x:Str}(hN:X.N[i]?=some x<|>ι)(hv:Vis X.env.scope x:=by first|exact Or.inl rfl|exact Or.inr (Or.inl rfl)|exact Or.inr<|Or.inr rfl)(hd:(x == ("__debug__" : Str))=false:=by decide)
  (hcd:(x == ("__classdict__" : Str))=false:=by decide):PE X (.Name x pos) (abA i):=OE hN hv hd hcd
end
set_option maxHeartbeats 4000000
abbrev Z5 (σ:St):bo->Option V
 | some j=>(σ[j]?).getD none
 | none=>none
abbrev BH (env:Env):List (Str×NameKind)->List (Str×ak)->List (Str×ak)
 | [],cs=>cs
 | (n,k)::r,cs=>BH env r (if k == .free then(n,(env.cells.lookup n).getD 0)::cs else cs)
def Jd{scope:Scope}{env:Env}(h:∀y∈scope.names,y.2=.free->∃c,env.cells.lookup y.1=some c):closureFor scope env=pure (BH env scope.names []):=by
 have f:∀(l:List<|Str×NameKind) (d:List<|Str×ak),(∀y∈l,y.2=.free->∃c,env.cells.lookup y.1=some c) ->
   (forIn l d (λ(x:Str×NameKind) (r:List<|Str×ak)=>(match x with
    | (name,kind)=>if (kind == NameKind.free)=true then(do let c <- cellOf env name;pure (ForInStep.yield ((name,c)::r)))else pure (ForInStep.yield r):Sem<|ForInStep<|List<|Str×ak)))=(pure (BH env l d):Sem<|List<|Str×ak):=by
  intro l
  induction l with
  | nil=>intro d _;rfl
  | cons y r j=>
   intro d e;obtain⟨n,k⟩:=y;rw[List.forIn_cons];by_cases m:k=.free
   ·subst m;obtain⟨c,hc⟩:=e (n,.free) aK rfl;have e1:cellOf env n=pure c:=by
     unfold cellOf;rw[hc]
    dsimp[bS,cK,e1,pure_bind];rw[j _ λz g=>e z<|aO _ g];dsimp[BH,bS,cK,hc,eV]
   ·have p:(k == NameKind.free)=false:=by simpa using m
    dsimp[p,a_,bU,pure_bind];rw[j _ λz g=>e z<|aO _ g];dsimp[BH,p,a_,bU]
 have:=f scope.names [] h;exact(dQ (λz=>z >>= λd=>(pure d:Sem<|List<|Str×ak)) this).trans (pure_bind _ _)
theorem A8:∀{l:List<|Str×NameKind}{x:Str}{k:NameKind},l.lookup x=some k->(x,k)∈l
 | [],_,_,h=>nomatch h
 | (n,k')::r,x,k,h=>by
  rw[gC]at h
  cases c:x == n with
  | true=>
   rw[c]at h;have e:x=n:=by simpa using c
   subst e
   cases h
   exact aK
  | false=>rw[c]at h;exact aO _<|A8 h
theorem Dd{env:Env}{x:Str}{c:ak}:∀{l:List<|Str×NameKind}{cs:List<|Str×ak},(∀y∈l,y.2=.free->∃c,env.cells.lookup y.1=some c)->(BH env l cs).lookup x=some c->env.cells.lookup x=some c\/cs.lookup x=some c
 | [],cs,_,h=>.inr h
 | (n,k)::r,cs,hl,h=>by
  have h':=Dd (l:=r) (λz g=>hl z<|aO _ g) h
  rcases h' with h'|h'
  ·exact .inl h'
  ·by_cases f:k=.free
   ·subst f;dsimp[bS,cK]at h';obtain⟨m,hc⟩:=hl (n,.free) aK rfl;rw[hc,eV,gC]at h'
    cases d:x == n with
    | true=>
     rw[d]at h';have e:x=n:=by simpa using d
     subst e;left;rw[hc];exact h'
    | false=>rw[d]at h';exact .inr h'
   ·have j:(k == NameKind.free)=false:=by simpa using f
    dsimp[j,a_,bU]at h';exact .inr h'
theorem DG{env:Env}{x:Str}:∀{l:List<|Str×NameKind}{cs:List<|Str×ak},(cs.lookup x).isSome=true->((BH env l cs).lookup x).isSome=true
 | [],cs,h=>h
 | (n,k)::r,cs,h=>by
  skip
  refine DG (l:=r) ?_;by_cases c:(k == NameKind.free)=true
  ·rw[aM c,gC]
   cases d:x == n with
   | true=>rfl
   | false=>exact h
  ·rw[aJ c];exact h
theorem BO{env:Env}{x:Str}:∀{l:List<|Str×NameKind}{cs:List<|Str×ak},(x,NameKind.free)∈l->((BH env l cs).lookup x).isSome=true
 | [],_,h=>nomatch h
 | (n,k)::r,cs,h=>by
  rcases bB.mp h with e|h
  ·cases e
   skip
   refine DG (l:=r) ?_;rw[aM<|by rfl,gC];simp
  ·exact BO (l:=r) h
abbrev sj (X:Cx)(scope:Scope)(N:ba)(C:ak)(s₀:aC)(H₀:Hp)(ex:bd):Cx where
 prog:=X.prog
 w:=X.w
 K:=X.K
 mg:=X.mg
 base:=X.base
 A:=X.A
 N:=N
 s₀:=s₀
 H₀:=H₀
 env:=compEnvC scope (BH X.env scope.names []) C X.env
 outer:=X.stack
 stack:=X.stack
 ex:=ex
 fn:=λ_=>false
 calm:=X.calm
 pn:=[]
 xe:=λ_ _=>False
structure CpScope (X:Cx)(scope:Scope)(N:ba)(cap:List (bo)):Prop where
 kind:scope.kind=.function
 nocell:∀y∈scope.names,y.2≠.cell
 nm:∀y∈scope.names,y.2=.local->scope.names.lookup y.1=some .local
 fr:∀y∈scope.names,y.2=.free->X.env.kindOf y.1=some .cell\/X.env.kindOf y.1=some .free
 rl:∀y,((relabel scope X.env).names.lookup y=some .cell\/(relabel scope X.env).names.lookup y=some .free)->(y,NameKind.free)∈scope.names
 len:cap.length=N.length
 nolf:∀x,(x,NameKind.free)∈scope.names->scope.names.lookup x≠some .local
 cp:∀(i j:Nat) (x:Str),N[i]?=some x->cap[i]?=some (some j)->X.N[j]?=some x/\(x,NameKind.free)∈scope.names
def aas{X:Cx}{N:ba}{cap:List<|bo}{H:Hp}{s:aC}{fp:bd}{h₁:aq}{m:Str->bi}{tk:Nat}(S:CpScope X scope N cap)(I:Inv X pins σ H s)
  (hf:∀b∈fp,zh X pins H b) (ho:∀b∈fp,∃o,s.heap.get? b=some o) (hn:h₁.Ns s.heap.objs.size m) (hk:∀b o,s.heap.get? b=some o->h₁.get? b=some o) :
  Inv (sj X scope N s.heap.objs.size s H fp) [] (cap.map<|Z5 σ) H { s with heap:=h₁,toks:=tk }:=by
 have g:∀y∈scope.names,y.2=.free->∃c,X.env.cells.lookup y.1=some c:=λy hy e=>I.ok.has _<|S.fr y hy e;have C:∀x c,(BH X.env scope.names []).lookup x=some c->X.env.cells.lookup x=some c:=λx c e=>by
  rcases Dd g e with z|z
  ·exact z
  ·cases z
 have lt:∀b o,s.heap.get? b=some o->b≠s.heap.objs.size:=λb o e=>bD<|bA e;refine⟨⟨I.ok.mod,?_,I.ok.glob,I.ok.blt,aP _,?_,?_,?_,I.ok.hd,I.ok.frames,.inl rfl,?_,I.bs,bH I.ok.bsz I.sz,?_,?_,I.stack,I.LR⟩,rfl,I.bare,Un.kept hk,?_,?_,I.hok.fresh<|aP _,?_,?_,I.hok.kept hk,?_⟩
 ·exact S.kind
 ·intro x y c e1 e2;exact I.ok.inj x y c (C x c e1) (C y c e2)
 ·intro x e;have G:=S.rl x e;have:=BO (env:=X.env) (cs:=[]) G;exact fJ.mp this
 ·intro x c e _;exact absurd e (by simp[sj])
 ·intro b F;obtain⟨o,e⟩:=ho b F;refine⟨lt b o e,λx c e2=>(hf b F).2.2.2.2.1 x c<|C x c e2⟩
 ·intro b o e F;obtain⟨_,_,_,h3,_⟩:=hf b F
  rcases h3 with z|z
  ·exact I.ok.noex b o e z
  ·exact absurd (b6 (bA (I.ok.bs b o e).1) z)<|gb _
 ·intro b F hz;obtain⟨_,h1,h2,_⟩:=hf b F
  rcases bB.mp (I.Ie b hz)with z|z
  ·exact h1 z
  ·exact h2 z
 ·refine⟨m,hn,λi x v e1 e2 e3=>?_⟩;rw[aX]at e2
  cases hc:cap[i]? with
  | none=>rw[hc]at e2;cases e2
  | some V=>
   rw[hc]at e2
   cases V with
   | none=>cases e2
   | some j=>
    have d:(σ[j]?).getD none=some v:=aZ e2;obtain⟨Z,G⟩:=S.cp i j x e1 hc;obtain⟨m0,hn0,O⟩:=I.loc;have P:σ[j]?=some (some v):=by
     cases h:σ[j]? with
     | none=>rw[h]at d;cases d
     | some z=>rw[h,eV]at d;rw[d]
    have J:=S.fr (x,.free) G rfl;have hv:Vis X.env.scope x:=.inr J;obtain⟨u,ru,lo⟩:=O j x v Z P hv;refine⟨u,ru,?_⟩
    rcases lo with⟨lo,_⟩|⟨_,c,ec,W⟩
    ·rcases J with z|z<;>(rw[z]at lo;cases lo)
    ·have h2:=BO (env:=X.env) (cs:=[]) G;obtain⟨M,q⟩:=fJ.mp h2;have:M=c:=aZ<|(C x M q).symm.trans ec;subst this;refine .inr ⟨?_,M,q,?_⟩
     ·rcases e3 with z|z|z
      ·exfalso;have:(relabel scope X.env).names.lookup x=some .local:=z;have K:scope.names.lookup x=some .local:=by
        have L:∃k,(x,k)∈(relabel scope X.env).names/\k=.local:=by
         clear q h2;have:=A8 this;exact⟨_,this,rfl⟩
        obtain⟨k,T,rfl⟩:=L;obtain⟨⟨n',k'⟩,U,f⟩:=bI.mp T;dsimp only at f;split at f
        ·cases f
        ·cases f
         exact S.nm (x,.local) U rfl
       exact False.elim<|S.nolf x G K
      ·exact .inl z
      ·exact .inr z
     ·obtain⟨o,B,hd⟩:=W;exact⟨o,hk _ _ B,hd⟩
 ·intro x c e;obtain⟨v,o,B,hd⟩:=I.cell x c<|C x c e;exact⟨v,o,hk _ _ B,hd⟩
 ·intro x c e;exact I.freeC x c (C x c e)
 ·intro p Y
  cases Y
 ·rw[aI,S.len];rfl
abbrev PTs (X:Cx)(ifs:List aE)(t:TT):Prop:=
 ∀(pins:bp) (s:aC) (σ:St) (H:Hp) (Q:Bool->Hp->Prop),Inv X pins σ H s->t σ H Q ->
  wpAny (model X.prog X.w) X.A (forIn ifs true λc r=>if r=true then do let ok <- isTrue c X.env (eval c X.env);pure (ForInStep.yield ok)else pure (ForInStep.yield r)) (TP X pins σ Q) X.xe s
abbrev adY:TT:=λ_ H Q=>Q true H
def VM{X:Cx}:PTs X [] adY:=λ_ _ _ H _ I h=>wpAny_tests_nil ⟨H,I,h⟩
def UX{X:Cx}{c:aE}{t:TT}(h:PT X c t):PTs X [c] t:=λpins s σ H Q I q=>wpAny_tests_one<|h pins s σ H Q I q
abbrev ZL (cap:List<|bo)(g:TG)(tc:TT)(te:TE)(σ:St)(Q:VK)(J:It)(H1:Hp):Prop:=∀D,H1 D=none ->
 ∃W:Nat->Nat->St->Hp->Prop,(∃m,W 0 m (cap.map<|Z5 σ)<|upd H1 D<|.lst [])/\∀i m e H',W i m e H' ->
  (J.stop i H'/\Q (.ref D) H')\/(J.go i H'/\∀x H2,J.yld i H' x H2->g x e H2 λc H3=>tc c H3 λb f=>
   if b=true then te c f λy j=>∃ys,j D=some (.lst ys)/\ys.length<sizeLine/\∃d,d<m/\W (i+1) d c (upd j D<|.lst<|ys++[y])
   else ∃d,d<m/\W (i+1) d c f)
abbrev tLC (cap:List<|bo)(wi:TI)(g:TG)(tc:TT)(te:TE):TE:=λσ H Q=>wi σ H<|ZL cap g tc te σ Q
def VH{α:Type}{t:Sem α}{Q Q':α->aC->Prop}{A:aA}{E:af->aC->Prop}(h:wpAny M A t Q (λ_ _=>False) s)(hQ:∀a s,Q a s->Q' a s):wpAny M A t Q' E s:=
 jj h hQ λ_ _ f=>f.elim
structure TurnG (ok:Cx->Prop)(P:aj)(w:ah)(K:au)(tg:aE)(J:It)(fp:bd)(it:ak)(tn:Nat->aq->Prop):Prop where
 obj:∀i h,tn i h->∀b∈fp,∃o,h.get? b=some o/\∀v,o.data≠.cell v
 keep:∀i h h',tn i h->(∀b∈fp,∀o,h.get? b=some o->h'.get? b=some o)->tn i h'
 item:∀(X:Cx),X.prog=P->X.w=w->X.K=K->ok X->∀(i:Nat) (pins:bp) (s:aC) (σ:St) (H:Hp) (E:af->aC->Prop),Inv X pins σ H s->(∀b∈fp,zh X pins H b)->tn i s.heap->J.go i H ->
  wpAny (model P w) X.A (pyNext<|.ref it) (λr s1=>∃u,r=some u /\
   wpAny (model P w) X.A (letOwnedTupleGo tg (.ref it) u) (λ_ s2=>∃x H',Inv X pins σ H' s2/\RelV x u/\J.yld i H x H'/\tn (i+1) s2.heap/\∀b∈fp,H' b=none) E s1) E s
 done:∀(X:Cx),X.prog=P->X.w=w->X.K=K->ok X->∀(i:Nat) (pins:bp) (s:aC) (σ:St) (H:Hp) (E:af->aC->Prop),Inv X pins σ H s->(∀b∈fp,zh X pins H b)->tn i s.heap->J.stop i H ->
  wpAny (model P w) X.A (pyNext<|.ref it) (λr s1=>r=none/\Inv X pins σ H s1) E s
 self:∀(A:aA) (i:Nat) (s:aC) (Q:af->aC->Prop) (E:af->aC->Prop),tn i s.heap->Q (.ref it) s->wpAny (model P w) A (pyIter<|.ref it) Q E s
abbrev adX (ok:Cx->Prop)(X:Cx)(pins:bp)(σ:St)(tg:aE)(R:It->Hp->Prop)(itv:af)(s2:aC):Prop:=
 ∃(it:ak) (c:bd) (d:Nat->aq->Prop) (J:It) (H':Hp),itv=.ref it/\Inv X pins σ H' s2/\TurnG ok X.prog X.w X.K tg J c it d/\d 0 s2.heap/\(∀b∈c,zh X pins H' b)/\R J H'
abbrev PIg (ok:Cx->Prop)(X:Cx)(tg iter:aE)(wi:TI):Prop:=
 ∀(pins:bp) (s:aC) (σ:St) (H:Hp) (R:It->Hp->Prop),Inv X pins σ H s->wi σ H R ->
  wpAny (model X.prog X.w) X.A (eval iter X.env) (λv c=>wpAny (model X.prog X.w) X.A (pyIter v) (adX ok X pins σ tg R) X.xe c) X.xe s
def PI.g{X:Cx}{iter:aE}{wi:TI}(h:PI X tg iter wi):PIg (λY=>Y.calm=true) X tg iter wi:=λpins s σ H R I q=>
 ny (h pins s σ H R I q) λv m h1=>ny h1 λj p ⟨it,d,k,J,H',e,f,T,a,b,c⟩=>⟨it,d,k,J,H',e,f,⟨T.obj,T.keep,T.item,T.done,T.self⟩,a,b,c⟩
def VX{ok:Cx->Prop}{X:Cx}{use:Option<|af->Sem Unit}{Q':af->aC->Prop}{iter:aE}{N:ba}{wi:TI}{g:TG}{tc:TT}{te:TE}(S:CpScope X scope N cap)(hok:∀C s₀ H₀ ex,(∀a o u,X.H₀ a=some (.frz o u)->H₀ a=some (.frz o u))->ok (sj X scope N C s₀ H₀ ex))(hi:PIg ok X tg iter wi)
  (hg:∀C s₀ H₀ ex,PG (sj X scope N C s₀ H₀ ex) tg g) (ht:∀C s₀ H₀ ex,PTs (sj X scope N C s₀ H₀ ex) ifs tc) (he:∀C s₀ H₀ ex,PE (sj X scope N C s₀ H₀ ex) elt te)
  (hs:(∀x,foldedSetIterable iter X.env x=pure x)<|>ν):∀(pins:bp) (s:aC) (σ:St) (H:Hp) (Q:VK),Inv X pins σ H s->tLC cap wi g tc te σ H Q ->
  (∀(s6:aC) (C D:ak) (H5:Hp) (m:Str->bi),s6.heap.Ns C m->zh X pins H5 C->(∀h',Heap.SameBut C s6.heap h'->Inv X pins σ H5 { s6 with heap:=h' })->Q (.ref D) H5->∀v,compPost (model X.prog X.w) X.A X.xe use Q' (.ref D) C (.ok v) s6) ->
  wpAny (model X.prog X.w) X.A (comprehension (.ListComp elt [⟨tg,iter,ifs,0⟩] scope pos) scope X.env (firstIterPos [⟨tg,iter,ifs,0⟩] pos) (newList []) (firstAsync [⟨tg,iter,ifs,0⟩]) (firstIter [⟨tg,iter,ifs,0⟩] X.env) use) Q' X.xe s:=by
 intro pins s σ H Q I h hfin;have hfree:∀y∈scope.names,y.2=.free->∃c,X.env.cells.lookup y.1=some c:=λy hy e=>I.ok.has _<|S.fr y hy e;refine wpAny_comprehension_free (use:=use) rfl hs (Jd hfree) S.kind S.nm<|ny (hi pins s σ H _ I h) λxv s1 h1=>ny h1 λitv f h2=>?_;obtain⟨it,fp,tn,J,H2,rfl,I2,T,st2,f2,h2⟩:=h2;refine cA (wpAny_newFunctionEnv S.nocell (by intro y hy;simp at hy) (λO F B=>?_) S.kind);obtain⟨W,⟨m0,w0⟩,turn⟩:=h2 f.heap.objs.size I2.fresh;dsimp only at F B ⊢;have I3:Inv X pins σ (upd H2 f.heap.objs.size<|.lst []) { f with heap:=f.heap.push {}}:=I2.Y_ (t':=f.toks) (its:=[]) .nil<|bY _;have hfp:∀b∈fp,∃o,f.heap.get? b=some o:=λb j=>by
  obtain⟨o,e,_⟩:=T.obj 0 _ st2 b j;exact⟨o,e⟩
 have neD:∀b∈fp,b≠f.heap.objs.size:=λb j=>by
  obtain⟨o,e⟩:=hfp b j;exact bD<|bA e
 have f3:∀b∈fp,zh X pins (upd H2 f.heap.objs.size<|.lst []) b:=λb j=>⟨by rw[j8<|neD b j];exact(f2 b j).1,(f2 b j).2⟩;have hDC:f.heap.objs.size≠(f.heap.push {}).objs.size:=by rw[gv];exact bD (eW _)
 have old:∀b o,(f.heap.push {}).get? b=some o->O.get? b=some o:=λb o e=>B.extBut b o (bD<|bA e)<|aR _ e;have I4:=aas (tk:=f.toks+([]:List<|Str×af).length) (fp:=fp) S I3 f3 (λb j=>by
  obtain⟨o,e⟩:=hfp b j;exact⟨o,aR _ e⟩) F old
 have st4:tn 0 O:=T.keep _ _ _ st2 λb j o e=>old b o<|aR _ e;have hc:=hok (f.heap.push {}).objs.size { f with heap:=f.heap.push {}} (upd H2 f.heap.objs.size<|.lst []) fp λa o u e=>by
  have z:=I2.base.frzs a o u e;rw[j8 λq=>by rw[q,I2.fresh]at z;cases z];exact z
 have L:∀{H':Hp},(∀b∈fp,H' b=none)->∀b∈fp,zh (sj X scope N (f.heap.push {}).objs.size { f with heap:=f.heap.push {}} (upd H2 f.heap.objs.size<|.lst []) fp) [] H' b:=λhn b j=>by
  have ok:=I4.ok;refine⟨hn b j,(ok.exf b j).1,ok.exfs b j,.inl j,λx c e=>(ok.exf b j).2 x c e,λp hp=>nomatch hp⟩
 have V:∀s4:aC,s4={ f with heap:=O,toks:=f.toks+([]:List<|Str×af).length } ->
   codeAny (model X.prog X.w) X.A (.compLoop (.ListComp elt [⟨tg,iter,ifs,0⟩] scope pos) 0 (.ref it) (.ref f.heap.objs.size)<|compEnvC scope (BH X.env scope.names []) (f.heap.push {}).objs.size X.env)
    (compPost (model X.prog X.w) X.A X.xe use Q' (.ref f.heap.objs.size) (f.heap.push {}).objs.size) s4:=by
  rintro s4 rfl;refine codeAny_loop rfl (λn s'=>∃i P H',Inv (sj X scope N (f.heap.push {}).objs.size { f with heap:=f.heap.push {}} (upd H2 f.heap.objs.size<|.lst []) fp) [] P H' s'/\tn i s'.heap/\(∀b∈fp,H' b=none)/\W i n P H') (λn s5 hI=>?_) m0 ⟨0,_,_,I4,st4,λb j=>(f3 b j).1,w0⟩;obtain⟨i,U,H5,I5,st5,fr5,w5⟩:=hI
  skip
  refine wpAny_noted ?_;rw[compTurn_list];refine aG (wpAny_standAt<|aG ?_)
  rcases turn i n U H5 w5 with⟨stop,q⟩|⟨go,step⟩
  ·refine ny (T.done (sj X scope N (f.heap.push {}).objs.size { f with heap:=f.heap.push {}} (upd H2 f.heap.objs.size<|.lst []) fp) rfl rfl rfl hc i [] s5 U H5 _ I5 (L fr5) st5 stop) λr s6 h9=>?_;obtain⟨hr,I6⟩:=h9;subst hr;obtain⟨m6,hn6,_⟩:=I6.loc;refine aQ<|hfin s6 _ _ H5 m6 hn6 (I3.Gx (aP _) I6.free) (λh' sb=>?_) q _;have u6:=I6.base;have nC:∀b o,(f.heap.push {}).get? b=some o->b≠(f.heap.push {}).objs.size:=λb o e=>bD<|bA e;refine I3.acG (ch:=fp) I6.os ⟨λb o e n j Y=>?_,λb o e n j Y=>?_,λb o e n Y=>?_,λb o e Y=>?_,u6.tups,u6.frzs,u6.tbls⟩ ?_ I6.bare ?_
   ·exact sb.extBut b o (nC b o e) (u6.keep b o e n j Y)
   ·obtain⟨sl,z⟩:=u6.slot b o e n j Y;exact⟨sl,sb.extBut b _ (nC b o e) z⟩
   ·exact u6.free b o e n Y
   ·obtain⟨o',z⟩:=u6.there b o e Y;exact⟨o',sb.extBut b _ (nC b o e) z⟩
   ·intro b o e;have j:∀c v,H5 c=some v->c≠(f.heap.push {}).objs.size:=λc v e z=>by
     rw[z]at e;have:=I6.free;rw[show H5 (f.heap.push {}).objs.size=none from this]at e
     cases e
    refine(I6.hok b o e).stay (λc v hc q=>sb.extBut c v ?_ q) (λ_ q=>q) λ_ _ q=>q
    rcases hc with z|z
    ·rw[z];exact j b o e
    ·exact j c _ z
   ·intro b j;obtain⟨_,z1,_,z3,z4,z5⟩:=f3 b j;exact⟨z3,z1,z4,z5⟩
  ·refine ny (T.item (sj X scope N (f.heap.push {}).objs.size { f with heap:=f.heap.push {}} (upd H2 f.heap.objs.size<|.lst []) fp) rfl rfl rfl hc i [] s5 U H5 _ I5 (L fr5) st5 go) λr s6 h9=>?_;obtain⟨u,hr,h6⟩:=h9;subst hr;refine aG<|ny h6 λ_ s7 ⟨x,H7,I7,r7,y7,st7,fr7⟩=>?_;have I7':=I7.pinned (L fr7)<|T.obj _ _ st7;refine aG<|VH (hg _ _ _ fp _ s7 U H7 x u _ I7' r7<|step x H7 y7) λ_ s8 ⟨K,H8,I8,q8⟩=>?_;refine aG<|VH (ht _ _ _ fp _ s8 K H8 _ I8 q8) λok s9 ⟨H9,I9,q9⟩=>?_;have again:∀{G:aC} {k:Hp},Inv (sj X scope N (f.heap.push {}).objs.size { f with heap:=f.heap.push {}} (upd H2 f.heap.objs.size<|.lst []) fp) ([]++Bp fp s7.heap) K k G->(∃m',m'<n/\W (i+1) m' K k) ->
     ∃m,m<n/\∃i P H',Inv (sj X scope N (f.heap.push {}).objs.size { f with heap:=f.heap.push {}} (upd H2 f.heap.objs.size<|.lst []) fp) [] P H' G/\tn i G.heap/\(∀b∈fp,H' b=none)/\W i m P H':=λ{G k} M h9=>by
    obtain⟨m',hm,w10⟩:=h9;refine⟨m',hm,i+1,K,k,M.yM,T.keep _ _ _ st7 λb j o e=>(M.pin (b,o)<|cu _<|cu _<|uF j e).1,λb j=>?_,w10⟩;obtain⟨o,e,d⟩:=T.obj _ _ st7 b j;exact(M.pin (b,o)<|cu _<|cu _<|uF j e).2.1
   cases ok with
   | false=>
    rw[aJ bR]at q9;exact aQ ⟨rfl,again I9 q9⟩
   | true=>
    rw[aM rfl]at q9;refine aG<|aG<|VH (he _ _ _ fp _ s9 K H9 _ I9 q9) λy G ⟨Z,k,M,r10,ys,hD,hz,w10⟩=>?_;refine aG<|VH (Di _ G K k (.ref f.heap.objs.size) [Z] _ [y] (λ_ H'=>H'=upd k f.heap.objs.size (.lst<|ys++[Z])) M rfl (.cons r10 .nil) ⟨_,ys,Z,rfl,rfl,hD,hz,rfl⟩) λ_ s11 ⟨_,H11,I11,_,e11⟩=>?_;subst e11;exact aQ<|aQ ⟨rfl,again I11 w10⟩
 exact codeAny_compStart_list (V _ rfl)<|T.self _ 0 _ _ _ st4<|V _ rfl
def ZX{ok:Cx->Prop}{X:Cx}{iter:aE}{N:ba}{wi:TI}{g:TG}{tc:TT}{te:TE}(S:CpScope X scope N cap)(hok:∀C s₀ H₀ ex,(∀a o u,X.H₀ a=some (.frz o u)->H₀ a=some (.frz o u))->ok (sj X scope N C s₀ H₀ ex))(hi:PIg ok X tg iter wi)
  (hg:∀C s₀ H₀ ex,PG (sj X scope N C s₀ H₀ ex) tg g) (ht:∀C s₀ H₀ ex,PTs (sj X scope N C s₀ H₀ ex) ifs tc) (he:∀C s₀ H₀ ex,PE (sj X scope N C s₀ H₀ ex) elt te)
  (hs:(∀x,foldedSetIterable iter X.env x=pure x)<|>ν):PE X (.ListComp elt [⟨tg,iter,ifs,0⟩] scope pos) (tLC cap wi g tc te):=by
 kd_p;rw[eval_ListComp];exact VX (use:=none) (Q':=EP X pins σ Q) S hok hi hg ht he hs pins s σ H Q I h λf C D d m hn e inv q v=>⟨m,hn,λh' c=>⟨.ref D,d,inv h' c,rfl,q⟩⟩
def abX{X:Cx}{iter:aE}{N:ba}{wi:TI}{g:TG}{tc:TT}{te:TE}(hc:X.calm=true)(S:CpScope X scope N cap)(hi:PI X tg iter wi)
  (hg:∀C s₀ H₀ ex,PG (sj X scope N C s₀ H₀ ex) tg g) (ht:∀C s₀ H₀ ex,PTs (sj X scope N C s₀ H₀ ex) ifs tc) (he:∀C s₀ H₀ ex,PE (sj X scope N C s₀ H₀ ex) elt te)
  (hs:(∀x,foldedSetIterable iter X.env x=pure x)<|>ν):PE X (.ListComp elt [⟨tg,iter,ifs,0⟩] scope pos) (tLC cap wi g tc te):=
 ZX S (λ_ _ _ _ _=>hc) hi.g hg ht he hs
section
variable {X:Cx}
def Zk:pH X (compareOp .Is) (λx y H Q=>∃a b,x=.bl a/\y=.bl b/\Q (.bl<|a == b) H):=by
 gp_on;obtain⟨a,b,rfl,rfl,q⟩:=h
 cases rx;cases ry
 exact is_bool ⟨.bl _,H,I,rfl,q⟩
def FU:kO X (.type "range") (λxs H Q=>∃i j,xs=[.int i,.int j]/\∀p,H p=none->Q (.ref p) (upd H p<|.rng i j)):=by
 k_ne;obtain⟨i,j,rfl,q⟩:=h;obtain⟨u,d,rfl,⟨t,rfl⟩,⟨c,rfl⟩⟩:=vals2 r;refine call_range_2 ⟨.ref s.heap.objs.size,_,I.laid (o:=.rng i j) (λb o e=>aR _ e) (aP _) ?_,rfl,q _ I.fresh⟩;exact⟨t,c,s.toks,bz _ rfl⟩
abbrev lA (i j:Int):ag:=(List.range (j-i).toNat).map λk:Nat=>i+(k:Int)
def pU(i j:Int):(lA i j).length=(j-i).toNat:=by unfold lA;rw[aI,cI]
def B6{i:Int}{n:Nat}{acc:Array af}(h:ItemsOf (λk v=>∃t,v=Value.int (i+(k:Int) * 1) t) acc n):Vals (((List.range n).map λk:Nat=>i+(k:Int)).map V.int) acc.toList:=by
 obtain⟨hs,hv⟩:=h;have c:∀(l:bb) (b:Nat),(∀j v,l[j]?=some v->∃t,v=Value.int (i+((b+j:Nat):Int)) t)->Vals (((List.range' b l.length).map λk:Nat=>i+(k:Int)).map V.int) l:=by
  intro l
  induction l with
  | nil=>intro b _;exact .nil
  | cons v l f=>
   intro b d;rw[bu,List.range'_succ,bL,bL];refine .cons ?_ ?_
   ·obtain⟨t,e⟩:=d 0 v rfl;exact⟨t,by rw[e];simp⟩
   ·refine f (b+1) λj w hw=>?_;obtain⟨t,e⟩:=d (j+1) w hw;exact⟨t,by rw[e,show b+(j+1)=b+1+j by lia]⟩
 have:=c acc.toList 0 λj v g=>by
  obtain⟨t,e⟩:=hv j v (by simpa using g);exact⟨t,by rw[e,cF,Int.mul_one]⟩
 rw[cW,hs,<- gw]at this;exact this
def P5{i j:Int}:Builtin.Range.rangeSize i j 1=(((j-i).toNat:Nat):Int):=by rw[rangeSize_one];split<;>omega
def CP(hc:X.calm=true):kO X (.type "list") (λxs H Q=>∃p i j,xs=[.ref p]/\H p=some (.rng i j)/\(-(2 ^ 62)<=i/\i<2 ^ 62/\-(2 ^ 62)<=j/\j<2 ^ 62)/\(j-i).toNat<=1000/\∀l,H l=none->Q (.ref l) (upd H l<|.lst<|(lA i j).map V.int)):=by
 k_ne;obtain⟨p,i,j,rfl,m,⟨g,F,C,B⟩,hn,q⟩:=h;kpc_g
 cases rx
 obtain⟨t,J,v,e⟩:=I.hok p _ m;refine call_list_range (n:=(j-i).toNat) (I.ok.hd hc) e (small_one g F C B) P5 () λh' G c f k hS d=>?_;refine⟨.ref s.heap.objs.size,_,I.laid (o:=.lst<|(lA i j).map V.int) k (aP _) ⟨?_,c.toList,f,B6 d,by rw[hS]⟩,rfl,q _ I.fresh⟩;rw[aI,pU,dJ];lia
end
section
variable {X:Cx}
def z_{prog:aj}{w:ah}{A:aA}{E:af->aC->Prop}{s:aC}{Q:bb->aC->Prop}{r:ak}{a b c:Int}{t v:Tok}{n:Nat}(hh:A.handled=none)(hr:IsRange s.heap r a b c t u v)(hsmall:Builtin.Range.small a b c=true)
  (hn:Builtin.Range.rangeSize a b c=n) (hlen:n<=2 ^ 24)
  (hQ:∀h' tk (acc':Array af),(∀b o,s.heap.get? b=some o->h'.get? b=some o)->ItemsOf (λi v=>∃t,v=.int (a+i * c) t) acc' n->Q acc'.toList { s with heap:=h',toks:=tk }) :
  wpAny (model prog w) A (collect<|.ref r) Q E s:=by
 unfold collect;refine aG<|wpAny_runValue<|fq F.entry_proto_collect ?_;rw[eE F.plain_proto_collect _]
 skip
 refine aG<|cA ?_;refine aQ ⟨iV F.plain_list_iadd _,fq F.entry_list_iadd ?_⟩;rw[eE F.plain_list_iadd _]
 skip
 have hS:(s.heap.push {}).get? s.heap.objs.size=some { cls:=.type "list",data:=.seq #[] 0 }:=bz _ rfl;have k:∀(h':aq) (tk:Nat) (acc':Array af) (j:Nat),(∀b o,b≠s.heap.objs.size->(s.heap.push {}).get? b=some o->h'.get? b=some o) ->
   h'.get? s.heap.objs.size=some { cls:=.type "list",dict:=none,data:=.seq acc' j,slots:=#[]}->ItemsOf (λi v=>∃t,v=.int (a+i * c) t) acc' n ->
   wpAny (model prog w) A (match Value.ref s.heap.objs.size with
   | Value.ref a=>do
    match (<- load a).data with
     | Data.seq xs _=>pure xs.toList
     | _=>unsupported "internal:collect"
   | _=>unsupported "internal:collect") Q E { s with heap:=h',toks:=tk }:=by
  intro h' tk acc' j m g d
  skip
  refine aG<|wpAny_load g ?_;refine aQ ?_;exact hQ h' tk acc' (λb o e=>m b o (bD<|bA e)<|aR _ e) d
 refine jj (wpAny_extend_range (A:=A) (R:=λq s'=>q=.ok (.ret<|.ref s.heap.objs.size)/\∃h' tk acc' j,s'={ s with heap:=h',toks:=tk }/\(∀b o,b≠s.heap.objs.size->(s.heap.push {}).get? b=some o->h'.get? b=some o) /\
   h'.get? s.heap.objs.size=some { cls:=.type "list",dict:=none,data:=.seq acc' j,slots:=#[]}/\ItemsOf (λi v=>∃t,v=.int (a+i * c) t) acc' n)
  (s:={ s with heap:=s.heap.push {}}) hh (aR _ hr) hsmall hn hlen s.heap.objs.size (.ref s.heap.objs.size) 0 hS
  (λh' tk acc' j m g d=>⟨rfl,h',tk,acc',j,rfl,m,g,d⟩)) (λfin s' h=>?_) λe s' h=>?_
 ·cases fin with
  | done f=>
   obtain⟨e,h',tk,acc',j,rfl,m,g,d⟩:=h
   cases e
   exact k h' tk acc' j m g d
  | again j=>exact⟨h.1,ji h.2 λr p hr=>by
    obtain⟨rfl,h',tk,acc',j,rfl,m,g,d⟩:=hr;exact k h' tk acc' j m g d⟩
 ·exact absurd h.1<|by simp
def wW(l:ak){a b:Int}{t v:Tok}{n:Nat}(hsmall:Builtin.Range.small a b 1=true)
  (hn:Builtin.Range.rangeSize a b 1=n) (hlen:n<=1000) :
  Meets (Builtin.«tuple.__new__» ⟨[.type "tuple",.ref l],[]⟩)
   (λA R s=>A.handled=none/\IsRange s.heap l a b 1 t u v/\∀(h':aq) (tk:Nat) (acc':Array af),(∀b o',s.heap.get? b=some o'->h'.get? b=some o')->ItemsOf (λi v=>∃t,v=.int (a+i * 1) t) acc' n->R (.ok<|.ret<|.ref h'.objs.size) { s with heap:=h'.push { cls:=.type "tuple",data:=.seq acc' },toks:=tk }):=
 .of_wp λprog w A R s h=>by
  obtain⟨B,g,d,tk,G⟩:=s;obtain⟨J,k,h⟩:=h;have p:=sub_tuple_self;have j:=init_tuple_lookup;have C:=madeHere_tuple;have F:Shared.TypeIs ⟨B,g,d,tk,G⟩ (.ref l) "range" := ⟨_,k,rfl⟩;have f:A.in1.handled=none:=J
  wp_walk using cT k,fY F,z_ (A:=A.in1) f k hsmall hn (by omega)
  intro h' m acc' q c;show wpAny _ _ (Builtin.Tuple.tupleExact acc'.toList.toArray >>= λv=>ret v) _ _ _;unfold Builtin.Tuple.tupleExact;have e:acc'.toList.toArray=acc':=by simp
  refine aG (cA ?_<|by show acc'.toList.toArray.size<=sizeLine;rw[e,c.1,dJ];omega);refine aQ ⟨_,rfl,?_⟩;rw[e];exact h h' m acc' q c
def Cp(hc:X.calm=true):kO X (.type "tuple") (λxs H Q=>∃p i j,xs=[.ref p]/\H p=some (.rng i j)/\(-(2 ^ 62)<=i/\i<2 ^ 62/\-(2 ^ 62)<=j/\j<2 ^ 62)/\(j-i).toNat<=1000/\∀l,H l=none->Q (.ref l) (upd H l<|.tup<|(lA i j).map V.int)):=by
 k_ne;obtain⟨p,i,j,rfl,B,⟨k,J,G,C⟩,hn,q⟩:=h;kpc_g
 cases rx
 obtain⟨t,K,v,e⟩:=I.hok p _ B;refine callType_new F.called_tuple ⋯ (F.typeCall_tuple_1 _) (F.newCall_tuple_1 _) (λf=>iY f _) F.entry_tuple_new
  (wW (n:=(j-i).toNat) p (small_one k J G C) P5 hn) ⟨I.ok.hd hc,e,λh' g c m d=>⟨⟨_,bz _ rfl,rfl⟩,?_⟩⟩
 have I1:Inv X pins σ H { s with heap:=h',toks:=g }:=I.kept m;refine⟨.ref h'.objs.size,_,I1.laid (t':=g) (o:=.tup<|(lA i j).map V.int) (λb o e=>aR _ e) (aP _) ⟨?_,c.toList,B6 d,?_⟩,rfl,q _<|I1.hok.fresh<|aP _⟩
 ·rw[aI,pU,dJ];lia
 ·have e:c.toList.toArray=c:=by simp
  rw[e];exact p_.new _ _
def Gj{c:String}:kO X (.builtin "isinstance") (λxs H Q=>∃x t b,xs=[x,.ty c]/\TyOf X.K H x t/\PySem.W.kitOne X.K t (.type c)=some b/\Q (.bl b) H):=by
 k_ne;obtain⟨x,t,b,rfl,ty,e,q⟩:=h;obtain⟨u,g,rfl,rx,f⟩:=vals2 r
 cases f
 exact Ou I rx ty e λd=>⟨.bl b,H,I.tok d,rfl,q⟩
abbrev Zy (K:au):R2:=λx y H Q=>∃a b ys,x=.ref a/\y=.ref b/\oF K H a []/\oF K H b ys/\Q (.ref b) H
def RU:pH X (binaryOp .Add) (Zy X.K):=by
 gp_on;obtain⟨a,b,ys,rfl,rfl,h1,h2,q⟩:=h
 cases rx
 cases ry
 obtain⟨us,r1,p1,_⟩:=I.tuple h1;obtain⟨C,r2,p2,_⟩:=I.tuple h2
 cases r1
 obtain⟨⟨cls,B,data,F⟩,k,hc,n,p⟩:=id p1;obtain⟨⟨m,g,j,f⟩,d,c,G,e⟩:=id p2;simp only at hc p c e;subst hc p c e;exact concat_meets ⟨_,k,rfl⟩ ⟨_,d,rfl⟩ noFill_tuple_add seq_tuple_add ie gZ (gJ _ _)
   (tuple_addW0 a b _ C.toArray n G B g F f<|by simp) ⟨k,d,⟨.ref b,H,I,rfl,q⟩⟩
end
def ow:bootBuiltins "len" = some (.builtin "len"):=by decide +kernel
def OQ:bootBuiltins "max" = some (.builtin "max"):=by decide +kernel
def ZO:bootBuiltins "min" = some (.builtin "min"):=by decide +kernel
def zz:bootBuiltins "sorted" = some (.builtin "sorted"):=by decide +kernel
def w4:bootBuiltins "isinstance" = some (.builtin "isinstance"):=by decide +kernel
def Jv:bootBuiltins "int" = some (.type "int"):=by decide +kernel
def Xf:bootBuiltins "bool" = some (.type "bool"):=by decide +kernel
def AZ:bootBuiltins "list" = some (.type "list"):=by decide +kernel
def yL:bootBuiltins "tuple" = some (.type "tuple"):=by decide +kernel
def Gk:bootBuiltins "range" = some (.type "range"):=by decide +kernel
structure Blt (mg:Str->bi):Prop where
 len:mg "len" = none
 abs:mg "abs" = none
 all:mg "all" = none
 any:mg "any" = none
 max:mg "max" = none
 min:mg "min" = none
 sorted:mg "sorted" = none
 isinstance:mg "isinstance" = none
 int:mg "int" = none
 bool:mg "bool" = none
 str:mg "str" = none
 list:mg "list" = none
 tuple:mg "tuple" = none
 range:mg "range" = none
def UQ:∀{a b:ag},a.Perm b->a.Pairwise (·<=·)->b.Pairwise (·<=·)->a=b:=λp d c=>
 eB (λx y _ _ h1 h2=>ja h1 h2) d c p
def EM(i j:Int):(lA i j).Pairwise (·<=·):=by
 unfold lA;rw[cO];exact ir.imp λh=>()
def nJ(i j:Int):(lA i j).Nodup:=by
 unfold lA;rw[List.Nodup,cO];exact ir.imp λh=>()
def mU{i j k:Int}:k∈lA i j ↔ i<=k/\k<j:=by
 unfold lA;rw[bI];constructor
 ·rintro⟨a,c,rfl⟩;have:=dP.mp c;omega
 ·rintro⟨h1,h2⟩;exact⟨(k-i).toNat,dP.mpr<|by omega,by omega⟩
theorem we:∀{l m:ag},l.Nodup->(∀x∈l,x∈m)->m.length<=l.length->l.Perm m
 | [],m,_,_,h=>by
  have:m=[]:=eL.mp<|Nat.le_zero.mp h;rw[this]
 | a::l,m,nd,hs,hl=>by
  have g:a∈m:=hs a aK;have c:=c5.mp nd;have k:m.Perm (a::m.erase a):=List.perm_cons_erase g;have j:=we (l:=l) (m:=m.erase a) c.2 (λx f=>by
   have d:x≠a:=λe=>c.1<|e ▸ f;exact(List.mem_erase_of_ne d).mpr (hs x<|aO _ f)) (by
   rw[List.length_erase_of_mem g];dsimp[bu]at hl;omega)
  exact(List.Perm.cons a j).trans k.symm
abbrev Kn (P:aj)(w:ah)(K:au)(mg:Str->bi)(base:aq)(k:Nat)(x:Str)(ps:ba)(sp:Sp):Prop:=
 ∃(f:ak) (fd:FuncData),FnOk P w K mg base qi k f fd ps sp/\mg x=some (.ref f)/\PySem.W.keepIn K (.ref f)=true/\Binds K fd ps []
def abh{X:Cx}{k:Nat}{x:Str}{sp:Sp}{e:aE}{t:TA}{p:Pos}(G:Kn X.prog X.w X.K X.mg X.base k x ps sp)(hr:Room k X.A)(ha:PA X (e::es) t)(hg:Gl X x<|>ι)
  (hdb:(x == ("__debug__" : Str))=false<|>θ) (hs:starEach (e::es) X.env=(false,eval e X.env)::starEach es X.env<|>ι) (hplain:((backTo pos<|starEach es X.env).any (·.1)=false)<|>ι) :
  PE X (.Call (.Name x p) (e::es) [] pos) (XR sp [] E0 t):=by
 obtain⟨f,fd,F,c,g,d⟩:=G;exact Wc F hr hg c g d .nil acj ha hdb hs hplain
abbrev BV (XN fs:ba):ba->List (bo)->Prop
 | [],[]=>True
 | _::N,none::c=>BV XN fs N c
 | x::N,some j::c=>XN[j]?=some x/\x∈fs/\BV XN fs N c
 | _,_=>False
theorem BV.len{fs:ba}:∀{N:ba}{c:List<|bo},BV XN fs N c->c.length=N.length
 | [],[],_=>rfl
 | _::N,none::c,h=>dQ (·+1) (BV.len (N:=N) (c:=c) h)
 | _::N,some j::c,h=>dQ (·+1) (BV.len (N:=N) (c:=c) h.2.2)
 | [],_::_,h=>h.elim
 | _::_,[],h=>h.elim
theorem BV.cp{fs:ba}:∀{N:ba}{c:List<|bo},BV XN fs N c->∀(i j:Nat) (x:Str),N[i]?=some x->c[i]?=some (some j)->XN[j]?=some x/\x∈fs
 | [],[],_,i,j,x,h1,_=>by simp at h1
 | y::N,none::c,h,i,j,x,h1,h2=>by
  cases i with
  | zero=>simp at h2
  | succ i=>exact BV.cp (N:=N) (c:=c) h i j x (by simpa using h1)<|by simpa using h2
 | y::N,some k::c,h,i,j,x,h1,h2=>by
  cases i with
  | zero=>
   simp at h1 h2;subst h1 h2;exact⟨h.1,h.2.1⟩
  | succ i=>exact BV.cp (N:=N) (c:=c) h.2.2 i j x (by simpa using h1)<|by simpa using h2
 | [],_::_,h,_,_,_,_,_=>h.elim
 | _::_,[],h,_,_,_,_,_=>h.elim
def C4{X:Cx}{scope:Scope}{N:ba}(fs:ba)(kind:scope.kind=.function)(nocell:∀y∈scope.names,y.2≠.cell)(nm:∀y∈scope.names,y.2=.local->scope.names.lookup y.1=some .local)
  (nolf:∀y∈scope.names,y.2=.free->scope.names.lookup y.1≠some .local) (hf:∀y∈scope.names,y.2=.free->y.1∈fs) (hfs:∀x∈fs,(x,NameKind.free)∈scope.names) (hk:∀x∈fs,X.env.kindOf x=some .cell\/X.env.kindOf x=some .free) (cp:BV X.N fs N cap):CpScope X scope N cap where
 kind:=kind
 nocell:=nocell
 nm:=nm
 fr:=λy m e=>hk _ (hf y m e)
 rl:=λy h=>by
  have f:∀k,(k=NameKind.cell\/k=NameKind.free)->(relabel scope X.env).names.lookup y=some k->(y,NameKind.free)∈scope.names:=λk hk e=>by
   obtain⟨⟨q,g⟩,d,c⟩:=bI.mp<|A8 e;dsimp only at c;split at c
   ·rename_i hc
    cases c
    have:g=.free:=by
     dsimp[fR]at hc;simpa using hc.1.1
    subst this;exact d
   ·cases c
    rcases hk with rfl|rfl
    ·exact absurd rfl (nocell _ d)
    ·exact d
  rcases h with h|h
  ·exact f _ (.inl rfl) h
  ·exact f _ (.inr rfl) h
 len:=cp.len
 nolf:=λx p=>nolf (x,.free) p rfl
 cp:=λi j x h1 h2=>by
  obtain⟨a,b⟩:=cp.cp i j x h1 h2;exact⟨a,hfs x b⟩
inductive Kd where
 | non|bl|int|str|lst|tup
 deriving DecidableEq
abbrev Kd.ty:Kd->af
 | .non=>.type "NoneType" | .bl=>.type "bool" | .int=>.type "int" | .str=>.type "str" | .lst=>.type "list" | .tup=>.type "tuple"
abbrev ZI (H:Hp)(x:V):Kd->Prop
 | .non=>x=.non
 | .bl=>∃b,x=.bl b
 | .int=>∃i,x=.int i
 | .str=>∃s,x=.str s
 | .lst=>∃a xs,x=.ref a/\H a=some (.lst xs)
 | .tup=>∃a xs,x=.ref a/\H a=some (.tup xs)
def ZI.adV{K:au}{H:Hp}{x:V}{k:Kd}(h:ZI H x k):TyOf K H x k.ty:=by
 cases k with
 | non=>cases h;exact .non
 | bl=>obtain⟨b,rfl⟩:=h;exact .bl b
 | int=>obtain⟨b,rfl⟩:=h;exact .int b
 | str=>obtain⟨b,rfl⟩:=h;exact .str b
 | lst=>obtain⟨a,xs,rfl,e⟩:=h;exact .lst e
 | tup=>obtain⟨a,xs,rfl,e⟩:=h;exact .tup e
def Wb{K:au}(k:Kd):PySem.W.kitOne K k.ty (.type "int")=some (decide<|k=.int\/k=.bl):=by cases k<;>rfl
def RZ{K:au}(k:Kd):PySem.W.kitOne K k.ty (.type "bool")=some (decide<|k=.bl):=by cases k<;>rfl
def kit_tuple{K:au}(k:Kd):PySem.W.kitOne K k.ty (.type "tuple")=some (decide<|k=.tup):=by cases k<;>rfl
def Rm{K:au}(k:Kd):PySem.W.kitOne K k.ty (.type "list")=some (decide<|k=.lst):=by cases k<;>rfl
section
variable {prog:aj}{w:ah}{A:aA}{E:af->aC->Prop}{s:aC}
def x_{t:ak}{i:Nat}{x:af}{Q:af->aC->Prop}(hit:s.heap.IsTupleIter it t i)
  (ht:s.heap.IsTuple t items) (hx:items[i]?=some x) (hQ:∀h',h'.IsTupleIter it t (i+1)->Heap.SameBut it s.heap h'->Q x { s with heap:=h' }) :
  wpAny (model prog w) A (Builtin.SmallTypes.nextOf<|.ref it) Q E s:=by
 obtain⟨o,d,hc,c⟩:=id hit;obtain⟨j,e,_,g,f⟩:=ht;unfold Builtin.SmallTypes.nextOf;refine aG (dm (name:=Str.ofString "__next__") hit.typeIs eY
  (cN eY hit.typeIs F.entry_tuple_iterator_next ?_<|F.args_tuple_iterator_next_1 _))
 show wpAny _ _ (field (.ref it) 0 >>= _) _ _ s;refine aG (fB d c (x:=.ref t) rfl ?_)
 skip
 rw[aJ<|show ¬((Value.ref t == Value.none)=true)from bR]
 skip
 refine aG (fB d c (x:=.int i 0) rfl ?_)
 skip
 refine aG<|fS e f ?_;dsimp[c7,hx];refine aG (iu d c (by simp)<|aQ ⟨x,rfl,aQ<|hQ _ ?_<|fO ..⟩);exact⟨_,gh _ d<|iL<|eZ c _,(jz ..).trans hc,by
  rw[eZ c];simp[rawInt]⟩
def zF{t:ak}{i:Nat}{Q:af->aC->Prop}(hh:A.handled=none)
  (hit:s.heap.IsTupleIter it t i) (ht:s.heap.IsTuple t items) (hx:items[i]?=none)
  (hE:∀h' e,Heap.ExtBut it s.heap h'->(∃o,h'.get? e=some o/\o.cls=.type "StopIteration")->E (.ref e) { s with heap:=h' }) :
  wpAny (model prog w) A (Builtin.SmallTypes.nextOf<|.ref it) Q E s:=by
 obtain⟨o,c,hc,g⟩:=id hit;obtain⟨k,d,_,j,f⟩:=ht;unfold Builtin.SmallTypes.nextOf;refine aG (dm (name:=Str.ofString "__next__") hit.typeIs eY
  (cN eY hit.typeIs F.entry_tuple_iterator_next ?_<|F.args_tuple_iterator_next_1 _))
 show wpAny _ _ (field (.ref it) 0 >>= _) _ _ s;refine aG (fB c g (x:=.ref t) rfl ?_)
 skip
 rw[aJ<|show ¬((Value.ref t == Value.none)=true)from bR]
 skip
 refine aG (fB c g (x:=.int i 0) rfl ?_)
 skip
 refine aG<|fS d f ?_;dsimp[c7,hx];refine aG (d_<|aG<|iu c g (by simp) ?_)
 skip
 refine aG ?_;dsimp[newExc,newTuple];refine aG (cA ?_<|by size_fits);refine aG (m:=firstArgMember _ _) (iZ (a:=Value.none) (by first|rfl|(dsimp[firstArgMember];rfl)) ?_);refine cA ?_ (by size_fits);dsimp[raiseNew];refine aG (wpAny_handled ?_)
 first|rw[show A.in1.handled=none from hh]|rw[hh]
 refine aG<|aQ<|wpAny_throw ?_;exact hE _ _ (((fO ..).extBut.push _).push _) ⟨_,bz _ rfl,rfl⟩
end
def Qv{prog:aj}{w:ah}{A:aA}(hh:A.handled=none)(it l:ak)(hne:l≠it)(items:Array af) :
  Draws prog w A it [it,l] items.size (λi v=>items[i]?=some v) (λi h=>h.IsTupleIter it l i/\h.IsTuple l items) where
 live:=λ_ _ st=>let⟨o,ho,_⟩:=st.1;⟨o,ho⟩
 frame:=λ_ _ _ st f=>⟨st.1.at λo e=>f it (by simp) o e,let⟨o,ho,r⟩:=st.2;⟨o,f l (by simp) o ho,r⟩⟩
 item:=λi s Q E hi st g=>by
  refine x_ st.1 st.2 (x:=items[i]) (by simp[hi]) λh' c d=>?_;exact g _ h' s.toks (by simp[hi]) ⟨c,let⟨o,ho,r⟩:=st.2;⟨o,d.extBut l o hne ho,r⟩⟩ d
 done:=λs Q E st j=>zF hh st.1 st.2 (by simp) j
def G4(l:ak)(items:Array af) :
  Meets (Builtin.«enumerate.__new__» ⟨[.type "enumerate",.ref l],[]⟩) (λ_ R s=>s.heap.IsTuple l items /\
   R (.ok<|.ret<|.ref (s.heap.push { cls:=.type "tuple_iterator",data:=.fields #[.ref l,.int 0 0]}).objs.size)
    { s with heap:=(s.heap.push { cls:=.type "tuple_iterator",data:=.fields #[.ref l,.int 0 0]}).push { cls:=.type "enumerate",data:=.fields #[.none,.bool false,.ref s.heap.objs.size,rawInt 0,.none,.none]}}):=
 .of_wp λprog w A R s h=>by
  obtain⟨q,g,d,C,F⟩:=s;obtain⟨f,h⟩:=h;have j:=sub_enumerate;obtain⟨p,e,k,B,m⟩:=id f
  wp_walk using cT e
  refine wpAny_stack_any λst=>aQ ?_;split
  ·rename_i c _ _ _ _ _
   cases(c == Value.type "enumerate")
   ·wp_walk using cT e,gT f
    exact⟨_,rfl,h⟩
   ·wp_walk using cT e,gT f
    exact⟨_,rfl,h⟩
  ·wp_walk using cT e,gT f
   exact⟨_,rfl,h⟩
abbrev Ite (K:au)(a:ak):It:=
 ⟨λi H=>∃xs x,oF K H a xs/\xs[i]?=some x,λi H x H'=>∃T,H T=none/\x=.ref T/\∀xs y,oF K H a xs->xs[i]?=some y->H'=upd H T (.tup [.int i,y]),λi H=>∃xs,oF K H a xs/\xs.length=i⟩
def IQ{P:aj}{w:ah}{K:au}(a e it:ak)(hei:e≠it):Turn P w K (.Tuple elts x1 tpos) (Ite K a) [e,it] e (λi h=>(∃old,IsEnum h e it i old)/\h.IsTupleIter it a i) where
 mem:=by simp
 obj:=λi h st b T=>by
  obtain⟨⟨old,f⟩,g⟩:=st;have J:b=e\/b=it:=by simpa using T
  rcases J with rfl|rfl
  ·exact⟨_,f,λv z=>by cases z⟩
  ·obtain⟨o,e,c,d⟩:=g;exact⟨o,e,λv z=>by rw[d]at z;cases z⟩
 keep:=λi h h' st k=>by
  obtain⟨⟨old,f⟩,g⟩:=st;exact⟨⟨old,k e (by simp) _ f⟩,g.at λo C=>k it (by simp) o C⟩
 item:=by
  w_up;subst hP hw hK;obtain⟨⟨old,f⟩,g⟩:=st;obtain⟨xs,x,hq,hx⟩:=hg;obtain⟨F,rv,p,hz⟩:=I.tuple hq;obtain⟨u,hu,ru⟩:=rv.get hx;have O:a≠it:=by
   obtain⟨o,C,G,_⟩:=p;obtain⟨o2,M,L,_⟩:=g;intro z;rw[z,M]at C
   cases C
   rw[G]at L;exact absurd (Value.type.inj L) ⋯
  have hea:e≠a:=by
   obtain⟨o,C,G,_⟩:=p;intro z;rw[<- z,f]at C
   cases C
   exact absurd (Value.type.inj G) ⋯
  have hlt:i<F.toArray.size:=by
   rw[br];exact(aN.mp hu).1
  refine wpAny_pyNext_enum_itemD (Qv (A:=X.A.in1) (I.ok.hd hc) it a O F.toArray) f ⟨g,p⟩ hlt hei (by simp[hei,hea]) λx' h' tk hP Z hst hT hsz hk=>?_;have ex:x'=u:=by
   have:F.toArray[i]?=some u:=by simpa using hu
   rw[this]at hP;exact(aZ hP).symm
  subst ex;refine⟨_,rfl,wpAny_letOwnedTupleGo_enum Z λh2 he2 N=>?_⟩;have W:H s.heap.objs.size=none:=I.hok.fresh<|aP _;have hel:e<s.heap.objs.size:=bA f;have hil:it<s.heap.objs.size:=by obtain⟨o,C,_⟩:=g;exact bA C
  have Y:∀b o,b≠e->b≠it->s.heap.get? b=some o->h2.get? b=some o:=λb o h1 h3 q=>N.extBut b o h1<|hk b o h1 h3 q;have hT2:h2.get? s.heap.objs.size=some { cls:=.type "tuple",data:=.seq #[.int i tk,x']}:=N.extBut _ _ (ne_of_gt hel) hT;obtain⟨e0,e1,e2,e3,e4,e5⟩:=hf e (by simp);obtain⟨i0,i1,i2,i3,i4,i5⟩:=hf it (by simp);have nT:∀b o,s.heap.get? b=some o->b≠s.heap.objs.size:=λb o q=>bD<|bA q;have j:∀c v,H c=some v->c≠e/\c≠it:=λc v q=>⟨(λz=>by rw[z,e0]at q;cases q),(λz=>by rw[z,i0]at q;cases q)⟩;have I2:Inv X pins σ (upd H s.heap.objs.size<|.tup [.int i,x]) { s with heap:=h2,toks:=tk+1 }:=by
   refine I.step (g':=s.gens) (d':=s.drawn) (ch:=[e,it]) (λb T=>?_) (λb o _ _ B q _=>?_) (λb o _ _ B q _=>?_) (λb o B q n=>?_) (λb o B q=>?_) (λb ys q=>?_) (λb o u' q=>?_) (λb ps q=>?_) (λm hm=>?_) (λb u' q=>?_) I.bare
   ·have J:b=e\/b=it:=by simpa using T
    rcases J with rfl|rfl
    ·exact⟨e3,e1,e4,e5⟩
    ·exact⟨i3,i1,i4,i5⟩
   ·exact Y b o (λz=>B<|by simp[z]) (λz=>B<|by simp[z]) q
   ·exact⟨o.slots,Y b o (λz=>B<|by simp[z]) (λz=>B<|by simp[z]) q⟩
   ·rw[j8<|nT b o q];exact n
   ·exact⟨o,Y b o (λz=>B<|by simp[z]) (λz=>B<|by simp[z]) q⟩
   ·rw[j8<|ko q W];exact q
   ·rw[j8<|ko q W];exact q
   ·exact⟨#[],by rw[j8<|ko q W,q];simp⟩
   ·obtain⟨o,es,ep,C,r⟩:=hm;exact⟨o,es,ep,Y _ o (c9 e1) (c9 i1) C,r⟩
   ·by_cases z:b=s.heap.objs.size
    ·subst z;rw[lE]at q
     cases q
     exact⟨by show 2<=sizeLine;decide,[.int i tk,x'],.cons ⟨tk,rfl⟩<|.cons ru .nil,⟨_,hT2,rfl,rfl,0,rfl⟩⟩
    ·rw[j8 z]at q;refine(I.hok b u' q).stay (λc v hc V=>Y c v ?_ ?_ V) (λc V=>?_) λc ys V=>?_
     ·rcases hc with z|z
      ·rw[z];exact(j b u' q).1
      ·exact(j c _ z).1
     ·rcases hc with z|z
      ·rw[z];exact(j b u' q).2
      ·exact(j c _ z).2
     ·rw[j8<|ko V W];exact V
     ·rw[j8<|ko V W];exact V
  refine⟨.ref s.heap.objs.size,_,I2,rfl,⟨s.heap.objs.size,W,rfl,λys y hy U=>?_⟩,⟨⟨x',by simpa using he2⟩,?_⟩,λb T=>?_⟩
  ·rw[I.zd hy hq]at U;rw[hx]at U
   cases U
   rfl
  ·exact hst.1.at λo C=>N.extBut it o (c9 hei) C
  ·have J:b=e\/b=it:=by simpa using T
   rcases J with rfl|rfl
   ·rw[j8<|bD hel];exact e0
   ·rw[j8<|bD hil];exact i0
 done:=by
  w_up;subst hP hw hK;obtain⟨⟨old,f⟩,g⟩:=st;obtain⟨xs,hq,hx⟩:=hg;obtain⟨F,rv,p,hz⟩:=I.tuple hq;obtain⟨i0,i1,i2,i3,i4,i5⟩:=hf it (by simp);have O:a≠it:=by
   obtain⟨o,C,G,_⟩:=p;obtain⟨o2,M,L,_⟩:=g;intro z;rw[z,M]at C
   cases C
   rw[G]at L;exact absurd (Value.type.inj L) ⋯
  have hl:=rv.length;have ei:F.toArray.size=i:=by rw[br,<- hl,hx]
  exact wpAny_pyNext_enum_endD (Qv (A:=X.A.in1) (I.ok.hd hc) it a O F.toArray) f ⟨by rw[ei];exact g,p⟩ λh' eb=>⟨rfl,I.turned (t':=s.toks) (λb o T q=>eb b o T q) i0 i1 i3 i4 i5⟩
 self:=λ_ _ _ _ _ st h=>let⟨⟨_,f⟩,_⟩:=st;wpAny_pyIter_enum f h
def Fp:bootBuiltins "enumerate" = some (.type "enumerate"):=by decide +kernel
section
variable {X:Cx}
abbrev acz (K:au)(ta:TA):TI:=λσ H R=>ta σ H λc H1=>∃a xs,c=[.ref a]/\oF K H1 a xs/\R (Ite K a) H1
def T5{a:aE}{ta:TA}{p:Pos}(hg:Gl X "enumerate")(hm:X.mg "enumerate" = none)(ha:PA X [a] ta)(hs:starEach [a] X.env=[(false,eval a X.env)]<|>ι):PI X (.Tuple elts x1 tpos) (.Call (.Name "enumerate" p) [a] [] pos) (acz X.K ta):=by
 intro pins s σ H R I h;refine Call_<|xD I hg hm Fp<|dZ (ny (ha pos pins s σ H _ I h) λus c ⟨N,H1,I1,r1,L⟩=>?_) hs rfl;obtain⟨t,xs,e,C,q⟩:=L;subst e;obtain⟨u,rfl,rx⟩:=vals1 r1
 cases rx
 obtain⟨d,P,M,O⟩:=I1.tuple C;refine callType_new F.called_enumerate ⋯ (F.typeCall_enumerate_1 _) (F.newCall_enumerate_1 _) (λj=>iY j _) F.entry_enumerate_new (G4 t d.toArray) ⟨M,⟨_,bz _ rfl,rfl⟩,?_⟩;have B:Inv X pins σ H1 { c with heap:=c.heap.push { cls:=.type "tuple_iterator",data:=.fields #[.ref t,.int 0 0]}}:=I1.kept (t':=c.toks) λb o e=>aR _ e;have J:Inv X pins σ H1 { c with heap:=(c.heap.push { cls:=.type "tuple_iterator",data:=.fields #[.ref t,.int 0 0]}).push { cls:=.type "enumerate",data:=.fields #[.none,.bool false,.ref c.heap.objs.size,rawInt 0,.none,.none]}}:=B.kept (t':=c.toks) λb o e=>aR _ e;have m:IsEnum ((c.heap.push { cls:=.type "tuple_iterator",data:=.fields #[.ref t,.int 0 0]}).push { cls:=.type "enumerate",data:=.fields #[.none,.bool false,.ref c.heap.objs.size,rawInt 0,.none,.none]}) (c.heap.push { cls:=.type "tuple_iterator",data:=.fields #[.ref t,.int 0 0]}).objs.size c.heap.objs.size 0 .none:=bz _ rfl;have f:((c.heap.push { cls:=.type "tuple_iterator",data:=.fields #[.ref t,.int 0 0]}).push { cls:=.type "enumerate",data:=.fields #[.none,.bool false,.ref c.heap.objs.size,rawInt 0,.none,.none]}).IsTupleIter c.heap.objs.size t 0:=⟨_,aR _<|bz _ rfl,rfl,rfl⟩;have g:(c.heap.push { cls:=.type "tuple_iterator",data:=.fields #[.ref t,.int 0 0]}).objs.size≠c.heap.objs.size:=by rw[gv];exact ne_of_gt (eW _)
 refine wpAny_pyIter_enum m ⟨_,[_,c.heap.objs.size],_,_,H1,rfl,J,IQ t _ c.heap.objs.size g,⟨⟨.none,m⟩,f⟩,λb G=>?_,q⟩;have k:b=(c.heap.push { cls:=.type "tuple_iterator",data:=.fields #[.ref t,.int 0 0]}).objs.size\/b=c.heap.objs.size:=by simpa using G
 rcases k with rfl|rfl
 ·exact I1.Gx (by rw[gv];exact Nat.le_succ _) (B.hok.fresh<|aP _)
 ·kln_w
def Nc(hc:X.calm=true):kO X (.builtin "max") (λxs H Q=>∃(p:ak) (ns:ag),xs=[.ref p]/\qj X.K H p (ns.map V.int)/\0<ns.length/\∀M,M∈ns->(∀a∈ns,a<=M)->Q (.int M) H):=by
 k_ne;obtain⟨p,ns,rfl,C,d,q⟩:=h;kpc_g
 cases rx
 obtain⟨m,G,pl,J⟩:=I.list C;have hi:=intsAre_of G;have k:=pl.isList;obtain⟨ys,e⟩:=hi.allInts.items;have c:ns=ys.toList.map (·.1):=by
  rw[<- hi.numsOf,<- nums_intItems,<- e]
 have f:0<ys.size:=by
  have h3:=d;rw[c,aI,cW]at h3;exact h3
 rw[e]at k;refine max_intList (I.ok.hd hc) k f λv h' L hv B=>?_;obtain⟨t,rfl⟩:=intItems_at hv;obtain⟨h1,h2⟩:=argBest_gt (numAt ys)<|ys.size-1;refine⟨.int _,H,I.kept B,⟨t,rfl⟩,q _ ?_ λa g=>?_⟩
 ·rw[c,numAt_eq];exact getD_mem (by rw[aI,cW];lia)
 ·rw[c]at g;obtain⟨j,F,rfl⟩:=mem_getD g;rw[aI,cW]at F;rw[<- numAt_eq];exact h2 j ()
end
section
variable {X:Cx}
abbrev abd (K:au):V->V->Hp->VK->Prop:=λo i H Q=>∃p xs k v,o=.ref p/\i=.int k/\qj K H p xs/\0<=k/\xs[k.toNat]?=some v/\Q v H
def Ti:YK X (abd X.K):=by
 intro pins s σ H o i ov iv Q I f d h;obtain⟨p,xs,k,v,rfl,rfl,e,h0,hv,q⟩:=h
 cases f
 obtain⟨t,rfl⟩:=d;obtain⟨c,r,pl,C⟩:=I.list e;obtain⟨u,g,j⟩:=r.get hv;have B:=r.length;have hn:=xK;have m:k.toNat<xs.length:=(aN.mp hv).1;exact wpAny_getItem_list pl.isList h0 () (by simpa using g) ⟨v,H,I,j,q⟩
end
end L2
namespace L2
open PySem PySem.Spec PyProof.Rows
open PySem.SeqAt
open PySem.AutoSeq1 (wpAny_loadPart')
open PySem.MeetsSeq PySem.MeetsSeq2 PySem.MeetsSeq3 PySem.SeqAt
section
variable {X:Cx}
def Tq:pH X (binaryOp .FloorDiv) (rI (λ_ j=>0<j/\j<18446744073709551616) λi j=>.int<|i / j):=opI λi j _ _ _ _ _ hc q=>by
 have h1:(0:Int)<j:=hc.1;have h2:j<18446744073709551616:=hc.2;refine floordiv_int (by omega) (by rw[Int.fdiv_eq_ediv_of_nonneg i<|by omega];exact q)<|.inl<|PyProof.noPylong_of_log2 ?_;exact b6 ((Nat.log2_lt<|by omega).mpr<|show j.natAbs<2 ^ 64 by omega) ⋯
end
end L2
namespace L2
open PySem PySem.Spec PyProof.Rows
abbrev Its (x:Str):It:=⟨λi _=>i<x.cps.size,λi H v H'=>H'=H/\∃c,x.cps[i]?=some c/\v=.str ⟨#[c]⟩,λi _=>i=x.cps.size⟩
def Qm{P:aj}{w:ah}{K:au}(x:Str)(t:Tok)(it:ak):Turn P w K tg (Its x) [it] it (λi h=>h.IsStrIter it "str_ascii_iterator" x t i) where
 mem:=by simp
 obj:=λi h st b f=>by
  have e:b=it:=by simpa using f
  subst e;obtain⟨o,e,c,d⟩:=st;exact⟨o,e,λv z=>by rw[d]at z;cases z⟩
 keep:=λi h h' st k=>let⟨o,ho,r⟩:=st;⟨o,k it (by simp) o ho,r⟩
 item:=by
  w_up;subst hP hw hK;kj_on;have W:=Walks.strAscii (prog:=X.prog) (w:=X.w) (I.ok.hd hc) it x t;refine W.item i s _ _ hg st λv h' j hv g p=>?_;obtain⟨c,u,m,rfl⟩:=hv;have I1:Inv X pins σ H { s with heap:=h',toks:=j }:=I.turned (λb o f e=>p b o (by simpa using f) e) f0 f1 f3 f4 f5;obtain⟨o,e,q,d⟩:=id g;exact⟨_,rfl,F_ (s:={ s with heap:=h',toks:=j }) e q d ⋯ ⟨.str ⟨#[c]⟩,H,I1,⟨u,rfl⟩,⟨rfl,c,m,rfl⟩,g,λb f=>(hf b f).1⟩⟩
 done:=by
  w_up;subst hP hw hK;kj_on;have hg:i=x.cps.size:=hg;subst hg;have W:=Walks.strAscii (prog:=X.prog) (w:=X.w) (I.ok.hd hc) it x t;exact W.done s _ _ st λh' j p=>⟨rfl,I.turned (λb o f e=>p b o (by simpa using f) e) f0 f1 f3 f4 f5⟩
 self:=λ_ _ _ _ _ st h=>wpAny_pyIter_striter_ascii st h
section
variable {X:Cx}{tg:aE}
abbrev adw (tl:TE):TI:=λσ H R=>tl σ H λx H1=>∃y:Str,x=.str y/\y.cps.all (· < 128)=true/\R (Its y) H1
def aaU{l:aE}{tl:TE}(hl:PE X l tl):PI X tg l (adw tl):=by
 intro pins s σ H R I h;refine ny (hl pins s σ H _ I h) λv c h9=>?_;obtain⟨x,H1,I1,r1,g⟩:=h9;obtain⟨y,e,d,q⟩:=g;subst e;obtain⟨t,rfl⟩:=r1;refine wpAny_pyIter_ascii d ?_;refine⟨c.heap.objs.size,[c.heap.objs.size],_,_,H1,rfl,I1.kept (t':=c.toks) λb o e=>aR _ e,Qm y t _,⟨_,bz _ rfl,rfl,rfl⟩,λb f=>?_,q⟩;have e:b=c.heap.objs.size:=by simpa using f
 subst e;kln_w
def Nt:kO X (.type "int") (λxs H Q=>∃(y:Str) (n:Int),xs=[.str y]/\y.length<=640/\PySem.intText? y=some n/\Q (.int n) H):=by
 intro pins s σ H xs us Q I e h;obtain⟨y,n,rfl,d,hn,q⟩:=h;obtain⟨w,rfl,c⟩:=vals1 e;obtain⟨u,rfl⟩:=c;exact PySem.W.KIN.call_text hn d ⟨.int n,H,I.tok _,⟨_,rfl⟩,q⟩
end
section
variable {κ:Type}[DecidableEq κ]
abbrev rV (kvs:List<|κ×V)(k:κ):Option V:=(kvs.find? λkv=>decide<|kv.1=k).map (·.2)
abbrev putK (kvs:List<|κ×V)(k:κ)(v:V):List (κ×V):=
 if (kvs.any λkv=>decide<|kv.1=k)=true then kvs.map (λkv=>if kv.1=k then(kv.1,v)else kv)else kvs++[(k,v)]
def vD{p:κ×V}{r:List<|κ×V}{k:κ}(e:p.1=k):rV (p::r) k=some p.2:=by simp[rV,cC,e]
def vn{p:κ×V}{r:List<|κ×V}{k:κ}(e:¬p.1=k):rV (p::r) k=rV r k:=by simp[rV,cC,e]
theorem yH(k:κ):∀kvs:List<|κ×V,(kvs.any λkv=>decide<|kv.1=k)=(rV kvs k).isSome
 | []=>rfl
 | p::r=>by
  rw[gc];by_cases e:p.1=k
  ·dsimp[vD e,aW e,Bool.true_or,jn]
  ·rw[vn e,bq e,gK];exact yH k r
def sE(kvs:List<|κ×V)(k:κ)(v:V):(putK kvs k v).length<=kvs.length+1:=by
 unfold putK;split
 ·rw[aI];lia
 ·rw[aV,bu,bX];lia
def zS.zE{o:Option V}{u:bi}(r:zS o u):o.isSome=u.isSome:=by
 cases o with
 | none=>cases u with
  | none=>rfl
  | some _=>exact(show False from r).elim
 | some _=>cases u with
  | none=>exact(show False from r).elim
  | some _=>rfl
def zS.getD{o:Option V}{u:bi}{d:V}(r:zS o u)(rd:RelV d d'):RelV (o.getD d) (u.getD d'):=by
 cases o with
 | none=>cases u with
  | none=>exact rd
  | some _=>exact(show False from r).elim
 | some _=>cases u with
  | none=>exact(show False from r).elim
  | some _=>exact r
def KV.val(r:KV kvs vs)(k:κ):zS (rV kvs k) (valueAt vs k):=by
 unfold KV at r
 induction r with
 | nil=>exact True.intro
 | @cons p q ps c h t f=>
  obtain⟨h1,h2⟩:=h;by_cases e:p.1=k
  ·have d:q.1=k:=h1.symm.trans e;have b:valueAt (q::c) k=some q.2:=by simp[valueAt,cC,d]
   rw[vD e,b];exact h2
  ·have d:¬q.1=k:=λz=>e<|h1.trans z;have b:valueAt (q::c) k=valueAt c k:=by simp[valueAt,cC,d]
   rw[vn e,b];exact f
def KV.any{kvs:List<|κ×V}{vs:List<|κ×af}(r:KV kvs vs)(k:κ):(kvs.any λkv=>decide<|kv.1=k)=vs.any λkv=>decide (kv.1=k):=by
 unfold KV at r
 induction r with
 | nil=>rfl
 | cons h t c=>rw[gc,gc,c,h.1]
def KV.repl{kvs:List<|κ×V}{vs:List<|κ×af}(r:KV kvs vs)(k:κ)(ry:RelV y u) :
  KV (kvs.map λkv=>if kv.1=k then(kv.1,y)else kv) (vs.map λkv=>if kv.1=k then(kv.1,u)else kv):=by
 unfold KV at r ⊢
 induction r with
 | nil=>exact .nil
 | @cons p q ps d h t c=>
  rw[bL,bL];refine .cons ?_ c;obtain⟨h1,h2⟩:=h;by_cases e:p.1=k
  ·rw[aM e,aM<|h1.symm.trans e];exact⟨h1,ry⟩
  ·rw[aJ e,aJ λz=>e<|h1.trans z];exact⟨h1,h2⟩
def KV.put(r:KV kvs vs)(k:κ)(ry:RelV y u):KV (putK kvs k y) (stored vs k u):=by
 unfold putK stored;rw[r.any k];by_cases e:(vs.any λkv=>decide<|kv.1=k)=true
 ·rw[aM e,aM e];exact r.repl k ry
 ·rw[aJ e,aJ e];exact Paired.snoc r ⟨rfl,ry⟩
def KV.length{kvs:List<|κ×V}{vs:List<|κ×af}(r:KV kvs vs):kvs.length=vs.length:=jC r
end
def GZ{P:aj}{w:ah}{k:Key}(r:RelV (kV k) u):(k_ P w).is k u=true:=by
 cases k with
 | inl i=>obtain⟨t,e⟩:=(show ∃t,u=Value.int i t from r);subst e;exact HN P w i t
 | inr x=>obtain⟨t,e⟩:=(show ∃t,u=Value.str x t from r);subst e;exact Ht P w x t
theorem Dk{P:aj}{w:ah}:∀{ks:List Key}{us:bb},Vals (ks.map kV) us->ItemsAre (k_ P w) ks us
 | [],_,r=>by rw[ig]at r;cases r;exact .nil
 | k::ks,_,r=>by
  rw[bL]at r
  cases r with
  | cons h t=>exact .cons (GZ h)<|Dk t
meta abbrev KT (H:Hp):List (List Key×V)->List (List Key×ak×af)->Prop:=Paired λp q=>p.1=q.1/\H q.2.1=some (.tup<|p.1.map kV)/\RelV p.2 q.2.2
def KT.val{H:Hp}(r:KT H kvs xs)(k:List Key):zS (rV kvs k) ((atKey xs k).map (·.2)):=by
 induction r with
 | nil=>exact True.intro
 | @cons p q ps c h t f=>
  obtain⟨h1,_,h2⟩:=h;by_cases e:p.1=k
  ·have d:q.1=k:=h1.symm.trans e;have b:atKey (q::c) k=some q.2:=by simp[atKey,cC,d]
   rw[vD e,b];exact h2
  ·have d:¬q.1=k:=λz=>e<|h1.trans z;have b:atKey (q::c) k=atKey c k:=by simp[atKey,cC,d]
   rw[vn e,b];exact f
def KT.repl{H:Hp}{kvs:List<|List Key×V}{xs:List<|List Key×ak×af}(r:KT H kvs xs)(k:List Key)(ry:RelV y u) :
  KT H (kvs.map λkv=>if kv.1=k then(kv.1,y)else kv) (xs.map<|putAt k u):=by
 induction r with
 | nil=>exact .nil
 | @cons p q ps d h t c=>
  rw[bL,bL];refine .cons ?_ c;obtain⟨h1,h2,h3⟩:=h;unfold putAt;by_cases e:p.1=k
  ·rw[aM e,aM<|h1.symm.trans e];exact⟨h1,h2,ry⟩
  ·rw[aJ e,aJ λz=>e<|h1.trans z];exact⟨h1,h2,h3⟩
def KT.put{H:Hp}(r:KT H kvs xs)(k:List Key)(hb:H b=some (.tup<|k.map kV))(ry:RelV y u) :
  KT H (putK kvs k y) (storedH xs k b u):=by
 have e:(kvs.any λkv=>decide<|kv.1=k)=(atKey xs k).isSome:=by
  rw[yH,(r.val k).zE,iy]
 unfold putK storedH;rw[e];by_cases q:(atKey xs k).isSome=true
 ·rw[aM q,aM q];exact r.repl k ry
 ·rw[aJ q,aJ q];exact Paired.snoc r ⟨rfl,hb,ry⟩
def KT.keeps{H H':Hp}(r:KT H kvs xs)(ht:∀b ys,H b=some (.tup ys)->H' b=some (.tup ys)):KT H' kvs xs:=
 Paired.Zo r λ_ _ z=>⟨z.1,ht _ _ z.2.1,z.2.2⟩
section
variable {P:aj}{w:ah}{H:Hp}{h:aq}{a:ak}
def Yi(ok:xQ P w H h)(e:Rd H a u):lO P w H h a u:=e.ok ok
def Hq{kvs:List<|Key×V}(ok:xQ P w H h)(e:Rd H a<|.dK kvs):kvs.length<=sizeLine/\(a == sysModules)=false/\∃vs,KV kvs vs/\h.DictOf (k_ P w) a vs:=
 show lO P w H h a (.dK kvs)from Yi ok e
def Ys{kvs:List<|Key×V}(ok:xQ P w H h)(e:H a=some (.dK kvs)):kvs.length<=sizeLine/\(a == sysModules)=false/\∃vs,KV kvs vs/\h.DictOf (k_ P w) a vs:=Hq ok<|.inl e
def xw{ks:List Key}(ok:xQ P w H h)(e:H a=some (.tup<|ks.map kV)):(tupleKind<|k_ P w).is h ks a:=by
 obtain⟨_,c,r,o,h1,h2,_,n,h3⟩:=(show lO P w H h a (.tup<|ks.map kV)from ok a _ e);exact⟨o,c.toArray,n,h1,h2,h3,by simpa using Dk r⟩
def GV{kvs:List<|List Key×V}(ok:xQ P w H h)(e:Rd H a<|.dT kvs):kvs.length<=sizeLine/\(a == sysModules)=false /\
  ∃xs,KT H kvs xs/\h.DictOfH (tupleKind<|k_ P w) a xs:=by
 obtain⟨z,y,xs,r,o,es,ep,h1,h2,h3,j,g⟩:=(show lO P w H h a (.dT kvs)from Yi ok e);refine⟨z,y,xs,r,o,es,ep,h1,h2,h3,j,λx c=>?_,g⟩;have all:∀{l:List<|List Key×V} {m:List<|List Key×ak×af},KT H l m->∀x∈m,(tupleKind<|k_ P w).is h x.1 x.2.1:=by
  intro l m q
  induction q with
  | nil=>intro x c;exact nomatch c
  | @cons p q ps k d t f=>
   intro x c
   rcases bB.mp c with e|c
   ·subst e;exact xw ok (by rw[<- d.1];exact d.2.1)
   ·exact f x c
 exact all r x c
def Qz{kvs:List<|List Key×V}(ok:xQ P w H h)(e:H a=some (.dT kvs)):kvs.length<=sizeLine/\(a == sysModules)=false /\
  ∃xs,KT H kvs xs/\h.DictOfH (tupleKind<|k_ P w) a xs:=GV ok<|.inl e
end
abbrev xF (H:Hp)(a:ak)(y:V)(r:Option V):Prop:=
 (∃kvs k,Rd H a (.dK kvs)/\y=kV k/\r=rV kvs k)\/∃kvs k b,Rd H a (.dT kvs)/\y=.ref b/\H b=some (.tup<|k.map kV)/\r=rV kvs k
abbrev F0 (H:Hp)(a:ak)(y v:V)(H':Hp):Prop:=
 (∃kvs k,H a=some (.dK kvs)/\y=kV k/\kvs.length<sizeLine/\H'=upd H a (.dK<|putK kvs k v)) \/
 ∃kvs k b,H a=some (.dT kvs)/\y=.ref b/\H b=some (.tup<|k.map kV)/\kvs.length<sizeLine/\H'=upd H a (.dT<|putK kvs k v)
theorem xF.k{H:Hp}{a:ak}{k:Key}(e:H a=some (.dK kvs)):xF H a (kV k) (rV kvs k):=.inl ⟨kvs,k,.inl e,rfl,rfl⟩
def xF.t{H:Hp}{a:ak}{k:List Key}(e:H a=some (.dT kvs))(eb:H b=some (.tup<|k.map kV)):xF H a (.ref b) (rV kvs k):=.inr ⟨kvs,k,b,.inl e,rfl,eb,rfl⟩
theorem F0.k{H:Hp}{a:ak}{kvs:List<|Key×V}{k:Key}{v:V}(e:H a=some (.dK kvs))(hl:kvs.length<sizeLine):F0 H a (kV k) v (upd H a<|.dK<|putK kvs k v):=.inl ⟨kvs,k,e,rfl,hl,rfl⟩
def F0.t{H:Hp}{a:ak}{kvs:List<|List Key×V}{k:List Key}{v:V}(e:H a=some (.dT kvs))(eb:H b=some (.tup<|k.map kV))(hl:kvs.length<sizeLine) :
  F0 H a (.ref b) v (upd H a<|.dT<|putK kvs k v):=.inr ⟨kvs,k,b,e,rfl,eb,hl,rfl⟩
section
variable {X:Cx}{pins:bp}{σ:St}{H:Hp}{s:aC}{a:ak}{y v:V}{u r:af}{o:Option V}{A:aA}{E:af->aC->Prop}
def Inv.big(I:Inv X pins σ H s):sysModules<s.heap.objs.size:=by
 have h:mainGlobals<s.heap.objs.size:=(I.mod.glob.keeps I.bk).lt;exact iz ⋯ h
def M9{Q:af->aC->Prop}(hu:A.units+1<cLine)(I:Inv X pins σ H s)(g:xF H a y<|some v)(ry:RelV y u)(h:∀w' s',Inv X pins σ H s'->RelV v w'->Q w' s') :
  wpAny (model X.prog X.w) A (getItem (.ref a) u) Q E s:=by
 rcases g with⟨kvs,k,e,m,l⟩|⟨kvs,k,b,e,m,F,l⟩
 ·subst m;obtain⟨z,C,B,c,j⟩:=Hq I.hok e;obtain⟨w',hw,d⟩:=zS.some_of (v:=v) (o:=valueAt B k) (by rw[l];exact c.val k);exact wpAny_getItem_of (GZ ry) j.mapOf hw (h w' _ (I.tok _) d)
 ·subst m
  cases(show u=Value.ref b from ry)
  obtain⟨z,C,xs,c,j⟩:=GV I.hok e;obtain⟨w',hw,d⟩:=zS.some_of (v:=v) (o:=(atKey xs k).map (·.2)) (by rw[l];exact c.val k);obtain⟨p,q,f⟩:=bg.mp hw;refine wpAny_getItem_heap (fZ hu) (xw I.hok F) j q ?_;rw[f];exact h w' _ (I.tok _) d
def WQ{Q:af->aC->Prop}(hu:A.units+1<cLine)(I:Inv X pins σ H s)(g:xF H a y o)(ry:RelV y u)(h:∀s',Inv X pins σ H s'->Q (.bool<|!o.isSome) s') :
  wpAny (model X.prog X.w) A (compareOp .NotIn u<|.ref a) Q E s:=by
 rcases g with⟨kvs,k,e,d,l⟩|⟨kvs,k,b,e,d,m,l⟩
 ·subst d;obtain⟨z,j,p,c,f⟩:=Hq I.hok e;refine wpAny_notIn_of (GZ ry) j f.mapOf ?_;rw[<- (c.val k).zE,<- l];exact h _ (I.tok _)
 ·subst d
  cases(show u=Value.ref b from ry)
  obtain⟨z,j,xs,c,f⟩:=GV I.hok e;refine wpAny_notIn_heap (fZ hu) (xw I.hok m) j f ?_;have q:=(c.val k).zE;rw[iy]at q;rw[<- q,<- l];exact h _<|I.tok _
def Eb{h':aq}{t':Nat}{ob:HO}(I:Inv X pins σ H s)(mu:Mut<|H a)(hs:Heap.SameBut a s.heap h')(he:∃q,h'.get? a=some q)(new:lO X.prog X.w (upd H a ob) h' a ob) :
  Inv X pins σ (upd H a ob) { s with heap:=h',toks:=t' }:=
 I.write (x:=a) (e:=a) mu (.inl rfl) (λb q c z=>(hs.2 b c).trans z) he new
def QO{P:aj}{w:ah}{H':Hp}{h':aq}{kvs:List<|Key×V}(z:kvs.length<=sizeLine)(hd:(a == sysModules)=false)(rel:KV kvs vs)(dd:h'.DictOf (k_ P w) a vs) :
  lO P w H' h' a (.dK kvs):=⟨z,hd,vs,rel,dd⟩
def NQ{H':Hp}{Q:Unit->aC->Prop}(hu:A.units+1<cLine)(I:Inv X pins σ H s)(g:F0 H a y v H')(ry:RelV y u)(rv:RelV v r)(h:∀s',Inv X pins σ H' s'->Q Unit.unit s') :
  wpAny (model X.prog X.w) A (setItem (.ref a) u r) Q E s:=by
 rcases g with⟨kvs,k,e,F,l,G⟩|⟨kvs,k,b,e,F,K,l,G⟩
 ·subst F G;obtain⟨z,C,N,d,p⟩:=Ys I.hok e;have B:N.length<=sizeLine:=by rw[<- d.length];exact z
  have m:(putK kvs k v).length<=sizeLine:=by have:=sE kvs k v;lia
  refine wpAny_setItem_pairs (hsz:=B) (GZ ry) p λh' f hs=>h _ ?_;have M:∃q,h'.get? a=some q:=let⟨q,_,_,j,_⟩:=f;⟨q,j⟩
  exact Eb I (by rw[e];exact True.intro) hs M<|QO m C (d.put k rv) f
 ·subst F G
  cases(show u=Value.ref b from ry)
  obtain⟨z,C,xs,d,p⟩:=Qz I.hok e;have B:xs.length<=sizeLine:=by rw[<- jC d];exact z
  have m:(putK kvs k v).length<=sizeLine:=by have:=sE kvs k v;lia
  refine wpAny_setItem_heap (hsz:=B) (fZ hu) (xw I.hok K) p λh' f hs=>h _ ?_;obtain⟨q,es,ep,j,h2,h3,O,_,L⟩:=f;refine Eb I (by rw[e];exact True.intro) hs ⟨q,j⟩ ⟨m,C,_,(d.put k K rv).keeps λc ys J=>?_,q,es,ep,j,h2,h3,O,L⟩;rw[j8<|abI J e λz=>nomatch z];exact J
end
def Hj{X:Cx}{H:Hp}{s:aC}{a:ak}(I:Inv X pins σ H s)(g:xF H a y o):s.TypeIs (.ref a) "dict" := by
 rcases g with⟨kvs,k,e,_,_⟩|⟨kvs,k,b,e,_,_,_⟩
 ·obtain⟨_,_,d,_,c⟩:=Hq I.hok e;exact c.typeIs
 ·obtain⟨_,_,xs,_,c⟩:=GV I.hok e;exact c.typeIs
def OY{P:aj}{w:ah}{H:Hp}(h:aq)(hb:sysModules<h.objs.size):lO P w H (h.push { cls:=.type "dict",data:=.dict #[]}) h.objs.size (.dK []):=
 ⟨bY _,cV.mpr<|c9<|bD hb,[],.nil,Heap.DictOf.new h⟩
def SV{P:aj}{w:ah}{H:Hp}(h:aq)(hb:sysModules<h.objs.size):lO P w H (h.push { cls:=.type "dict",data:=.dict #[]}) h.objs.size (.dT []):=
 ⟨bY _,cV.mpr<|c9<|bD hb,[],.nil,_,#[],0,bz _ rfl,⟨rfl,rfl,rfl⟩,rfl,rfl,dR⟩
abbrev YB:TE:=λ_ H Q=>∀p,H p=none->Q (.ref p) (upd H p<|.dK [])
abbrev aaY:TE:=λ_ H Q=>∀p,H p=none->Q (.ref p) (upd H p<|.dT [])
section
variable {X:Cx}{pos:Pos}
def T9:PE X (.Dict [] [] pos) YB:=λpins s σ H Q I h=>
 wpAny_Dict_empty ⟨.ref s.heap.objs.size,_,I.laid (a:=s.heap.objs.size) (o:=.dK []) (t':=s.toks) (λ_ _ q=>aR _ q) (aP _)<|OY s.heap I.big,rfl,h _<|I.hok.fresh<|aP _⟩
def Qo:PE X (.Dict [] [] pos) aaY:=λpins s σ H Q I h=>
 wpAny_Dict_empty ⟨.ref s.heap.objs.size,_,I.laid (a:=s.heap.objs.size) (o:=.dT []) (t':=s.toks) (λ_ _ q=>aR _ q) (aP _)<|SV s.heap I.big,rfl,h _<|I.hok.fresh<|aP _⟩
end
structure M1 (X:Cx)(o:aE)(m:Str)(apos:Pos)(e:aE)(cpos:Pos):Prop where
 base:attributeBase o m X.env (eval o X.env)=eval o X.env
 few:((backTo cpos<|starEach [e] X.env).all (λx=>!x.1) && (backToKw cpos<|keywordEach [] X.env).all (λx=>x.1.isSome)
  && decide (([e]:List aE).length+([]:List Keyword).length+(if ([]:List Keyword).isEmpty then 0 else 1)<30))=true
 line:(apos.endLine == cpos.line)=true
 trees:backTo cpos (starEach [e] X.env)=[(false,eval e X.env)]
structure M2 (X:Cx)(o:aE)(m:Str)(apos:Pos)(e f:aE)(cpos:Pos):Prop where
 base:attributeBase o m X.env (eval o X.env)=eval o X.env
 few:((backTo cpos<|starEach [e,f] X.env).all (λx=>!x.1) && (backToKw cpos<|keywordEach [] X.env).all (λx=>x.1.isSome)
  && decide (([e,f]:List aE).length+([]:List Keyword).length+(if ([]:List Keyword).isEmpty then 0 else 1)<30))=true
 line:(apos.endLine == cpos.line)=true
 trees:backTo cpos (starEach [e,f] X.env)=[(false,eval e X.env),(false,eval f X.env)]
section
variable {X:Cx}{pins:bp}{σ:St}{H:Hp}{s:aC}{a:ak}{y d:V}{u r:af}{o:Option V}{A:aA}{E:af->aC->Prop}
def Z_{Q:af->aC->Prop}(hu:A.units+1<cLine)(I:Inv X pins σ H s)(g:xF H a y o)(ry:RelV y u)(rd:RelV d r)(h:∀w' s',Inv X pins σ H s'->RelV (o.getD d) w'->Q w' s') :
  wpAny (model X.prog X.w) A (call (.builtin "dict.get") [.ref a,u,r]) Q E s:=by
 rcases g with⟨kvs,k,e,j,l⟩|⟨kvs,k,b,e,j,p,l⟩
 ·subst j;obtain⟨z,m,q,c,f⟩:=Hq I.hok e;refine call_meetsIn cU f.typeIs iA (g_ _ _ _) (meets_dict_get_default (k_ X.prog X.w) a (GZ ry) m r) ⟨_,f.mapOf,h _ _ (I.tok _) ?_⟩;rw[l];exact(c.val k).getD rd
 ·subst j
  cases(show u=Value.ref b from ry)
  obtain⟨z,m,xs,c,f⟩:=GV I.hok e;refine call_meetsIn cU f.typeIs iA (g_ _ _ _) (meetsH_dict_get_default (tupleKind<|k_ X.prog X.w) a b m r) ⟨fZ hu,k,xs,xw I.hok p,f,h _ _ (I.tok _) ?_⟩;rw[l];exact(c.val k).getD rd
end
meta abbrev nj:=ag×ag
abbrev t6 (x:ag):Int:=reduceHash<|Builtin.Tuple.tupleHashOf<|x.map hashInt
abbrev LJ (k:nj):Int:=reduceHash<|Builtin.Tuple.tupleHashOf [t6 k.1,t6 k.2]
abbrev dpE (x:(nj×ak×af)):DictEntry:=⟨LJ x.1,.ref x.2.1,x.2.2⟩
abbrev xh (a:ak)(xs:List<|nj×ak×af)(h:aq):Prop:=(a == sysModules)=false/\xs.length<=sizeLine/\∃o es ep,h.get? a=some o/\o.ExactDict/\o.data=.dict es ep/\es.toList=xs.map dpE/\(xs.map (·.1)).Nodup
abbrev t_ (H:Hp)(b:ak)(k:nj):Prop:=∃r1 r2,H b=some (.tup [.ref r1,.ref r2])/\H r1=some (.tup<|k.1.map V.int)/\H r2=some (.tup<|k.2.map V.int)
section
variable {P:aj}{w:ah}{A:aA}{E:af->aC->Prop}{s:aC}
meta abbrev TK (h:aq)(x:ag)(a:ak):Prop:=∃o c n,h.get? a=some o/\o.cls=.type "tuple" /\ o.data=.seq c n/\IntsAre c.toList x
theorem Bw{P:aj}{w:ah}:∀{x:ag}{vs:bb},IntsAre vs x->ItemsAre (intKind P w) x vs
 | _,_,.nil=>.nil
 | _,_,.cons n t h=>.cons (intKind_is _ _ _ _)<|Bw h
def xJ{x:ag}{a:ak}:TK h x a->IsTupleKey (intKind P w) h x a:=λ⟨o,c,n,h1,h2,h3,d⟩=>⟨o,c,n,h1,h2,h3,Bw d⟩
theorem G5:∀{x y:ag}{vs:bb},IntsAre vs x->IntsAre vs y->x=y
 | _,_,_,.nil,.nil=>rfl
 | _,_,_,.cons n t h,.cons _ _ h'=>by rw[G5 h h']
abbrev wV (h:aq)(k:nj)(a:ak):Prop:=∃o n d c,h.get? a=some o/\o.cls=.type "tuple" /\ o.data=.seq #[.ref d,.ref c] n/\TK h k.1 d/\TK h k.2 c
def wV.ty{k:nj}{a:ak}(x:wV s.heap k a):s.TypeIs (.ref a) "tuple" := let⟨o,_,_,_,ho,hc,_⟩:=x;⟨o,ho,hc⟩
def TK.inj{a:ak}{x:ag}(hx:TK h x a)(hy:TK h y a):x=y:=by
 obtain⟨o,e,n,j,_,k,hi⟩:=hx;obtain⟨o',d,m,f,_,c,g⟩:=hy;obtain rfl:o=o':=aZ<|j.symm.trans f;rw[k]at c
 injection c with h1 _
 subst h1;exact G5 hi g
def wV.inj{a:ak}{x:nj}(hx:wV h x a)(hy:wV h y a):x=y:=by
 obtain⟨o,n,C,q,j,_,k,h1,h2⟩:=hx;obtain⟨o',p,m,B,f,_,c,d,g⟩:=hy;obtain rfl:o=o':=aZ<|j.symm.trans f;rw[k]at c
 injection c with e _
 have e:=dQ Array.toList e
 injection e with e1 e2
 injection e2 with e2 _
 injection e1 with e1
 injection e2 with e2
 subst e1 e2;exact Prod.ext (h1.inj d)<|h2.inj g
def Hu{h:aq}{x:ag}{a d:ak}{o:Obj}{es ep}(k:TK h x a)(ho:h.get? d=some o)(hd:o.data=.dict es ep)(hs:Heap.SameBut d h h'):TK h' x a:=by
 obtain⟨o',c,n,f,hc,e,hi⟩:=k;have g:a≠d:=by
  rintro rfl;obtain rfl:o'=o:=aZ<|f.symm.trans ho;rw[hd]at e;exact nomatch e
 exact⟨o',c,n,(hs.2 a g).trans f,hc,e,hi⟩
def wV.keeps{h:aq}{k:nj}{a d:ak}{o:Obj}{es ep}(x:wV h k a)(ho:h.get? d=some o)(hd:o.data=.dict es ep)(hs:Heap.SameBut d h h'):wV h' k a:=by
 obtain⟨o',n,j,g,e,hc,c,h1,h2⟩:=x;have f:a≠d:=by
  rintro rfl;obtain rfl:o'=o:=aZ<|e.symm.trans ho;rw[hd]at c;exact nomatch c
 exact⟨o',n,j,g,(hs.2 a f).trans e,hc,c,Hu h1 ho hd hs,Hu h2 ho hd hs⟩
def Nv{k:nj}{a:ak}{Q:Int->aC->Prop}(hu:A.units+8<cLine)(hk:wV s.heap k a)(h:Q (LJ k) { s with toks:=s.toks+(k.1.length+1+(k.2.length+1)+1)}) :
  wpAny (model P w) A (pyHash<|.ref a) Q E s:=by
 have f:=hk.ty;obtain⟨o,n,p,g,j,_,m,h1,h2⟩:=hk;unfold pyHash
 first|unfold pyHashByItsType|skip
 first|refine aG (wpAny_cRoomFor_or (.inr<|by omega) ?_)|skip
 refine aG<|fu f iB.lookup ?_;show wpAny _ _ (if (some (Value.builtin "tuple.__hash__") == some Value.none)=true then _ else _) Q E s;rw[aJ<|by rw[beq_builtin_none];exact bR];refine aG<|fu f iB.lookup ?_;show wpAny _ _ (callSpecialIfBoundUnlessNone? (.ref a) "__hash__" _ >>= _) Q E s;refine aG<|wpAny_callSpecialIfBoundUnlessNone?_slot f iB<|cN iB f F.entry_tuple_hash ?_<|F.args_tuple_hash_1 _;show wpAny _ _ (Builtin.Tuple.tupleItemsOf (.ref a) >>= _) _ _ s;refine aG<|jo j m ?_;refine aG ?_;rw[<- jq];refine iR _
  (λrest (b:Array Int) s'=>(rest=[.ref p,.ref g]/\b.toList=[]/\s'=s)\/(rest=[.ref g]/\b.toList=[t6 k.1]/\s'={ s with toks:=s.toks+(k.1.length+1)})\/(rest=[]/\b.toList=[t6 k.1,t6 k.2]/\s'={ s with toks:=s.toks+(k.1.length+1)+(k.2.length+1)}))
  _ ?_ ?_ _ _ (.inl ⟨rfl,rfl,rfl⟩)
 ·rintro x rest b s' (⟨e,c,rfl⟩|⟨e,c,rfl⟩|⟨e,_,_⟩)
  ·cases e
   refine aG (wpAny_pyHash_tuple (knd:=intKind P w) (ks:=k.1) (by simp;omega) (xJ h1) ?_)
   first
    | exact aQ (.inr<|.inl ⟨rfl,by rw[gr,c];rfl,rfl⟩)
    | exact aG<|aQ<|aQ<|.inr<|.inl ⟨rfl,by rw[gr,c];rfl,rfl⟩
  ·cases e
   refine aG (wpAny_pyHash_tuple (knd:=intKind P w) (ks:=k.2) (by simp;omega) (xJ h2) ?_)
   first
    | exact aQ (.inr<|.inr ⟨rfl,by rw[gr,c];rfl,rfl⟩)
    | exact aG<|aQ<|aQ<|.inr<|.inr ⟨rfl,by rw[gr,c];rfl,rfl⟩
  ·cases e
 ·rintro b s' (⟨e,_,_⟩|⟨e,_,_⟩|⟨_,c,rfl⟩)
  ·cases e
  ·cases e
  ·show wpAny _ _ (retInt<|Builtin.Tuple.tupleHashOf b.toList) _ _ _;rw[c];refine wpAny_ret_mkInt ?_;show wpAny _ _ (if (decide (-(2:Int) ^ 63<=Builtin.Tuple.tupleHashOf [t6 k.1,t6 k.2]) && decide (Builtin.Tuple.tupleHashOf [t6 k.1,t6 k.2]<2 ^ 63))=true then _ else _) Q E _;unfold LJ reduceHash at h;by_cases d:(decide (-(2:Int) ^ 63<=Builtin.Tuple.tupleHashOf [t6 k.1,t6 k.2]) && decide (Builtin.Tuple.tupleHashOf [t6 k.1,t6 k.2]<2 ^ 63))=true
   ·rw[aM d];rw[aM d]at h;exact aQ (by simpa[gf]using h)
   ·rw[aJ d];rw[aJ d]at h;exact aG<|d_<|aQ<|by simpa[gf]using h
def Er{x:nj}{a:ak}{R:Fin->aC->Prop}(hu:A.units+8<cLine)(hx:wV s.heap x a)(hy:wV s.heap y b)(h:R (.done<|.ret<|.bool<|decide<|x=y) s) :
  wpAny (model P w) A (Builtin.«tuple.__eq__» ⟨[.ref a,.ref b],[]⟩) R E s:=by
 have p:=hy.ty;obtain⟨L,na,J,B,m,_,k,h1,h2⟩:=hx;obtain⟨K,nb,F,C,g,_,j,d,q⟩:=hy;show wpAny _ _ (isInstance (.ref b) (.type "tuple") >>= _) _ _ s;refine aG<|gD p iM ?_;dsimp[b_,a_,bU];refine aG<|jo m k ?_;refine aG<|jo g j ?_;refine aG ?_;refine iR _
  (λrest r s'=>r.1=none/\s'=s/\((rest=[(.ref J,.ref F),(.ref B,.ref C)])\/(rest=[(.ref B,.ref C)]/\x.1=y.1)\/(rest=[]/\x=y)))
  _ ?_ ?_ _ _ ⟨rfl,rfl,.inl rfl⟩
 ·rintro⟨u,v⟩ rest r s' ⟨f,rfl,e|⟨e,G⟩|⟨e,_⟩⟩
  ·cases e
   refine aG<|wpAny_eqBool_tuple (knd:=intKind P w) (x:=x.1) (y:=y.1) () (xJ h1) (xJ d) ?_;by_cases c:x.1=y.1
   ·rw[aW c];dsimp[b_,a_,bU];exact aQ ⟨rfl,rfl,.inr<|.inl ⟨trivial,c⟩⟩
   ·rw[bq c];dsimp[cP,cK];rw[bq λz=>c<|by rw[z]]at h;exact aG<|aQ<|aQ<|aQ h
  ·cases e
   refine aG<|wpAny_eqBool_tuple (knd:=intKind P w) (x:=x.2) (y:=y.2) () (xJ h2) (xJ q) ?_;by_cases c:x.2=y.2
   ·rw[aW c];dsimp[b_,a_,bU];exact aQ ⟨rfl,rfl,.inr<|.inr ⟨trivial,Prod.ext G c⟩⟩
   ·rw[bq c];dsimp[cP,cK];rw[bq λz=>c<|by rw[z]]at h;exact aG<|aQ<|aQ<|aQ h
  ·cases e
 ·rintro⟨r1,r2⟩ s' ⟨f,rfl,e|⟨e,_⟩|⟨_,e⟩⟩
  ·cases e
  ·cases e
  ·simp only at f;subst f;refine aQ ?_;rw[aW e]at h;exact h
def VQ{x:nj}{a:ak}{Q:Bool->aC->Prop}(hu:A.units+16<cLine)(hx:wV s.heap x a)(hy:wV s.heap y b)(h:Q (decide<|x=y) s):wpAny (model P w) A (eqBool (.ref a)<|.ref b) Q E s:=by
 unfold eqBool
 try with_reducible refine dw ?_
 show wpAny _ _ (if (Value.ref a == Value.ref b)=true then _ else _) Q E s;by_cases c:(Value.ref a == Value.ref b)=true
 ·rw[aM c];have e:a=b:=by have:=eq_of_beq c;injection this
  subst e;obtain rfl:=hx.inj hy;exact aG<|d_<|aQ<|by simpa using h
 ·rw[aJ c];exact aG (wpAny_richCompare_same_room (op:=.Eq) hx.ty hy.ty jb
   (cN jb hx.ty F.entry_tuple_eq (Er (by simp;lia) hx hy ⟨_,rfl,(λe=>nomatch e),dI h⟩)<|F.args_tuple_eq_2 _ _) ())
def SW{n:Nat}{x:ag}{a:ak}{Q:Bool->aC->Prop}(hk:TK s.heap x a)(h:Q true s):wpAny (model P w) A (eqIsQuiet (n+1)<|.ref a) Q E s:=by
 have hk:=xJ (P:=P) (w:=w) hk;have g:=hk.typeIs;obtain⟨o,d,m,j,_,k,hi⟩:=hk;unfold eqIsQuiet;refine aG<|fu g jb.lookup ?_;show wpAny _ _ (isInstance (.ref a) (.type "tuple") >>= _) _ _ s;refine aG<|gD g iM ?_;dsimp[b_,a_,bU];refine aG<|fS j k ?_;refine aG ?_;show wpAny _ _ (forIn d _ _) _ _ s;rw[<- jq];refine iR _ (λrest r s'=>r.1=none/\s'=s/\∀v∈rest,carriedByValue v=true) _ ?_ ?_ _ _ ⟨rfl,rfl,hi.byValue⟩
 ·rintro v rest r s' ⟨e,rfl,c⟩;rw[eqIsQuiet_byValue _<|c v aK];refine aG<|aQ ?_;dsimp[b_,a_,bU];exact aQ ⟨rfl,rfl,λu f=>c u<|aO _ f⟩
 ·rintro⟨r1,r2⟩ s' ⟨e,rfl,_⟩;simp only at e;subst e;exact aQ h
def IS{k:nj}{a:ak}{Q:Bool->aC->Prop}(hk:wV s.heap k a)(h:Q true s):wpAny (model P w) A (eqIsQuiet 8<|.ref a) Q E s:=by
 have j:=hk.ty;obtain⟨o,m,q,p,B,_,C,h1,h2⟩:=hk;unfold eqIsQuiet;refine aG<|fu j jb.lookup ?_;show wpAny _ _ (isInstance (.ref a) (.type "tuple") >>= _) _ _ s;refine aG<|gD j iM ?_;dsimp[b_,a_,bU];refine aG<|fS B C ?_;refine aG ?_;show wpAny _ _ (forIn (#[Value.ref q,.ref p]:Array af) _ _) _ _ s;rw[<- jq];refine iR _ (λrest r s'=>r.1=none/\s'=s/\∀v∈rest,∃c x,v=Value.ref c/\TK s.heap x c) _ ?_ ?_ _ _ ⟨rfl,rfl,λv hv=>by
  rcases bB.mp hv with e|hv
  ·exact⟨q,k.1,e,h1⟩
  ·exact⟨p,k.2,by simpa using hv,h2⟩⟩
 ·rintro v rest r s' ⟨f,rfl,d⟩;obtain⟨c,x,rfl,F⟩:=d v aK;refine aG<|SW F ?_;dsimp[b_,a_,bU];exact aQ ⟨rfl,rfl,λu g=>d u<|aO _ g⟩
 ·rintro⟨r1,r2⟩ s' ⟨f,rfl,_⟩;simp only at f;subst f;exact aQ h
end
abbrev Ga (P:aj)(w:ah):HeapKind P w nj where
 is:=wV
 hash:=LJ
 draws:=λk=>k.1.length+1+(k.2.length+1)+1
 room:=λA=>A.units+16<cLine
 inj:=λc e=>c.inj e
 keeps:=λx g j hs=>x.keeps g j hs
 pyHash:=λf d h=>Nv () d h
 eqBool:=λf c e h=>VQ f c e h
 quiet:=λd h=>IS d h
section
variable {X:Cx}
def Lp(hu:X.A.units+1<cLine):UD X (λx y H Q=>∃a v,x=.ref a/\xF H a y (some v)/\Q v H):=by
 intro value slice pins s σ H x y v u Q I rx ry h hs;obtain⟨a,z,rfl,g,q⟩:=h
 cases rx
 have e:=Hj I g;unfold subscriptTail;refine aG ?_;rw[getitemInPython_of_ne e.not_modules];refine aG<|fu e PySem.F.slot_dict_getitem.lookup ?_;have fin:wpAny (model X.prog X.w) X.A (subscripted slice false (.ref a) u) (λr c=>wpAny (model X.prog X.w) X.A (letTemporaryGo value (.ref a) r >>= λ_=>pure r) (EP X pins σ Q) X.xe c) X.xe s:=by
  rw[hs];exact wpAny_operating<|M9 hu I g ry λj k f d=>aG<|wpAny_letTemporaryGo<|aQ ⟨z,H,f,d,q⟩
 first
  | exact aQ (aG fin)
  | exact aG (aQ<|aG fin)
  | exact aG fin
def Oe(hu:X.A.units+1<cLine):pH X (compareOp .NotIn) (λy x H Q=>∃a o,x=.ref a/\xF H a y o/\Q (.bl<|!o.isSome) H):=by
 intro pins s σ H y x v u Q I ry rx h;obtain⟨a,o,rfl,g,q⟩:=h
 cases rx
 exact WQ hu I g ry λd c=>⟨.bl<|!o.isSome,H,c,rfl,q⟩
def set_dict(hu:X.A.units+1<cLine):EA X (λo i v H Q=>∃a H',o=.ref a/\F0 H a i v H'/\Q H'):=by
 intro pins s σ H o i v ov iv u Q I e d f h;obtain⟨a,H',rfl,g,q⟩:=h
 cases e
 exact NQ hu I g d f λj c=>⟨H',c,q⟩
abbrev ab0:V->List V->Hp->VK->Prop:=λx c H Q=>∃a b ks kvs y,x=.ref a/\c=[.ref b,y]/\H a=some (.dT kvs)/\H b=some (.tup<|ks.map kV)/\Q ((rV kvs ks).getD y) H
def Wl(hu:X.A.units+1<cLine):MtM X "dict.get" ab0:=by
 intro pins s σ H x B v us Q I rx d h;obtain⟨a,b,ks,kvs,y,rfl,rfl,k,p,q⟩:=h
 cases rx
 cases d with
 | @cons _ C _ NV r1 d=>
  cases d with
  | @cons _ m _ CT r2 d=>
   cases d
   cases r1
   obtain⟨z,j,xs,e,f⟩:=Qz I.hok k;refine call_meetsIn cU f.typeIs iA (g_ _ _ _) (meetsH_dict_get_default (tupleKind<|k_ X.prog X.w) a b j m) ⟨fZ hu,ks,xs,xw I.hok p,f,?_⟩;refine⟨(rV kvs ks).getD y,H,I.tok _,?_,q⟩;have c:=e.val ks
   cases e1:rV kvs ks with
   | none=>
    rw[e1]at c
    cases e2:(atKey xs ks).map (·.2)with
    | none=>exact r2
    | some g=>rw[e2]at c;exact c.elim
   | some F=>
    rw[e1]at c
    cases e2:(atKey xs ks).map (·.2)with
    | none=>rw[e2]at c;exact c.elim
    | some g=>rw[e2]at c;exact c
end
section
theorem kt_at{H:Hp}:∀{kvs:List<|List Key×V}{xs:List<|List Key×ak×af},KT H kvs xs->kvs.length=xs.length/\∀(i:Nat) (p:List Key×V),kvs[i]?=some p->∃y:List Key×ak×af,xs[i]?=some y/\p.1=y.1/\H y.2.1=some (.tup<|p.1.map kV)/\RelV p.2 y.2.2
 | [],[],_=>⟨rfl,λi p h=>by simp at h⟩
 | [],_::_,r=>nomatch r
 | _::_,[],r=>nomatch r
 | a::kvs,b::xs,.cons z r=>by
  obtain⟨l,q⟩:=kt_at r;refine⟨by simp[l],λi p h=>?_⟩
  cases i with
  | zero=>
   have:a=p:=by simpa using h
   subst this;exact⟨b,rfl,z⟩
  | succ i=>exact q i p<|by simpa using h
end
abbrev C0 (e:ak)(h:aq):Prop:=∃o c,h.get? e=some o/\o.data=.fields c/\c[2]?=some .none/\o.dict=none
structure Fly (l:List Env)(g:aq)(pn:bp)(H:Hp)(e:ak)(cls:af)(h:aq):Prop where
 ex:∃(B:aq) (a0:af),Heap.FlyingW B l e cls a0 h/\(∀a u,H a=some u->∃o,B.get? a=some o)/\(∀b o,g.get? b=some o->b∉frs l->∃o',B.get? b=some o')/\(∀p∈pn,∃o',B.get? p.1=some o')/\C0 e h
structure Made (X:Cx)(H:Hp)(e:ak)(cls:af)(g:aq)(h:aq):Prop where
 ex:∃(g':aq) (vs:bb),Heap.MadeExcOf g' h e cls vs/\g'.FunFrames X.base X.stack/\(∀a u,H a=some u->∃o,g'.get? a=some o)/\(∀b o,g.get? b=some o->∃o',g'.get? b=some o')/\(∀p∈X.pn,∃o',g'.get? p.1=some o')
abbrev Zp (X:Cx)(H:Hp)(e:ak)(cls:af)(s':aC):Prop:=Made X H e cls X.s₀.heap s'.heap\/Fly X.stack X.s₀.heap X.pn H e cls s'.heap
section
abbrev EX (X:Cx):XK:=λcls _ H'=>X.ex=[]/\∀pins c s' e,Inv X pins c H' s'->Zp X H' e cls s'->X.xe (.ref e) s'
end
inductive FParts (X:Cx):List aE->List (Str ⊕ TE)->Prop
 | nil:FParts X [] []
 | txt {x:Str} {j pos} {es:List aE} {ps:List<|Str ⊕ TE} (h:FParts X es ps):FParts X (.Constant (.str x) j pos::es) (.inl x::ps)
 | val {e:aE} {pos:Pos} {t:TE} {es:List aE} {ps:List<|Str ⊕ TE} (he:PE X e t) (h:FParts X es ps):FParts X (.FormattedValue e (-1) none pos::es) (.inr t::ps)
abbrev xu:HO:=.ext λ_=>True
structure XO (C:ak)(o:Obj):Prop where
 cls:o.cls=.ref C
 dict:o.dict=none
 ctx:∃vs,o.data=.fields vs/\vs[2]?=some .none
structure Fr0 (X:Cx)(e:ak):Prop where
 no:∀o,X.s₀.heap.get? e≠some o
 tup:∀xs,X.H₀ e≠some (.tup xs)
 frz:∀o u,X.H₀ e≠some (.frz o u)
 tbl:∀ps,X.H₀ e≠some (.tbl ps)
abbrev mroIn (K:au)(C:ak):Option (bb):=match K.lookup C with
 | some ⟨.type "type",_,.cls cd,sl⟩=>(match cd.mro,sl.toList with
  | .ref C'::bm,[_,_,_,_,some<|.builtin _,_]=>if C'=C/\cd.hasDel=false then some bm else none
  | _,_=>none)
 | _=>none
structure ClsAt (h:aq)(C:ak)(bm:bb):Prop where
 ex:∃nm q N bs hdct sn sub ab col dd k0 k1 k2 k3 k5 newId,h.get? C=some (excClassObj nm q C N bs bm hdct sn sub ab col dd k0 k1 k2 k3 k5 newId)
open PySem.W in
structure XCls (K:au)(C:ak):Prop where
 ga:findIn K (.ref C) "__getattribute__" = some (some<|.builtin "BaseException.__getattribute__")
 gt:findIn K (.ref C) "__getattr__" = some none
 fc:findObj K C none "__class__" = some (.bind (.builtin "getset_descriptor.__get__")<|.builtin "object.__class__")
 ob:PySem.W.mroIn K C (.type "object")=some true
 bs:subIn K (.ref C) (.type "BaseException")=some true
abbrev ZG (A:aA):aA:={ A with handled:=none }
abbrev ab3 (k:Nat)(A:aA):Prop:=Room k<|ZG A
structure Hnd (A:aA)(H:Hp)(e:ak)(oe:Obj)(C:ak):Prop where
 hh:A.handled=some (.ref e)
 h0:H e=some (.frz oe xu)
 xo:XO C oe
structure FnOkH (P:aj)(w:ah)(K:au)(mg:Str->bi)(base:aq)(k:Nat)(f:ak)(fd:FuncData)(ps:ba)(sp:Sp):Prop where
 len:∀vs H Q E,sp vs H Q E->vs.length=ps.length
 run:∀(A:aA) (outer:List Env) (s:aC) (H:Hp) (args:Args) (us:bb) (vs:List V) (Q:VK) (e:ak) (oe:Obj) (C:ak),ab3 k A->Hnd A H e oe C->Env0 P w K mg base A outer s H->BindsTo s fd args (ps.zip us)->Vals vs us->sp vs H Q E0 ->
  codeAny (model P w) A (.call (.ref f) args) (CR qi outer P w H s Q E0) s
end L2
namespace L2
open PySem PySem.Spec PyProof.Rows PySem.SeqAt
def F2:bootBuiltins "reversed" = some (.type "reversed"):=by decide +kernel
def owner_lri:Manifest.owners.lookup (String.ofList ['r','o','t','a','r','e','t','i','e','s','r','e','v','e','r','_','t','s','i','l'].reverse)=some Manifest.sig_list_reverseiterator:=by kernel_rfl
def slot_lri_next:Slot "list_reverseiterator" "__next__" "list_reverseiterator.__next__" :=
 .of (owner := "list_reverseiterator") (n := "__next__") (by rw[jc,gp];kernel_rfl) ∅ ∅ ∅
  (by first|exact .inl ∅|exact .inr ∅) (by rw[gz];kernel_rfl)
def entry_lri_next:entryFor table "list_reverseiterator.__next__" = some Builtin.«list_reverseiterator.__next__»:=entryFor_of_tree<|by kernel_rfl
def w6(a:af):argsOk "list_reverseiterator.__next__" ⟨[a],[]⟩:=by
 unfold argsOk;rw[signature?_of (id := "list_reverseiterator.__next__") (n:=['_','_','t','x','e','n','_','_']) (o:=['r','o','t','a','r','e','t','i','e','s','r','e','v','e','r','_','t','s','i','l']) (by kernel_rfl) owner_lri];kernel_rfl
def slot_lri_iter:Slot "list_reverseiterator" "__iter__" "list_reverseiterator.__iter__" :=
 .of (owner := "list_reverseiterator") (n := "__iter__") (by rw[jc,gp];kernel_rfl) ∅ ∅ ∅
  (by first|exact .inl ∅|exact .inr ∅) (by rw[gz];kernel_rfl)
def entry_lri_iter:entryFor table "list_reverseiterator.__iter__" = some Builtin.«dict_keyiterator.__iter__»:=
 entryFor_alias (id' := "dict_keyiterator.__iter__") (by kernel_rfl) (by first|rfl|decide +kernel|(unfold String.splitOn;simp +decide [String.splitOnAux])) ∅ (by kernel_rfl)
def CI(a:af):argsOk "list_reverseiterator.__iter__" ⟨[a],[]⟩:=by
 unfold argsOk;rw[signature?_of (id := "list_reverseiterator.__iter__") (n:=['_','_','r','e','t','i','_','_']) (o:=['r','o','t','a','r','e','t','i','e','s','r','e','v','e','r','_','t','s','i','l']) (by kernel_rfl) owner_lri];kernel_rfl
def xC:Slot "reversed" "__init__" "object.__init__" :=
 .of (owner := "object") (n := "__init__") (by rw[jc,gp];kernel_rfl) ∅ ∅ ∅
  (by first|exact .inl ∅|exact .inr ∅) (by rw[gz];kernel_rfl)
def mro_reversed:mroOf (.type "reversed")=pure [.type "reversed",.type "object"]:=by rw[mroOf_type];kernel_rfl
def lookup_reversed_new:typeLookup (.type "reversed") "__new__" = pure (some<|.builtin "reversed.__new__"):=by rw[jc,gp];kernel_rfl
def Ag:TypeCalled "reversed" "reversed.__new__" "object.__init__" :=
 ⟨by decide +kernel,by decide +kernel,⟨_,_,mro_reversed⟩,madeBy_type mro_reversed lookup_reversed_new ∅,by decide +kernel,by rw[gz];kernel_rfl,xC⟩
def typeCall_reversed_1(a:af):checkTypeCall "reversed" ⟨[a],[]⟩=pure Unit.unit:=by kernel_rfl
def newCall_reversed_1(a:af):checkBuiltinCall "reversed.__new__" ⟨[.type "reversed",a],[]⟩=pure Unit.unit:=by kernel_rfl
def entry_reversed_new:entryFor table "reversed.__new__" = some Builtin.«reversed.__new__»:=entryFor_of_tree<|by kernel_rfl
def sub_lri_reversed:isSubtype (.type "list_reverseiterator") (.type "reversed")=pure false:=by rw[gz];kernel_rfl
def FW:isSubtype (.type "reversed") (.type "reversed")=pure true:=by rw[gz];kernel_rfl
section
variable {prog:aj}{w:ah}{A:aA}{E:af->aC->Prop}{s:aC}
def callType_other{Q:af->aC->Prop}(ft:TypeCalled T newId "object.__init__")
  (hct:checkTypeCall T ⟨args,[]⟩=pure Unit.unit) (hcn:checkBuiltinCall newId ⟨.type T::args,[]⟩=pure Unit.unit)
  (entryN:entryFor table newId=some Bn) (g:Meets (Bn ⟨.type T::args,[]⟩) S) (hns:isSubtype (.type T') (.type T)=pure false)
  (h:S A.in1 (wants (λobj s₁=>s₁.TypeIs obj T'/\Q obj s₁) E) s):wpAny (model prog w) A (call (.type T) args) Q E s:=by
 obtain⟨c,tl,j⟩:=ft.mro;have d:=ft.made;refine wpAny_call (codeAny_of_tree ?_)
 skip
 refine aQ ⟨Code.quiet_builtin _ ∅,fq F.entry_type_call ?_⟩;rw[Around.under_plain (weight_type_call_type T args [])<|units_type_call_type T args []];have h1:=ft.notType;have h2:=ft.canCreate
 repeat (any_goals (first|assumption|wp_step))
 refine ji (codeAny_call_builtin ft.plain entryN<|iZ hcn<|g prog w A.in1 _ s h) λr s₁ f=>?_
 cases r with
 | error e=>exact f
 | ok fl=>
  cases fl with
  | ret obj=>
   obtain⟨m,k⟩:=f
   repeat (any_goals (first|assumption|wp_step))
  | _=>exact f.elim
end
abbrev vg (h:aq)(a l:ak)(i:Int):Prop:=∃o,h.get? a=some o/\o.cls=.type "list_reverseiterator" /\ o.data=.fields #[.ref l,rawInt i]
def vg.typeIs{s:aC}{a l:ak}{i:Int}(x:vg s.heap a l i):s.TypeIs (.ref a) "list_reverseiterator" := let⟨o,ho,hc,_⟩:=x;⟨o,ho,hc⟩
def vg.at{h h':aq}{a l:ak}{i:Int}(x:vg h a l i)(k:∀o,h.get? a=some o->h'.get? a=some o):vg h' a l i:=let⟨o,ho,r⟩:=x;⟨o,k o ho,r⟩
section
variable {prog:aj}{w:ah}{A:aA}{E:af->aC->Prop}{s:aC}
def Ci{l:ak}{i:Int}{Q:af->aC->Prop}(hz:vg s.heap it l i)(h:Q (.ref it) s):wpAny (model prog w) A (pyIter<|.ref it) Q E s:=by
 refine wpAny_pyIter_slot hz.typeIs slot_lri_iter (cN slot_lri_iter hz.typeIs entry_lri_iter ?_<|CI _)
 skip
 exact aQ ⟨_,rfl, "list_reverseiterator",_,hz.typeIs,slot_lri_next.lookup,h⟩
def Ai{l:ak}{i:Nat}{x:af}{Q:bi->aC->Prop}(hit:vg s.heap it l i)
  (ht:s.heap.IsList l items) (hx:items[i]?=some x) (hQ:∀h',vg h' it l ((i:Int)-1)->Heap.SameBut it s.heap h'->Q (some x) { s with heap:=h' }) :
  wpAny (model prog w) A (pyNext<|.ref it) Q E s:=by
 obtain⟨o,d,hc,c⟩:=id hit;obtain⟨j,e,_,g,f⟩:=ht;unfold pyNext;refine aG (iW (dm (name:=Str.ofString "__next__") hit.typeIs slot_lri_next
  (cN slot_lri_next hit.typeIs entry_lri_next ?_<|w6 _)))
 show wpAny _ _ (field (.ref it) 1 >>= _) _ _ s;refine aG<|fB d c (x:=rawInt i) rfl ?_;show wpAny _ _ (if (i:Int)<0 then _ else _) _ _ s;rw[aJ ()]
 skip
 refine aG (fB d c (x:=.ref l) rfl ?_)
 skip
 refine aG<|fS e f ?_;dsimp[c7,hx];refine aG (iu d c (by simp)<|aQ ⟨x,rfl,aQ<|hQ _ ?_<|fO ..⟩);exact⟨_,gh _ d<|iL<|eZ c _,(jz ..).trans hc,by
  rw[eZ c];simp[rawInt]⟩
def BQ{l:ak}{i:Int}{Q:bi->aC->Prop}(hh:A.handled=none)(hit:vg s.heap it l i)(hi:i<0)
  (hQ:∀h',(∀b o,s.heap.get? b=some o->h'.get? b=some o)->Q none { s with heap:=h' }):wpAny (model prog w) A (pyNext<|.ref it) Q E s:=by
 obtain⟨o,c,hc,d⟩:=id hit;unfold pyNext;refine aG (iW (dm (name:=Str.ofString "__next__") hit.typeIs slot_lri_next
  (cN slot_lri_next hit.typeIs entry_lri_next ?_<|w6 _)))
 show wpAny _ _ (field (.ref it) 1 >>= _) _ _ s;refine aG<|fB c d (x:=rawInt i) rfl ?_;show wpAny _ _ (if i<0 then _ else _) _ _ s;rw[aM hi];refine aG<|d_ ?_;refine aG ?_
 skip
 refine aG ?_;dsimp[newExc,newTuple];refine aG (cA ?_<|by size_fits);refine aG (m:=firstArgMember _ _) (iZ (a:=Value.none) (by first|rfl|(dsimp[firstArgMember];rfl)) ?_);refine cA ?_ (by size_fits);dsimp[raiseNew];refine aG (wpAny_handled ?_)
 first|rw[show A.in1.handled=none from hh]|rw[hh]
 refine aG<|aQ<|wpAny_throw ?_;refine aG<|gD (T := "StopIteration") (b:=true) ⟨_,bz _ rfl,rfl⟩ isSubtype_stop ?_;exact aQ<|hQ _ λb o e=>aR _<|aR _ e
end
def M0(l:ak)(items:Array af)(n:Nat)(dd:Option ak)(sl:Array<|bi) :
  Meets (Builtin.«list.__reversed__» ⟨[.ref l],[]⟩) (λ_ R s=>s.heap.get? l=some { cls:=.type "list",dict:=dd,data:=.seq items n,slots:=sl }/\R (.ok<|.ret<|Value.ref s.heap.objs.size) { s with heap:=s.heap.push { cls:=Value.type "list_reverseiterator",data:=Data.fields #[Value.ref l,rawInt<|((items.size:Nat):Int)-1]},toks:=s.toks }):=
 .of_wp λprog w A R s h=>by obtain⟨j,g,d,e,f⟩:=s;obtain⟨c,h⟩:=h;wp_walk using cT c;exact⟨_,rfl,h⟩
def Cz(l:ak)(items:Array af)(n:Nat)(dd:Option ak)(sl:Array<|bi) :
  Meets (Builtin.«reversed.__new__» ⟨[.type "reversed",.ref l],[]⟩) (λ_ R s=>s.heap.get? l=some { cls:=.type "list",dict:=dd,data:=.seq items n,slots:=sl } /\
   R (.ok<|.ret<|.ref s.heap.objs.size) { s with heap:=s.heap.push { cls:=Value.type "list_reverseiterator",data:=Data.fields #[Value.ref l,rawInt<|((items.size:Nat):Int)-1]}}):=
 .of_wp λprog w A R s h=>by
  obtain⟨p,g,d,j,k⟩:=s;obtain⟨c,h⟩:=h;have f:=FW;have e:=i6.lookup;have m:Shared.TypeIs ⟨p,g,d,j,k⟩ (.ref l) "list" := ⟨_,c,rfl⟩
  wp_walk using cT c,fu m e
  refine iZ (i6.bind<|.ref l) ?_;show wpAny _ _ (if (Value.builtin "list.__reversed__" == Value.none)=true then _ else _) _ _ _;rw[aJ<|show ¬((Value.builtin "list.__reversed__" == Value.none)=true)from by decide];refine aG (d_ ?_)
  skip
  refine aG<|jm i6 ⟨_,c,rfl⟩ F.entry_list_reversed (F.args_list_reversed_1 _) (M0 l items n dd sl) ⟨c,?_⟩;exact aQ ⟨_,rfl,h⟩
abbrev Itv (K:au)(a:ak)(n:Nat):It:=
 ⟨λi H=>i<n/\∃xs x,qj K H a xs/\xs[n-1-i]?=some x,λi H x H'=>H'=H/\∀xs y,qj K H a xs->xs[n-1-i]?=some y->x=y,λi H=>n<=i⟩
def SD{P:aj}{w:ah}{K:au}(a it:ak)(n:Nat) :
  Turn P w K tg (Itv K a n) [it] it (λi h=>vg h it a<|(n:Int)-1-i) where
 mem:=by simp
 obj:=λi h st b g=>by
  rw[aS]at g;subst g;obtain⟨o,e,c,d⟩:=st;exact⟨o,e,λv z=>by rw[d]at z;cases z⟩
 keep:=λi h h' st k=>st.at λo G=>k it (by simp) o G
 item:=by
  w_up;subst hP hw hK;obtain⟨hi,xs,x,C,F⟩:=hg;obtain⟨J,W,p,hz⟩:=I.list C;obtain⟨u,T,V⟩:=W.get F;obtain⟨B,U,Z,N,Y,M⟩:=hf it (by simp);refine Ai (i:=n-1-i) (by rw[show(((n-1-i:Nat)):Int)=(n:Int)-1-i by lia];exact st) p.isList (x:=u) (by simpa using T) λh' f m=>?_;obtain⟨oo,e1,c1,d1⟩:=id f;refine⟨u,rfl,F_ (s:={ s with heap:=h' }) e1 c1 d1 ⋯ ⟨x,H,I.turned (t':=s.toks) (λb o g q=>m.extBut b o g q) B U N Y M,V,⟨rfl,λys y O j=>?_⟩,?_,λb g=>?_⟩⟩
  ·rw[I.HZ O C,F]at j;exact aZ j
  ·rw[show(n:Int)-1-((i+1:Nat):Int)=((n-1-i:Nat):Int)-1 by lia];exact f
  ·rw[aS]at g;rw[g];exact B
 done:=by
  w_up;subst hP hw hK;have hg:n<=i:=hg;exact BQ (I.ok.hd hc) st () λh' L=>⟨rfl,I.kept (t':=s.toks) L⟩
 self:=λ_ _ _ _ _ st h=>Ci st h
section
variable {X:Cx}
abbrev aeH (K:au)(ta:TA):TI:=λσ H R=>ta σ H λc H1=>∃a xs,c=[.ref a]/\qj K H1 a xs/\R (Itv K a xs.length) H1
def aa5{a:aE}{ta:TA}{p:Pos}(hg:Gl X "reversed")(hm:X.mg "reversed" = none)(ha:PA X [a] ta)(hs:starEach [a] X.env=[(false,eval a X.env)]<|>ι):PI X tg (.Call (.Name "reversed" p) [a] [] pos) (aeH X.K ta):=by
 intro pins s σ H R I h;refine Call_<|xD I hg hm F2<|dZ (ny (ha pos pins s σ H _ I h) λus d ⟨O,H1,I1,r1,L⟩=>?_) hs rfl;obtain⟨t,xs,e,F,q⟩:=L;subst e;obtain⟨u,rfl,rx⟩:=vals1 r1
 cases rx
 obtain⟨c,M,⟨⟨cls,N,data,G⟩,n,C,g,m,f⟩,P⟩:=I1.list F;simp only at g m f;subst g m f;have B:=M.length;refine callType_other (T' := "list_reverseiterator") Ag (typeCall_reversed_1 _) (newCall_reversed_1 _) entry_reversed_new (Cz t c.toArray n none G) sub_lri_reversed ⟨C,⟨_,bz _ rfl,rfl⟩,?_⟩;have J:Inv X pins σ H1 { d with heap:=d.heap.push { cls:=.type "list_reverseiterator",data:=.fields #[.ref t,rawInt<|((c.toArray.size:Nat):Int)-1]}}:=I1.kept (t':=d.toks) λb o e=>aR _ e;have j:vg (d.heap.push { cls:=.type "list_reverseiterator",data:=.fields #[.ref t,rawInt<|((c.toArray.size:Nat):Int)-1]}) d.heap.objs.size t ((xs.length:Int)-1-((0:Nat):Int)):=⟨_,bz _ rfl,rfl,by rw[br,B];simp⟩;refine Ci j ⟨_,[d.heap.objs.size],_,_,H1,rfl,J,SD t _ xs.length,j,λb k=>?_,q⟩;rw[aS]at k;rw[k];kln_w
end
end L2
namespace L2
open PySem PySem.Spec PyProof.Rows
def Dl(a b:Int):Builtin.Range.rangeSize a b (-1)=if a>b then a-b else 0:=by
 unfold Builtin.Range.rangeSize;dsimp[show ¬((-1:Int)>0)by decide,bU,Int.neg_neg,Int.ediv_one];split<;>lia
def small_down{a b:Int}(ha:-(2 ^ 62)<=a)(ha':a<2 ^ 62)(hb:-(2 ^ 62)<=b)(hb':b<2 ^ 62):Builtin.Range.small a b (-1)=true:=by
 unfold Builtin.Range.small;rw[Dl];dsimp[Builtin.Range.rangeFitsLong,fR,Bool.or_eq_true,eN,beq_iff_eq,show ¬((-1:Int)>0)by decide,bU];split<;>lia
end L2
namespace Sx
open PySem PyProof.Rows
structure Ord where
 lt:Nat->Nat->Bool
 PJ:∀i,lt i i=false
 tr:∀i j k,lt i j=true->lt j k=true->lt i k=true
 neg:∀i j k,lt i k=true->lt i j=true\/lt j k=true
abbrev P (o:Ord)(i j:Nat):Prop:=o.lt i j=true\/(o.lt j i=false/\i<j)
def Ord.aep(o:Ord)(h:o.lt i j=true):o.lt j i=false:=by
 cases e:o.lt j i with
 | false=>rfl
 | true=>have:=o.tr _ _ _ h e;rw[o.PJ]at this;cases this
def P.PJ(h:P o i i):False:=by
 rcases h with h|⟨_,h⟩
 ·rw[o.PJ]at h;cases h
 ·lia
def P.trans{k:Nat}(a:P o i j)(b:P o j k):P o i k:=by
 rcases a with a|⟨a,d⟩
 ·rcases b with b|⟨b,c⟩
  ·exact .inl (o.tr _ _ _ a b)
  ·rcases o.neg i k j a with z|z
   ·exact .inl z
   ·rw[b]at z;cases z
 ·rcases b with b|⟨b,c⟩
  ·rcases o.neg j i k b with z|z
   ·rw[a]at z;cases z
   ·exact .inl z
  ·refine .inr ⟨?_,()⟩
   cases e:o.lt k i with
   | false=>rfl
   | true=>
    rcases o.neg k j i e with z|z
    ·rw[b]at z;cases z
    ·rw[a]at z;cases z
def P.of_lt{o:Ord}(h:o.lt i j=true):P o i j:=.inl h
def P.zU{o:Ord}(h:o.lt j i=false)(hij:i<j):P o i j:=.inr ⟨h,hij⟩
def P.lt{o:Ord}(h:P o i j)(hij:j<i):o.lt i j=true:=by
 rcases h with h|⟨_,h⟩
 ·exact h
 ·lia
def P.ge{o:Ord}(h:P o i j):o.lt j i=false:=by
 rcases h with h|⟨h,_⟩
 ·exact o.aep h
 ·exact h
abbrev So (o:Ord)(g:Nat->Nat)(a b:Nat):Prop:=∀i j,a<=i->i<j->j<b->P o (g i) (g j)
abbrev Cl (g:Nat->Nat)(a b:Nat):Prop:=∀i,a<=i->i<b->a<=g i/\g i<b
abbrev rev (g:Nat->Nat)(i j:Nat):Nat->Nat:=λk=>if i<=k/\k<j then g (i+j-1-k)else g k
abbrev mv (g:Nat->Nat)(src dst:Nat):Nat->Nat:=λk=>if k=dst then g src else if dst<k/\k<=src then g (k-1)else g k
def Bj{g:Nat->Nat}{k:Nat}(h:i<=k)(h2:k<j):rev g i j k=g (i+j-1-k):=aM ⟨h,h2⟩
def qY{g:Nat->Nat}{k:Nat}(h:k<i\/j<=k):rev g i j k=g k:=aJ ()
def QV{g:Nat->Nat}{d:Nat}:mv g s d d=g s:=aM rfl
def GF{g:Nat->Nat}{d k:Nat}(h:d<k)(h2:k<=s):mv g s d k=g (k-1):=by
 unfold mv;rw[aJ (),aM ⟨h,h2⟩]
def FE{g:Nat->Nat}{d k:Nat}(hd:d<=s)(h:k<d\/s<k):mv g s d k=g k:=by
 unfold mv;rw[aJ (),aJ ()]
section
variable {prog:aj}{w:ah}{A:aA}{E:af->aC->Prop}{s:aC}{o:Ord}{N:Nat}{f:Nat->Keyed}{kd:SortKind}{g:Nat->Nat}{p:Array (Nat×Nat×Nat)}{st:SortSt}
abbrev D7 (prog:aj)(w:ah)(A:aA)(s:aC)(o:Ord)(N:Nat)(f:Nat->Keyed)(kd:SortKind):Prop:=
 ∀i j,i<N->j<N->∀(c:af->aC->Prop) (Q:Bool->aC->Prop),Q (o.lt i j) s->wpAny (model prog w) A (keyLt' kd (f i).1 (f j).1) Q c s
structure Sg (N:Nat)(f:Nat->Keyed)(kd:SortKind)(g:Nat->Nat)(p:Array (Nat×Nat×Nat))(st:SortSt):Prop where
 size:(arrOf st).size=N
 get:∀i,i<N->(arrOf st)[i]?=some (f<|g i)
 lt:∀i,i<N->g i<N
 kind:kindOf st=kd
 failed:failedOf st=none
 pend:pendingOf st=p
def Ck(C:D7 prog w A s o N f kd)(hk:kindOf st=kd)(hi:i<N)(hj:j<N){Q:bn->SortSt->Prop}(q:Q (some<|o.lt i j) st):wpS (model prog w) A E s (lt' (f i)<|f j) Q st:=by
 rw[lt'_eq];refine bh<|iC ?_;rw[hk];refine bh<|wpS_lift<|iW<|C i j hi hj _ _ ⟨rfl,?_⟩;exact bC q
def kM{xs:Array Keyed}{i:Nat}{x:Keyed}(e:xs[i]?=some x){Q:Keyed->SortSt->Prop}(q:Q x st):wpS (model prog w) A E s (elem' xs i) Q st:=by
 rw[elem'_eq,e];exact bC q
def xY(C:D7 prog w A s o N f kd)(h:Sg N f kd g p st)(hi:i<N)(hj:j<N){Q:bn->SortSt->Prop}(q:Q (some<|o.lt (g i)<|g j) st):wpS (model prog w) A E s (ltAt' i j) Q st:=by
 rw[ltAt'_eq];refine bh (iC ?_)
 skip
 exact bh<|kM (h.get i hi)<|bh<|kM (h.get j hj)<|Ck C h.kind (h.lt i hi) (h.lt j hj) q
def Sg.arr(h:Sg N f kd g p st){xs:Array Keyed}{g':Nat->Nat}(hs:xs.size=N)(hg:∀i,i<N->xs[i]?=some (f<|g' i))(hl:∀i,i<N->g' i<N):Sg N f kd g' p (setArr st xs):=⟨hs,hg,hl,h.kind,h.failed,h.pend⟩
def AU(h:Sg N f kd g p st)(hj:j<=N){Q:Unit->SortSt->Prop}(q:∀st',Sg N f kd (rev g i j) p st'->Q Unit.unit st'):wpS (model prog w) A E s (reverseSlice' i j) Q st:=by
 rw[reverseSlice'_eq];refine f6 (q _<|h.arr (by rw[mirror_size];exact h.size) (λk d=>?_) λk d=>?_)
 ·rw[getElem?_mirror_all<|by rw[h.size];exact hj];unfold rev;by_cases c:i<=k/\k<j
  ·rw[aM c,aM c];exact h.get _ (by omega)
  ·rw[aJ c,aJ c];exact h.get _ d
 ·unfold rev;by_cases c:i<=k/\k<j
  ·rw[aM c];exact h.lt _ (by omega)
  ·rw[aJ c];exact h.lt _ d
def YD(h:Sg N f kd g p st){a:Nat}(ha:a<N)(hb:b<=a){Q:Unit->SortSt->Prop}(q:∀st',Sg N f kd (mv g a b) p st'->Q Unit.unit st'):wpS (model prog w) A E s (moveDown' a b) Q st:=by
 rw[moveDown'_eq];refine f6 (q _<|h.arr (by rw[bubble_size];exact h.size) (λk d=>?_) λk d=>?_)
 ·rw[getElem?_bubble (by rw[h.size];exact ha) _ (),show a-(a-b)=b by lia];unfold mv;by_cases c:k=b
  ·rw[aM c,aM c];exact h.get _ ha
  ·rw[aJ c,aJ c];by_cases c2:b<k/\k<=a
   ·rw[aM c2,aM c2];exact h.get _ ()
   ·rw[aJ c2,aJ c2];exact h.get _ d
 ·unfold mv;by_cases c:k=b
  ·rw[aM c];exact h.lt _ ha
  ·rw[aJ c];by_cases c2:b<k/\k<=a
   ·rw[aM c2];exact h.lt _ ()
   ·rw[aJ c2];exact h.lt _ d
structure Rn (o:Ord)(g0 g:Nat->Nat)(a b:Nat):Prop where
 out:∀i,i<a\/b<=i->g i=g0 i
 cl:Cl g a b
 so:So o g a b
def aag{g0:Nat->Nat}{lo k l:Nat}(R:Rn o g0 g lo<|lo+k)(hk:g (lo+k)=lo+k)(hl:l<=k)(h1:∀i,i<l->P o (g<|lo+i) (lo+k))(h2:∀i,l<=i->i<k->P o (lo+k) (g<|lo+i)):Rn o g0 (mv g (lo+k)<|lo+l) lo (lo+(k+1)) where
 out i hi:=by rw[FE () ()];exact R.out i ()
 cl i a b:=by
  by_cases c:i=lo+l
  ·subst c;rw[QV,hk];lia
  ·by_cases c2:lo+l<i
   ·rw[GF c2 ()];have:=R.cl (i-1) () ()
    lia
   ·rw[FE () ()];have:=R.cl i () ()
    lia
 so i j a b d:=by
  by_cases c:i=lo+l
  ·subst c;rw[QV,GF b (),hk];have:=h2 (j-1-lo) () ()
   rwa [show lo+(j-1-lo)=j-1 by lia]at this
  ·by_cases c2:lo+l<i
   ·rw[GF c2 (),GF () ()];exact R.so _ _ () () ()
   ·rw[FE (k:=i) () ()];by_cases c3:j=lo+l
    ·subst c3;rw[QV,hk];have:=h1 (i-lo) ()
     rwa [show lo+(i-lo)=i by lia]at this
    ·by_cases e:lo+l<j
     ·rw[GF e ()];exact R.so _ _ () () ()
     ·rw[FE () ()];exact R.so _ _ () () ()
def ZW(C:D7 prog w A s o N f kd){g0:Nat->Nat}{lo n ok:Nat}(h:Sg N f kd g p st)(hn:lo+n<=N)(h1:1<=ok)(hok:ok<=n)(R:Rn o g0 g lo<|lo+ok)(hid:∀i,lo+ok<=i->i<lo+n->g0 i=i)
  {Q:Bool->SortSt->Prop} (q:∀g' st',Sg N f kd g' p st'->Rn o g0 g' lo (lo+n)->Q true st'):wpS (model prog w) A E s (binarySort' lo n ok) Q st:=by
 rw[binarySort'_eq,show max ok 1=ok by lia];refine bh (eT (cX (I:=λk c st'=>c=(none,Unit.unit)/\∃g',Sg N f kd g' p st'/\Rn o g0 g' lo (lo+min k n))
  (Q:=λc st'=>c=(none,Unit.unit)/\∃g',Sg N f kd g' p st'/\Rn o g0 g' lo (lo+n)) ?step ?fin ?init) ?post)
 case post=>
  rintro c st' ⟨rfl,g',h',e⟩;exact bC<|q g' st' h' e
 case init=>exact⟨rfl,g,h,by rw[show min ok n=ok by lia];exact R⟩
 case fin=>
  rintro c st' ⟨hc,g',h',e⟩;exact⟨hc,g',h',by rwa [show min (max ok n) n=n by lia]at e⟩
 case step=>
  rintro k c st' U O ⟨rfl,g',h',e⟩;rw[show min k n=k by lia]at e;have gk:g' (lo+k)=lo+k:=by rw[e.out _ ()];exact hid _ () ()
  refine bh (eT (cX (I:=λx c B=>B=st'/\∃u v,c=(none,u,v)/\u<=v/\v<=k/\v-u<=k-x /\
    (∀i,i<u->P o (g'<|lo+i) (lo+k))/\(∀i,v<=i->i<k->P o (lo+k) (g'<|lo+i)))
   (Q:=λc B=>B=st'/\∃u v,c=(none,u,v)/\u<=k /\
    (∀i,i<u->P o (g'<|lo+i) (lo+k))/\(∀i,u<=i->i<k->P o (lo+k) (g'<|lo+i))) ?istep ?ifin ?iinit) ?ipost)
  case iinit=>exact⟨rfl,0,k,rfl,(),(),(),λi hi=>(),λi h1 h2=>()⟩
  case ifin=>
   rintro c B ⟨rfl,u,v,rfl,G,m,K,low,top⟩;have:u=v:=()
   subst this;exact⟨rfl,u,u,rfl,m,low,top⟩
  case istep=>
   rintro x c B _ L ⟨rfl,u,v,rfl,G,m,K,low,top⟩;dsimp only;by_cases F:u>=v
   ·rw[aM F];have:u=v:=()
    subst this;exact bC ⟨rfl,u,u,rfl,m,low,top⟩
   ·rw[aJ F];have T:(u+v) / 2<k:=()
    have V:=e.cl (lo+(u+v) / 2) () ();refine bh<|xY C h' () () ?_;rw[gk]
    cases d:o.lt (lo+k) (g'<|lo+(u+v) / 2)
    case true=>
     dsimp[cK];refine bC ⟨rfl,u,(u+v) / 2,rfl,(),(),(),low,λi h1 h2=>?_⟩;by_cases c:i=(u+v) / 2
     ·subst c;exact .inl d
     ·exact(P.of_lt d).trans (e.so _ _ () () ())
    case false=>
     dsimp[a_,bU];refine bC ⟨rfl,(u+v) / 2+1,v,rfl,(),(),(),λi h1=>?_,top⟩;have j:=P.zU d V.2;by_cases c:i=(u+v) / 2
     ·subst c;exact j
     ·exact(e.so _ _ () () ()).trans j
  case ipost=>
   rintro c B ⟨rfl,u,v,rfl,J,low,top⟩;dsimp only;refine bh<|YD h' () () λM h3=>?_;refine bC ⟨rfl,_,h3,?_⟩;rw[show min (k+1) n=k+1 by lia];exact aag e gk J low top
end
meta abbrev As:=Option (bo)×Nat
meta abbrev Ds:=Option (bo)×Nat×Nat
abbrev QU (lo a nrem:Nat):StateT SortSt Sem As:=
 forIn [a:nrem] ((none,a):As) λ_ c=>do
  let x <- ltAt' (lo+c.2) (lo+c.2-1)
  match x with
  | some b=>if b=true then pure (ForInStep.done (none,c.2))else pure (ForInStep.yield (none,c.2+1))
  | _=>pure<|ForInStep.done (some none,c.2)
abbrev HE (lo n nrem:Nat):StateT SortSt Sem (bo):=do
 reverseSlice' lo (lo+n)
 let c <- QU lo n nrem
 match c.1 with
 | some r=>pure r
 | none=>pure<|some c.2
abbrev Wj (lo n nrem:Nat):StateT SortSt Sem Ds:=
 forIn [n:nrem] ((none,n,0):Ds) λ_ c=>do
  let x <- ltAt' (lo+c.2.1) (lo+c.2.1-1)
  match x with
  | some b=>
   if b=true then
    if c.2.2>0 then do
     reverseSlice' (lo+c.2.1-(c.2.2+1)) (lo+c.2.1)
     pure (ForInStep.yield (none,c.2.1+1,0))
    else pure (ForInStep.yield (none,c.2.1+1,0))
   else do
    let x <- ltAt' (lo+c.2.1-1) (lo+c.2.1)
    match x with
    | some b=>
     if b=true then pure (ForInStep.done (none,c.2.1,c.2.2))
     else pure (ForInStep.yield (none,c.2.1+1,c.2.2+1))
    | _=>pure<|ForInStep.done (some none,c.2.1,c.2.2)
  | _=>pure<|ForInStep.done (some none,c.2.1,c.2.2)
abbrev O8 (lo n nrem:Nat):StateT SortSt Sem (bo):=do
 liftM (rule "list.sort.descending-run")
 let c <- Wj lo (n+1) nrem
 match c.1 with
 | some r=>pure r
 | none=>
  if c.2.2>0 then do
   reverseSlice' (lo+c.2.1-(c.2.2+1)) (lo+c.2.1)
   HE lo c.2.1 nrem
  else HE lo c.2.1 nrem
def count_eq(lo nrem:Nat):countRun' lo nrem=(do
  let c <- QU lo 1 nrem
  match c.1 with
  | some r=>pure r
  | none=>
   if (c.2 == nrem)=true then pure (some c.2)
   else if c.2>1 then do
    let x <- ltAt' lo (lo+c.2-1)
    match x with
    | some b=>if b=true then pure (some c.2)else do
      reverseSlice' lo (lo+c.2)
      O8 lo c.2 nrem
    | _=>pure none
   else O8 lo c.2 nrem):=by
 rw[countRun'_eq];dsimp only;unfold O8 HE Wj QU;congr 1
 funext c
 obtain⟨r,n⟩:=c
 cases r with
 | some r=>rfl
 | none=>
  dsimp only;split
  ·rfl
  ·split
   ·congr 1
    funext x
    cases x with
    | none=>rfl
    | some b=>
     dsimp only;split
     ·rfl
     ·congr 1
      funext _r
      congr 1
      funext _u
      congr 1;congr 1
      funext s2
      obtain⟨r2,g,f⟩:=s2
      cases r2 with
      | some r2=>rfl
      | none=>
       dsimp only;split
       ·congr 1
        funext _v
        congr 1
        funext _w
        congr 1
        funext s3
        obtain⟨d,e⟩:=s3
        cases d<;>rfl
       ·congr 1
        funext _w
        congr 1
        funext s3
        obtain⟨d,e⟩:=s3
        cases d<;>rfl
   ·congr 1
    funext _u
    congr 1;congr 1
    funext s2
    obtain⟨r2,g,f⟩:=s2
    cases r2 with
    | some r2=>rfl
    | none=>
     dsimp only;split
     ·congr 1
      funext _v
      congr 1
      funext _w
      congr 1
      funext s3
      obtain⟨d,e⟩:=s3
      cases d<;>rfl
     ·congr 1
      funext _w
      congr 1
      funext s3
      obtain⟨d,e⟩:=s3
      cases d<;>rfl
section
variable {prog:aj}{w:ah}{A:aA}{E:af->aC->Prop}{s:aC}{o:Ord}{N:Nat}{f:Nat->Keyed}{kd:SortKind}{g g0:Nat->Nat}{p:Array (Nat×Nat×Nat)}{st:SortSt}
def Rn.snoc{a:Nat}(R:Rn o g0 g a b)(hab:a<b)(hb:g b=b)(h:o.lt b (g<|b-1)=false):Rn o g0 g a (b+1) where
 out i hi:=R.out i ()
 cl i h1 h2:=by
  by_cases c:i=b
  ·subst c;lia
  ·have:=R.cl i h1 ();lia
 so i j h1 h2 h3:=by
  by_cases c:j=b
  ·subst c;rw[hb];have l:=R.cl (j-1) () ();have d:P o (g<|j-1) j:=P.zU h l.2;by_cases c2:i=j-1
   ·subst c2;exact d
   ·exact(R.so i (j-1) h1 () ()).trans d
  ·exact R.so i j h1 h2 ()
def OZ(C:D7 prog w A s o N f kd){lo a:Nat}(h:Sg N f kd g p st)(hn:lo+nrem<=N)(h1:1<=a)(han:a<=nrem)(R:Rn o g0 g lo<|lo+a)(hid:∀i,lo+a<=i->i<lo+nrem->g0 i=i)
  {Q:As->SortSt->Prop} (q:∀n,a<=n->n<=nrem->Rn o g0 g lo (lo+n)->(n=nrem\/o.lt (lo+n) (g<|lo+n-1)=true)->Q (none,n) st):wpS (model prog w) A E s (QU lo a nrem) Q st:=by
 unfold QU;refine cX (I:=λx c d=>d=st/\c=(none,x)/\Rn o g0 g lo (lo+x)) ?step ?fin ⟨rfl,rfl,R⟩
 case fin=>
  rintro c d ⟨rfl,rfl,e⟩;rw[show max a nrem=nrem by lia]at e ⊢;exact q nrem han (aP _) e<|.inl rfl
 case step=>
  rintro x c d j B ⟨rfl,rfl,e⟩;dsimp only;have k:g (lo+x)=lo+x:=by rw[e.out _ ()];exact hid _ () ()
  refine bh<|xY C h () () ?_;rw[k]
  cases m:o.lt (lo+x) (g<|lo+x-1)
  case true=>
   dsimp[cK];exact bC<|q x j () e<|.inr m
  case false=>
   dsimp[a_,bU];exact bC ⟨rfl,rfl,e.snoc () k m⟩
structure Dc (o:Ord)(g0 g:Nat->Nat)(a b q:Nat):Prop where
 out:∀i,i<a\/b<=i->g i=g0 i
 cl:Cl g a b
 few:a+(q+1)<=b
 dn:∀i j,a<=i->i<j->j<b->i<b-(q+1)->P o (g j) (g i)
 id:∀i,b-(q+1)<=i->i<b->g i=i
 al:∀i j,b-(q+1)<=i->i<b->b-(q+1)<=j->j<b->o.lt i j=false
def Dc.turn{a q:Nat}(D:Dc o g0 g a b q):(∀i,i<a\/b<=i->rev g (b-(q+1)) b i=g0 i)/\Cl (rev g (b-(q+1)) b) a b/\(∀i j,a<=i->i<j->j<b->P o (rev g (b-(q+1)) b j) (rev g (b-(q+1)) b i))/\(∀i,b-(q+1)<=i->i<b->∃k,rev g (b-(q+1)) b i=k/\b-(q+1)<=k/\k<b):=by
 have few:=D.few;have d:∀i,b-(q+1)<=i->i<b->rev g (b-(q+1)) b i=b-(q+1)+b-1-i:=λi h1 h2=>by
  rw[Bj h1 h2];exact D.id _ (by omega)<|by omega
 refine⟨λi hi=>?_,λi h1 h2=>?_,λi j h1 h2 h3=>?_,λi h1 h2=>⟨_,d i h1 h2,by omega,by omega⟩⟩
 ·rw[qY<|by omega];exact D.out i hi
 ·by_cases c:i<b-(q+1)
  ·rw[qY<|by omega];exact D.cl i h1 h2
  ·rw[d i (by omega) h2];omega
 ·by_cases c:i<b-(q+1)
  ·rw[qY (k:=i)<|by omega];by_cases c2:j<b-(q+1)
   ·rw[qY<|by omega];exact D.dn i j h1 h2 h3 c
   ·rw[d j (by omega) h3];have:=D.dn i (b-(q+1)+b-1-j) h1 (by omega) (by omega) c
    rwa [D.id _ (by omega)<|by omega]at this
  ·rw[d i (by omega)<|by omega,d j (by omega) h3];exact P.zU (D.al _ _ (by omega) (by omega) (by omega)<|by omega)<|by omega
abbrev Fin (o:Ord)(g0 g:Nat->Nat)(a b:Nat):Prop:=(∀i,i<a\/b<=i->g i=g0 i)/\Cl g a b/\(∀i j,a<=i->i<j->j<b->P o (g j) (g i))
def Dc.G6{a:Nat}(D:Dc o g0 g a b 0):Fin o g0 g a b:=⟨D.out,D.cl,λi j h1 h2 h3=>D.dn i j h1 h2 h3 ()⟩
def Fin.rn{a:Nat}(D:Fin o g0 g a b):Rn o g0 (rev g a b) a b where
 out i hi:=by rw[qY hi];exact D.1 i hi
 cl i h1 h2:=by
  rw[Bj h1 h2];exact D.2.1 _ () ()
 so i j h1 h2 h3:=by
  rw[Bj h1 (),Bj () h3];exact D.2.2 _ _ () () ()
def Fin.add{a:Nat}(D:Fin o g0 g a b)(hb:g b=b)(hab:a<b)(h:∀i,a<=i->i<b->P o b (g i)):Dc o g0 g a (b+1) 0 where
 out i hi:=D.1 i ()
 cl i h1 h2:=by
  by_cases c:i=b
  ·subst c;lia
  ·have:=D.2.1 i h1 ();lia
 few:=()
 dn i j h1 h2 h3 _:=by
  by_cases c:j=b
  ·subst c;rw[hb];exact h i h1 h2
  ·exact D.2.2 i j h1 h2 ()
 id i h1 h2:=by
  have:i=b:=()
  rw[this,hb]
 al i j h1 h2 h3 h4:=by
  have:i=j:=()
  rw[this];exact o.PJ _
def xX(C:D7 prog w A s o N f kd){lo n:Nat}(h:Sg N f kd g p st)(hn:lo+nrem<=N)(h1:1<=n)(han:n<=nrem)(D:Fin o g0 g lo<|lo+n)(hid:∀i,lo<=i->i<lo+nrem->g0 i=i)
  {Q:bo->SortSt->Prop} (q:∀m g' st',Sg N f kd g' p st'->1<=m->m<=nrem->Rn o g0 g' lo (lo+m)->Q (some m) st'):wpS (model prog w) A E s (HE lo n nrem) Q st:=by
 unfold HE;refine bh<|AU h () λd h2=>?_;exact bh<|OZ C h2 hn h1 han D.rn (λi a b=>hid i () b) λm e c R _=>bC<|q m _ _ h2 () c R
def aaE(C:D7 prog w A s o N f kd){lo n:Nat}(h:Sg N f kd g p st)(hn:lo+nrem<=N)(h1:1<=n)(han:n<=nrem)(D:Dc o g0 g lo (lo+n) 0)(hid:∀i,lo<=i->i<lo+nrem->g0 i=i)
  {Q:Ds->SortSt->Prop} (q:∀m e g' st',Sg N f kd g' p st'->1<=m->m<=nrem->Dc o g0 g' lo (lo+m) e->Q (none,m,e) st'):wpS (model prog w) A E s (Wj lo n nrem) Q st:=by
 unfold Wj;refine cX (I:=λx c st'=>∃e g',c=(none,x,e)/\Sg N f kd g' p st'/\Dc o g0 g' lo (lo+x) e) ?step ?fin ⟨0,g,rfl,h,D⟩
 case fin=>
  rintro c st' ⟨e,g',rfl,h',D'⟩;rw[show max n nrem=nrem by lia]at D' ⊢;exact q nrem e g' st' h' () (aP _) D'
 case step=>
  rintro x c st' M L ⟨e,g',rfl,h',D'⟩;dsimp only;have few:=D'.few;have F:g' (lo+x)=lo+x:=by rw[D'.out _ ()];exact hid _ () ()
  have B:g' (lo+x-1)=lo+x-1:=D'.id _ () ();refine bh<|xY C h' () () ?_;rw[F,B]
  cases G:o.lt (lo+x) (lo+x-1)
  case true=>
   dsimp[cK];by_cases K:e>0
   ·rw[aM K];obtain⟨O,V,Y,t4⟩:=D'.turn;refine bh<|AU h' () λW h2=>bC ⟨0,_,rfl,h2,?_⟩;refine Fin.add (b:=lo+x) ⟨O,V,Y⟩ (by rw[qY ()];exact F) () λi a b=>?_;by_cases c:lo+x-(e+1)<=i
    ·obtain⟨k,Z,U,T⟩:=t4 i c b;rw[Z]
     rcases o.neg _ k _ G with z|z
     ·exact .inl z
     ·rw[D'.al _ _ U T () ()]at z;cases z
    ·rw[qY ()];have:=D'.dn i (lo+x-1) a () () ();rw[B]at this;exact(P.of_lt G).trans this
   ·rw[aJ K];have:e=0:=()
    subst this;refine bC ⟨0,_,rfl,h',Fin.add (b:=lo+x) D'.G6 F () λi a b=>?_⟩;by_cases c:i=lo+x-1
    ·subst c;rw[B];exact .inl G
    ·have:=D'.dn i (lo+x-1) a () () ();rw[B]at this;exact(P.of_lt G).trans this
  case false=>
   dsimp[a_,bU];refine bh<|xY C h' () () ?_;rw[F,B]
   cases hg:o.lt (lo+x-1) (lo+x)
   case true=>
    dsimp[cK];exact bC<|q x e g' st' h' () () D'
   case false=>
    dsimp[a_,bU];refine bC ⟨e+1,g',rfl,h',?_⟩;have J:∀i,lo+x-(e+1)<=i->i<lo+x->o.lt i (lo+x)=false/\o.lt (lo+x) i=false:=λi a b=>by
     constructor
     ·cases z:o.lt i (lo+x)with
      | false=>rfl
      | true=>
       rcases o.neg _ (lo+x-1) _ z with y|y
       ·rw[D'.al _ _ a b () ()]at y;cases y
       ·rw[hg]at y;cases y
     ·cases z:o.lt (lo+x) i with
      | false=>rfl
      | true=>
       rcases o.neg _ (lo+x-1) _ z with y|y
       ·rw[G]at y;cases y
       ·rw[D'.al _ _ () () a b]at y;cases y
    exact {
     out:=λi hi=>D'.out i ()
     cl:=λi a b=>by
      by_cases c:i=lo+x
      ·subst c;lia
      ·have:=D'.cl i a ();lia
     few:=()
     dn:=λi j a b c d=>by
      by_cases z:j=lo+x
      ·subst z;rw[F];have y:=D'.dn i (lo+x-1) a () () ();rw[B]at y;have gi:=D'.cl i a ()
       rcases y with y|⟨_,y⟩
       ·rcases o.neg _ (lo+x) _ y with v|v
        ·rw[hg]at v;cases v
        ·exact .inl v
       ·lia
      ·exact D'.dn i j a b () ()
     id:=λi a b=>by
      by_cases z:i=lo+x
      ·subst z;exact F
      ·exact D'.id i () ()
     al:=λi j a b c d=>by
      by_cases z:i=lo+x
      ·subst z;by_cases y:j=lo+x
       ·subst y;exact o.PJ _
       ·exact(J j () ()).2
      ·by_cases y:j=lo+x
       ·subst y;exact(J i () ()).1
       ·exact D'.al i j () () () ()}
def J4(C:D7 prog w A s o N f kd){lo n:Nat}(h:Sg N f kd g p st)(hn:lo+nrem<=N)(han:n+1<=nrem)(D:Dc o g0 g lo (lo+(n+1)) 0)(hid:∀i,lo<=i->i<lo+nrem->g0 i=i)
  {Q:bo->SortSt->Prop} (q:∀m g' st',Sg N f kd g' p st'->1<=m->m<=nrem->Rn o g0 g' lo (lo+m)->Q (some m) st'):wpS (model prog w) A E s (O8 lo n nrem) Q st:=by
 unfold O8;mg_lt;refine bh<|aaE C h hn () han D hid λm e g' st' h' j c D'=>?_;dsimp only;by_cases d:e>0
 ·rw[aM d];obtain⟨k,B,G,_⟩:=D'.turn;exact bh (AU h' () λF h2=>xX C h2 hn j c ⟨k,B,G⟩ hid q)
 ·rw[aJ d];have:e=0:=()
  subst this;exact xX C h' hn j c D'.G6 hid q
def Ox(C:D7 prog w A s o N f kd){lo:Nat}(h:Sg N f kd g p st)(hn:lo+nrem<=N)(h1:1<=nrem)(hid:∀i,lo<=i->i<lo+nrem->g i=i)
  {Q:bo->SortSt->Prop} (q:∀m g' st',Sg N f kd g' p st'->1<=m->m<=nrem->Rn o g g' lo (lo+m)->Q (some m) st'):wpS (model prog w) A E s (countRun' lo nrem) Q st:=by
 rw[count_eq];refine bh (OZ C h hn (aP 1) h1 (g0:=g) ⟨λ_ _=>rfl,λi a b=>?_,λi j a b c=>()⟩ (λi a b=>hid i () b) λn K L R G=>?_)
 ·have:i=lo:=()
  subst this;rw[hid i (aP _) ()];lia
 dsimp only;by_cases B:n=nrem
 ·rw[aM<|by simpa using B];exact bC (q n g st h K L R)
 ·rw[aJ<|by simpa using B];have e:=G.resolve_left B;rw[hid (lo+n-1) () ()]at e;have M:g (lo+n)=lo+n:=hid _ () ();by_cases F:n>1
  ·rw[aM F];refine bh<|xY C h () () ?_;rw[hid lo () (),hid (lo+n-1) () ()]
   cases O:o.lt lo (lo+n-1)
   case true=>
    dsimp[cK];exact bC<|q n g st h K L R
   case false=>
    dsimp[a_,bU];have d:∀i,lo<=i->i<lo+n->g i=i:=λi a b=>hid i a ();have J:∀i j,lo<=i->i<j->j<lo+n->o.lt i j=false/\o.lt j i=false:=λi j a b c=>by
     have r:=R.so i j a b c;rw[d i a (),d j () c]at r;refine⟨?_,r.ge⟩
     cases z:o.lt i j with
     | false=>rfl
     | true=>
      rcases o.neg _ lo _ z with y|y
      ·by_cases x:i=lo
       ·subst x;rw[o.PJ]at y;cases y
       ·have r2:=R.so lo i () () ();rw[d i a (),d lo () ()]at r2;rw[r2.ge]at y;cases y
      ·rcases o.neg _ (lo+n-1) _ y with x|x
       ·rw[O]at x;cases x
       ·by_cases v:j=lo+n-1
        ·subst v;rw[o.PJ]at x;cases x
        ·have r2:=R.so j (lo+n-1) () () ();rw[d j () c,d (lo+n-1) () ()]at r2;rw[r2.ge]at x;cases x
    refine bh<|AU h () λT h2=>J4 C h2 hn () ?_ hid q;have k:∀i,lo<=i->i<lo+n->rev g lo (lo+n) i=lo+(lo+n)-1-i:=λi a b=>by rw[Bj a b];exact d _ () ()
    refine Fin.add (b:=lo+n) ⟨λi hi=>qY hi,λi a b=>by rw[k i a b];lia,λi j a b c=>?_⟩ (by rw[qY ()];exact M) () λi a b=>?_
    ·rw[k i a (),k j () c];exact P.zU (J _ _ () () ()).2 ()
    ·rw[k i a b];by_cases x:lo+(lo+n)-1-i=lo+n-1
     ·rw[x];exact .inl e
     ·rcases o.neg _ (lo+(lo+n)-1-i) _ e with z|z
      ·exact .inl z
      ·rw[(J _ _ () () ()).1]at z;cases z
  ·rw[aJ F];have:n=1:=()
   subst this;refine J4 C h hn () ?_ hid q;refine Fin.add (b:=lo+1) ⟨λi hi=>rfl,R.cl,λi j a b c=>()⟩ M () λi a b=>?_;have:i=lo:=()
   subst this;rw[hid i () ()];rw[show i+1-1=i by lia]at e;exact .inl e
end
abbrev nY:Bool->Keyed->Array Keyed->Nat->Nat->Nat->StateT SortSt Sem (bo):=sortPriv% PySem.Builtin.gallop
abbrev ZU (ask:Nat->StateT SortSt Sem (bn))(n at0:Nat):StateT SortSt Sem (bo):=do
 let mut was:=0
 let mut far:=1
 let mut low:=0
 let mut top:=0
 let some yes <- ask at0|return none
 if yes then
  let c:=n-at0
  for _ in [0:n] do
   if far>=c then break
   let some ok <- ask (at0+far)|return none
   if !ok then break
   was:=far
   far:=2 * far+1
  low:=at0+was+1
  top:=at0+min far c
 else
  let c:=at0+1
  for _ in [0:n] do
   if far>=c then break
   let some hit <- ask (at0-far)|return none
   if hit then break
   was:=far
   far:=2 * far+1
  low:=at0+1-min far c
  top:=at0-was
 for _ in [0:n] do
  if low>=top then break
  let m:=low+(top-low) / 2
  let some ok <- ask m|return none
  if ok then low:=m+1 else top:=m
 return some top
def C_(left:Bool)(key:Keyed)(arr:Array Keyed)(base n hint:Nat):nY left key arr base n hint=ZU (λi=>do
  let x <- elem' arr (base+i)
  if left then lt' x key else return (<- lt' key x).map (!·)) n hint:=rfl
section
variable {prog:aj}{w:ah}{A:aA}{E:af->aC->Prop}{s:aC}{st:SortSt}
abbrev bsB (be:Nat->StateT SortSt Sem (bn))(n l0 h0:Nat):StateT SortSt Sem (bo):=do
 let mut low:=l0
 let mut top:=h0
 for _ in [0:n] do
  if low>=top then break
  let m:=low+(top-low) / 2
  let some ok <- be m|return none
  if ok then low:=m+1 else top:=m
 return some top
def Yj{be:Nat->StateT SortSt Sem (bn)}{n h0:Nat}(b:Nat->Bool)(hbe:∀i,i<n->∀Q:bn->SortSt->Prop,Q (some<|b i) st->wpS (model prog w) A E s (be i) Q st)(hb:∀i j,i<=j->j<n->b j=true->b i=true)
  (hlh:l0<=h0) (hn:h0<=n) (hl:∀i,i<l0->b i=true) (hh:∀i,h0<=i->i<n->b i=false)
  {Q:bo->SortSt->Prop} (q:∀k,k<=n->(∀i,i<k->b i=true)->(∀i,k<=i->i<n->b i=false)->Q (some k) st):wpS (model prog w) A E s (bsB be n l0 h0) Q st:=by
 unfold bsB;refine bh (eT (cX (I:=λx c d=>d=st/\∃lo hi,c=(none,lo,hi)/\lo<=hi/\hi<=n/\hi-lo<=n-x/\(∀i,i<lo->b i=true)/\(∀i,hi<=i->i<n->b i=false))
  (Q:=λc d=>d=st/\∃k,c=(none,k,k)/\k<=n/\(∀i,i<k->b i=true)/\(∀i,k<=i->i<n->b i=false)) ?step ?fin ⟨rfl,l0,h0,rfl,hlh,hn,(),hl,hh⟩) ?post)
 case post=>
  rintro c d ⟨rfl,k,rfl,h1,h2,h3⟩;exact bC<|q k h1 h2 h3
 case fin=>
  rintro c d ⟨rfl,lo,hi,rfl,h1,h2,h3,g,f⟩;have:lo=hi:=()
  subst this;exact⟨rfl,lo,rfl,h2,g,f⟩
 case step=>
  rintro x c d _ C ⟨rfl,lo,hi,rfl,h1,h2,h3,g,f⟩;dsimp only;by_cases e:lo>=hi
  ·rw[aM e];have:lo=hi:=()
   subst this;exact bC ⟨rfl,lo,rfl,h2,g,f⟩
  ·rw[aJ e];have B:lo+(hi-lo) / 2<hi:=()
   obtain⟨m,p⟩:∃m,m=lo+(hi-lo) / 2:=⟨_,rfl⟩;rw[<- p]at B ⊢;refine bh (hbe m () _ ?_)
   cases hv:b m
   ·dsimp[a_,bU];refine bC ⟨rfl,lo,m,rfl,(),(),(),g,λi a c=>?_⟩
    cases z:b i with
    | false=>rfl
    | true=>rw[hb m i a c z]at hv;cases hv
   ·dsimp[cK];exact bC ⟨rfl,m+1,hi,rfl,(),h2,(),λi a=>hb i m () () hv,f⟩
def Me{be:Nat->StateT SortSt Sem (bn)}{n:Nat}(b:Nat->Bool)(hbe:∀i,i<n->∀Q:bn->SortSt->Prop,Q (some<|b i) st->wpS (model prog w) A E s (be i) Q st)(hb:∀i j,i<=j->j<n->b j=true->b i=true)(hh:hint<n)
  {Q:bo->SortSt->Prop} (q:∀k,k<=n->(∀i,i<k->b i=true)->(∀i,k<=i->i<n->b i=false)->Q (some k) st):wpS (model prog w) A E s (ZU be n hint) Q st:=by
 unfold ZU;have m:∀i j,i<=j->j<n->b i=false->b j=false:=λi j a c d=>by
  cases z:b j with
  | false=>rfl
  | true=>rw[hb i j a c z]at d;cases d
 refine bh (hbe hint hh _ ?_)
 cases p:b hint
 ·dsimp only;dsimp[a_,bU];refine bh (eT (cX (I:=λx c e=>e=st/\∃l u,c=(none,l,u)/\x+1<=u/\l<u/\l<=hint/\b (hint-l)=false)
   (Q:=λc e=>e=st/\∃l u,c=(none,l,u)/\l<u/\l<=hint/\b (hint-l)=false/\(u>=hint+1\/b (hint-u)=true)) ?step ?fin ⟨rfl,0,1,rfl,by omega,by omega,by omega,p⟩) ?post)
  case post=>
   rintro c e ⟨rfl,l,u,rfl,h1,h2,h3,f⟩;dsimp only;refine(Yj b hbe hb (l0:=hint+1-min u (hint+1)) (h0:=hint-l) (by omega) (by omega) (λi a=>?_) (λi a c=>m _ _ a c h3) q:wpS (model prog w) A E s (bsB be n _ _) Q e)
   rcases f with f|f
   ·omega
   ·exact hb i (hint-u) (by omega) (by omega) f
  case fin=>
   rintro c e ⟨rfl,l,u,rfl,h1,h2,h3,f⟩;exact⟨rfl,l,u,rfl,h2,h3,f,.inl<|by omega⟩
  case step=>
   rintro x c e _ B ⟨rfl,l,u,rfl,h1,h2,h3,f⟩;dsimp only;by_cases g:u>=hint+1
   ·rw[aM g];exact bC ⟨rfl,l,u,rfl,h2,h3,f,.inl g⟩
   ·rw[aJ g];refine bh (hbe _ (by omega) _ ?_)
    cases hv:b (hint-u)
    ·dsimp[a_,bU];exact bC ⟨rfl,u,2 * u+1,rfl,by omega,by omega,by omega,hv⟩
    ·dsimp[cK];exact bC ⟨rfl,l,u,rfl,h2,h3,f,.inr hv⟩
 ·dsimp only;dsimp[cK];refine bh (eT (cX (I:=λx c e=>e=st/\∃l u,c=(none,l,u)/\x+1<=u/\l<u/\hint+l<n/\b (hint+l)=true)
   (Q:=λc e=>e=st/\∃l u,c=(none,l,u)/\l<u/\hint+l<n/\b (hint+l)=true/\(u>=n-hint\/b (hint+u)=false)) ?step2 ?fin2 ⟨rfl,0,1,rfl,by omega,by omega,by omega,p⟩) ?post2)
  case post2=>
   rintro c e ⟨rfl,l,u,rfl,h1,h2,h3,f⟩;dsimp only;refine(Yj b hbe hb (l0:=hint+l+1) (h0:=hint+min u (n-hint)) (by omega) (by omega) (λi a=>hb i _ (by omega) h2 h3) (λi a c=>?_) q:wpS (model prog w) A E s (bsB be n _ _) Q e)
   rcases f with f|f
   ·omega
   ·exact m (hint+u) i (by omega) c f
  case fin2=>
   rintro c e ⟨rfl,l,u,rfl,h1,h2,h3,f⟩;exact⟨rfl,l,u,rfl,h2,h3,f,.inl<|by omega⟩
  case step2=>
   rintro x c e _ B ⟨rfl,l,u,rfl,h1,h2,h3,f⟩;dsimp only;by_cases g:u>=n-hint
   ·rw[aM g];exact bC ⟨rfl,l,u,rfl,h2,h3,f,.inl g⟩
   ·rw[aJ g];refine bh (hbe _ (by omega) _ ?_)
    cases hv:b (hint+u)
    ·dsimp[cP,cK];exact bC ⟨rfl,l,u,rfl,h2,h3,f,.inr hv⟩
    ·dsimp[b_,a_,bU];exact bC ⟨rfl,u,2 * u+1,rfl,by omega,by omega,by omega,hv⟩
end
section
variable {prog:aj}{w:ah}{A:aA}{E:af->aC->Prop}{s:aC}{o:Ord}{N:Nat}{f:Nat->Keyed}{kd:SortKind}{st:SortSt}
def P1(C:D7 prog w A s o N f kd)(hk:kindOf st=kd){base n:Nat}{arr:Array Keyed}{h:Nat->Nat}(ha:∀i,i<n->arr[base+i]?=some (f<|h i))(hN:∀i,i<n->h i<key)(hkN:key<N)(so:So o h 0 n)(hh:hint<n)
  {Q:bo->SortSt->Prop} (q:∀k,k<=n->(∀i,i<k->P o (h i) key)->(∀i,k<=i->i<n->P o key (h i))->Q (some k) st):wpS (model prog w) A E s (nY false (f key) arr base n hint) Q st:=by
 rw[C_];refine Me (λi=>!o.lt key (h i)) (λi hi m g=>?_) (λi j a b c=>?_) hh λk h1 h2 h3=>q k h1 (λi a=>?_) λi a b=>?_
 ·refine bh<|kM (ha i hi) ?_;dsimp[a_,bU];exact bh (Ck C hk hkN (by have:=hN i hi;lia)<|bC g)
 ·by_cases z:i=j
  ·subst z;exact c
  ·have r:=so i j (bY _) () b;have d:o.lt key (h j)=false:=by simpa using c
   cases e:o.lt key (h i)with
   | false=>rfl
   | true=>
    have:=(P.of_lt e).trans r;rw[this.lt<|hN j b]at d;cases d
 ·have:=h2 i a;exact P.zU (by simpa using this) (hN i ())
 ·have:=h3 i a b;exact .inl<|by simpa using this
def Rl(C:D7 prog w A s o N f kd)(hk:kindOf st=kd){base n:Nat}{arr:Array Keyed}{h:Nat->Nat}(ha:∀i,i<n->arr[base+i]?=some (f<|h i))(hN:∀i,i<n->key<h i/\h i<N)(so:So o h 0 n)(hh:hint<n)
  {Q:bo->SortSt->Prop} (q:∀k,k<=n->(∀i,i<k->P o (h i) key)->(∀i,k<=i->i<n->P o key (h i))->Q (some k) st):wpS (model prog w) A E s (nY true (f key) arr base n hint) Q st:=by
 rw[C_];refine Me (λi=>o.lt (h i) key) (λi hi e d=>?_) (λi j a b c=>?_) hh λk h1 h2 h3=>q k h1 (λi a=>?_) λi a b=>?_
 ·refine bh<|kM (ha i hi) ?_;dsimp[cK];exact Ck C hk (hN i hi).2 (by have:=hN i hi;lia) d
 ·by_cases z:i=j
  ·subst z;exact c
  ·have r:=so i j (bY _) () b;exact(r.trans<|P.of_lt c).lt (hN i ()).1
 ·exact .inl (h2 i a)
 ·exact P.zU (h3 i a b) (hN i b).1
end
abbrev Cy:Array Keyed->Array Keyed->StateT SortSt Sem (Array Keyed):=sortPriv% PySem.Builtin.mergeLo
abbrev BY:Array Keyed->Array Keyed->StateT SortSt Sem (Array Keyed):=sortPriv% PySem.Builtin.mergeHi
abbrev z9:Nat->StateT SortSt Sem Unit:=sortPriv% PySem.Builtin.setMinGallop
def VW(m:Nat):z9 m=modify λs=>SortSt.mk' (kindOf s) (arrOf s) (pendingOf s) m (failedOf s):=rfl
def Jo(a b:Array Keyed):Cy a b=(do
 rule "list.sort.merge-lo"
 let all_:=a.size+b.size
 let end1 (acc:Array Keyed) (p q:Nat):=acc++a.extract p a.size++b.extract q b.size
 let end2 (acc:Array Keyed) (p q:Nat):=acc++b.extract q b.size++a.extract p a.size
 let mut acc:Array Keyed:=#[<- elem' b 0]
 let mut p:=0
 let mut q:=1
 if q == b.size then return end1 acc p q
 if p+1 == a.size then return end2 acc p q
 let mut mg:=gallopOf (<- get)
 for _ in [0:all_] do
  let mut ca:=0
  let mut cb:=0
  for _ in [0:all_] do
   let some won <- lt' (<- elem' b q) (<- elem' a p)|return end1 acc p q
   if won then
    acc:=acc.push<|<- elem' b q;q:=q+1;cb:=cb+1;ca:=0
    if q == b.size then return end1 acc p q
    if cb>=mg then break
   else
    acc:=acc.push<|<- elem' a p;p:=p+1;ca:=ca+1;cb:=0
    if p+1 == a.size then return end2 acc p q
    if ca>=mg then break
  rule "list.sort.gallop"
  mg:=mg+1
  for _ in [0:all_] do
   if mg>1 then mg:=mg-1
   z9 mg
   let some k <- nY false (<- elem' b q) a p (a.size-p) 0|return end1 acc p q
   ca:=k
   if k>0 then
    acc:=acc++a.extract p (p+k);p:=p+k
    if p+1 == a.size then return end2 acc p q
    if p == a.size then return end1 acc p q
   acc:=acc.push<|<- elem' b q;q:=q+1
   if q == b.size then return end1 acc p q
   let some k <- nY true (<- elem' a p) b q (b.size-q) 0|return end1 acc p q
   cb:=k
   if k>0 then
    acc:=acc++b.extract q (q+k);q:=q+k
    if q == b.size then return end1 acc p q
   acc:=acc.push<|<- elem' a p;p:=p+1
   if p+1 == a.size then return end2 acc p q
   if ca<7 && cb<7 then break
  mg:=mg+1
  z9 mg
 unsupported "internal:list.sort.merge-bound"):=rfl
section
variable {o:Ord}{N:Nat}{f:Nat->Keyed}{A B hs:ar}{ia ib:Nat}
abbrev fa (f:Nat->Keyed)(l:ar):Array Keyed:=(l.map f).toArray
def oM(l:ar):(fa f l).size=l.length:=by unfold fa;rw[br,aI]
def Px(l:ar)(i:Nat):(fa f l)[i]?=(l[i]?).map f:=by unfold fa;rw[d8,aX]
def n9{l:ar}{i x:Nat}(h:l[i]?=some x):(fa f l)[i]?=some (f x):=by rw[Px,h];rfl
def xT(l:ar)(x:Nat):(fa f l).push (f x)=fa f (l++[x]):=by
 unfold fa;rw[List.push_toArray,bZ];rfl
def rJ(l m:ar):fa f l++fa f m=fa f (l++m):=by
 unfold fa;rw[List.append_toArray,bZ]
def zu(l:ar)(i j:Nat):(fa f l).extract i j=fa f ((l.drop i).take<|j-i):=by
 unfold fa;rw[List.extract_toArray,List.extract_eq_take_drop,map_take,map_drop]
def AN(l:ar)(i:Nat):(fa f l).extract i l.length=fa f (l.drop i):=by
 rw[zu,eU<|by rw[cB];lia]
structure Ab (o:Ord)(N:Nat)(A B:ar):Prop where
 sa:A.Pairwise (P o)
 sb:B.Pairwise (P o)
 lt:∀x∈A,∀y∈B,x<y
 nb:∀y∈B,y<N
 na:∀x∈A,x<N
structure Mg (o:Ord)(A B hs:ar)(ia ib:Nat):Prop where
 la:ia<=A.length
 lb:ib<=B.length
 len:hs.length=ia+ib
 so:hs.Pairwise (P o)
 mem:∀x∈hs,x∈A\/x∈B
 ua:∀x∈hs,∀y∈A.drop ia,P o x y
 ub:∀x∈hs,∀y∈B.drop ib,P o x y
abbrev Res (o:Ord)(f:Nat->Keyed)(A B:ar)(out:Array Keyed):Prop:=∃hs:ar,out=fa f hs/\hs.length=A.length+B.length/\hs.Pairwise (P o)/\∀x∈hs,x∈A\/x∈B
def vH{l:ar}(h:l.Pairwise<|P o){i j x:Nat}(hx:l[i]?=some x)(hy:l[j]?=some y)(hij:i<j):P o x y:=by
 obtain⟨h1,e1⟩:=aN.mp hx;obtain⟨h2,e2⟩:=aN.mp hy;rw[<- e1,<- e2];exact dF.mp h i j h1 h2 hij
def yQ{l:ar}{y:Nat}(h:y∈l.drop i):∃j,i<=j/\l[j]?=some y:=by
 obtain⟨k,c⟩:=gA h;rw[f7]at c;exact⟨i+k,(),c⟩
def Mg.Aa(ab:Ab o N A B)(m:Mg o A B hs ia ib){x:Nat}(hx:A[ia]?=some x)(h:∀y∈B.drop ib,P o x y):Mg o A B (hs++[x]) (ia+1) ib:=by
 obtain⟨h1,e1⟩:=aN.mp hx;have f:A.drop ia=x::A.drop (ia+1):=by rw[<- e1];exact cM h1
 refine⟨(),m.lb,by rw[aV,m.len];show ia+ib+1=_;lia,?_,λz d=>?_,λz d y e=>?_,λz d y e=>?_⟩
 ·rw[cG];exact⟨m.so,cg ..,λa g b p=>by rw[aS.mp p];exact m.ua a g x<|by rw[f];exact aK ..⟩
 ·rcases bG.mp d with c|c
  ·exact m.mem z c
  ·rw[aS.mp c];exact .inl<|aY hx
 ·rcases bG.mp d with c|c
  ·exact m.ua z c y (by rw[f];exact aO _ e)
  ·rw[aS.mp c];obtain⟨j,q,k⟩:=yQ e;exact vH ab.sa hx k ()
 ·rcases bG.mp d with c|c
  ·exact m.ub z c y e
  ·rw[aS.mp c];exact h y e
def Ab.A5(ab:Ab o N A B)(m:Mg o A B hs ia ib){x:Nat}(hx:B[ib]?=some x)(h:∀y∈A.drop ia,P o x y):Mg o A B (hs++[x]) ia (ib+1):=by
 obtain⟨h1,e1⟩:=aN.mp hx;have f:B.drop ib=x::B.drop (ib+1):=by rw[<- e1];exact cM h1
 refine⟨m.la,(),by rw[aV,m.len];rfl,?_,λz d=>?_,λz d y e=>?_,λz d y e=>?_⟩
 ·rw[cG];exact⟨m.so,cg ..,λa g b p=>by rw[aS.mp p];exact m.ub a g x<|by rw[f];exact aK ..⟩
 ·rcases bG.mp d with c|c
  ·exact m.mem z c
  ·rw[aS.mp c];exact .inr<|aY hx
 ·rcases bG.mp d with c|c
  ·exact m.ua z c y e
  ·rw[aS.mp c];exact h y e
 ·rcases bG.mp d with c|c
  ·exact m.ub z c y (by rw[f];exact aO _ e)
  ·rw[aS.mp c];obtain⟨j,q,k⟩:=yQ e;exact vH ab.sb hx k ()
def t9{l:ar}(h:l.Pairwise<|P o){i x:Nat}(hx:l[i]?=some x)(hxy:P o y x):∀z∈l.drop i,P o y z:=λz e=>by
 obtain⟨j,f,d⟩:=yQ e;by_cases c:j=i
 ·subst c;rw[hx]at d;cases d;exact hxy
 ·exact hxy.trans<|vH h hx d ()
def take_snoc{l:ar}{k x:Nat}(h:l[i+k]?=some x):(l.drop i).take (k+1)=(l.drop i).take k++[x]:=by
 have h':(l.drop i)[k]?=some x:=by rw[f7];exact h
 obtain⟨h1,e1⟩:=aN.mp h';rw[iD h1,e1]
theorem Mg.BW(ab:Ab o N A B)(m:Mg o A B hs ia ib)(hy:B[ib]?=some y):∀k,ia+k<=A.length->(∀i x,i<k->A[ia+i]?=some x->P o x y)->Mg o A B (hs++(A.drop ia).take k) (ia+k) ib
 | 0,_,_=>by rw[gB,cZ];exact m
 | k+1,hk,h=>by
  have ih:=Mg.BW ab m hy k () λi x hi=>h i x ();have c:A[ia+k]?=some (A[ia+k]'()):=aH _;rw[take_snoc c,<- bM];exact ih.Aa ab c<|t9 ab.sb hy<|h k _ () c
theorem Mg.BN(ab:Ab o N A B)(m:Mg o A B hs ia ib)(hy:A[ia]?=some y):∀k,ib+k<=B.length->(∀i x,i<k->B[ib+i]?=some x->P o x y)->Mg o A B (hs++(B.drop ib).take k) ia (ib+k)
 | 0,_,_=>by rw[gB,cZ];exact m
 | k+1,hk,h=>by
  have d:=Mg.BN ab m hy k () λi x hi=>h i x ();have c:B[ib+k]?=some (B[ib+k]'()):=aH _;rw[take_snoc c,<- bM];exact ab.A5 d c<|t9 ab.sa hy<|h k _ () c
def Ax{l:ar}(h:l.Pairwise<|P o)(i:Nat):(l.drop i).Pairwise (P o):=h.sublist<|List.drop_sublist ..
def Mg.fin(ab:Ab o N A B)(m:Mg o A B hs ia ib)(h:∀x∈A.drop ia,∀y∈B.drop ib,P o x y):Res o f A B (fa f hs++(fa f A).extract ia A.length++(fa f B).extract ib B.length):=by
 rw[AN,AN,rJ,rJ];have la:=m.la;have lb:=m.lb;refine⟨_,rfl,by rw[aV,aV,m.len,cB,cB];lia,?_,λx c=>?_⟩
 ·rw[cG,cG];refine⟨⟨m.so,Ax ab.sa _,m.ua⟩,Ax ab.sb _,λx c y d=>?_⟩
  rcases bG.mp c with z|z
  ·exact m.ub x z y d
  ·exact h x z y d
 ·rcases bG.mp c with z|z
  ·rcases bG.mp z with z|z
   ·exact m.mem x z
   ·exact .inl<|fF z
  ·exact .inr<|fF z
def Mg.Z7(ab:Ab o N A B)(m:Mg o A B hs ia ib)(h:∀x∈A.drop ia,∀y∈B.drop ib,P o y x):Res o f A B (fa f hs++(fa f B).extract ib B.length++(fa f A).extract ia A.length):=by
 rw[AN,AN,rJ,rJ];have la:=m.la;have lb:=m.lb;refine⟨_,rfl,by rw[aV,aV,m.len,cB,cB];omega,?_,λx c=>?_⟩
 ·rw[cG,cG];refine⟨⟨m.so,Ax ab.sb _,m.ub⟩,Ax ab.sa _,λx c y d=>?_⟩
  rcases bG.mp c with z|z
  ·exact m.ua x z y d
  ·exact h y d x z
 ·rcases bG.mp c with z|z
  ·rcases bG.mp z with z|z
   ·exact m.mem x z
   ·exact .inr<|fF z
  ·exact .inl<|fF z
def drop_nil{l:ar}(h:l.length<=i):l.drop i=[]:=List.drop_eq_nil_of_le h
def K6{l:ar}(h:l.Pairwise<|P o)(b n:Nat)(hn:b+n<=l.length):So o (λi=>l.getD (b+i) 0) 0 n:=λi j _ c d=>
 vH h (i:=b+i) (j:=b+j) (by show _=some (l.getD (b+i) 0);rw[aL,aH<|show b+i<l.length by lia];rfl) (by show _=some (l.getD (b+j) 0);rw[aL,aH<|show b+j<l.length by lia];rfl) ()
def getD_at{l:ar}{i:Nat}(h:i<l.length):l[i]?=some (l.getD i 0):=by
 rw[aL,aH h];rfl
end
structure Sm (st st':SortSt):Prop where
 a:arrOf st'=arrOf st
 k:kindOf st'=kindOf st
 p:pendingOf st'=pendingOf st
 f:failedOf st'=failedOf st
def Sm.refl{st:SortSt}:Sm st st:=⟨rfl,rfl,rfl,rfl⟩
def Sm.trans{st:SortSt}(a:Sm st st')(b:Sm st' st''):Sm st st'':=⟨b.a.trans a.a,b.k.trans a.k,b.p.trans a.p,b.f.trans a.f⟩
meta abbrev G:=Option (Array Keyed)×Array Keyed×Nat×Nat×Nat×Nat×Nat
abbrev T3 (a b out:Array Keyed)(ia ib mg ac bc:Nat):StateT SortSt Sem (ForInStep G):=do
 let x <- elem' a ia
 if (ia+1+1 == a.size)=true then pure (ForInStep.done (some<|out.push x++b.extract ib b.size++a.extract (ia+1) a.size,out.push x,ia+1,ib,mg,ac,bc))
 else if (decide (ac<7) && decide (bc<7))=true then pure (ForInStep.done (none,out.push x,ia+1,ib,mg,ac,bc))
 else pure (ForInStep.yield (none,out.push x,ia+1,ib,mg,ac,bc))
abbrev T2 (a b out:Array Keyed)(ia ib mg ac bc:Nat):StateT SortSt Sem (ForInStep G):=do
 let x <- elem' b ib
 if (ib+1 == b.size)=true then pure (ForInStep.done (some<|out.push x++a.extract ia a.size++b.extract (ib+1) b.size,out.push x,ia,ib+1,mg,ac,bc))
 else
  let y <- elem' a ia
  let r <- nY true y b (ib+1) (b.size-(ib+1)) 0
  match r with
  | some k=>
   if k>0 then
    if (ib+1+k == b.size)=true then pure (ForInStep.done (some<|out.push x++b.extract (ib+1) (ib+1+k)++a.extract ia a.size++b.extract (ib+1+k) b.size,out.push x++b.extract (ib+1) (ib+1+k),ia,ib+1+k,mg,ac,k))
    else T3 a b (out.push x++b.extract (ib+1) (ib+1+k)) ia (ib+1+k) mg ac k
   else T3 a b (out.push x) ia (ib+1) mg ac k
  | _=>pure<|ForInStep.done (some<|out.push x++a.extract ia a.size++b.extract (ib+1) b.size,out.push x,ia,ib+1,mg,ac,bc)
abbrev T1 (a b out:Array Keyed)(ia ib mg ac bc:Nat):StateT SortSt Sem (ForInStep G):=do
 z9 mg
 let x <- elem' b ib
 let r <- nY false x a ia (a.size-ia) 0
 match r with
 | some k=>
  if k>0 then
   if (ia+k+1 == a.size)=true then pure (ForInStep.done (some<|out++a.extract ia (ia+k)++b.extract ib b.size++a.extract (ia+k) a.size,out++a.extract ia (ia+k),ia+k,ib,mg,k,bc))
   else if (ia+k == a.size)=true then pure (ForInStep.done (some<|out++a.extract ia (ia+k)++a.extract (ia+k) a.size++b.extract ib b.size,out++a.extract ia (ia+k),ia+k,ib,mg,k,bc))
   else T2 a b (out++a.extract ia (ia+k)) (ia+k) ib mg k bc
  else T2 a b out ia ib mg k bc
 | _=>pure<|ForInStep.done (some<|out++a.extract ia a.size++b.extract ib b.size,out,ia,ib,mg,ac,bc)
section
variable {prog:aj}{w:ah}{A:aA}{E:af->aC->Prop}{s:aC}{o:Ord}{N:Nat}{f:Nat->Keyed}{kd:SortKind}{st st0:SortSt}{X Y hs:ar}{ia ib:Nat}
def xU(h:Sm st0 st){Q:Unit->SortSt->Prop}(q:∀st',Sm st0 st'->Q Unit.unit st'):wpS (model prog w) A E s (z9 m) Q st:=by
 rw[VW];exact f6<|q _<|h.trans ⟨rfl,rfl,rfl,rfl⟩
abbrev On (o:Ord)(f:Nat->Keyed)(X Y:ar)(n:Nat)(hs:ar)(ia ib:Nat):Prop:=Mg o X Y hs ia ib/\ia+1<X.length/\ib<Y.length/\n<=ia+ib
abbrev G2 (o:Ord)(f:Nat->Keyed)(X Y:ar)(n:Nat)(st0:SortSt):ForInStep G->SortSt->Prop:=λr g=>Sm st0 g/\match r with
 | .done c=>(∃r z,c=(some r,z)/\Res o f X Y r)\/∃hs ia ib mg d e,c=(none,fa f hs,ia,ib,mg,d,e)/\On o f X Y n hs ia ib
 | .yield c=>∃hs ia ib mg d e,c=(none,fa f hs,ia,ib,mg,d,e)/\On o f X Y n hs ia ib
abbrev Top (o:Ord)(X Y:ar):Prop:=∀i x,X[i]?=some x->i+1=X.length->∀y∈Y,P o y x
def un3{α β γ κ:Type}{g:α->κ}{O:α->β->γ->Prop}{T:κ->Prop}(k:∀a b c,O a b c->T (g a)):∀q,(∃a b c,q=g a/\O a b c)->T q:=by
 rintro _ ⟨a,b,c,rfl,h⟩;exact k a b c h
def un4{α β γ δ κ:Type}{S:Prop}{g:α->β->γ->δ->κ}{O:α->β->γ->δ->Prop}{T:κ->Prop}(k:S->∀a b c d,O a b c d->T (g a b c d)):∀q,(S/\∃a b c d,q=g a b c d/\O a b c d)->T q:=by
 rintro q ⟨s,a,b,c,d,rfl,o⟩;exact k s a b c d o
def un5{α β γ δ ε κ:Type}{S:Prop}{g:α->β->γ->δ->ε->κ}{O:α->β->γ->δ->ε->Prop}{T:κ->Prop}(k:S->∀a b c d e,O a b c d e->T (g a b c d e)):∀q,(S/\∃a b c d e,q=g a b c d e/\O a b c d e)->T q:=by
 rintro q ⟨s,a,b,c,d,e,rfl,o⟩;exact k s a b c d e o
def un6{α β γ δ ε ζ κ:Type}{S:Prop}{g:α->β->γ->δ->ε->ζ->κ}{O:α->β->γ->δ->ε->ζ->Prop}{T:κ->Prop}(k:S->∀a b c d e f,O a b c d e f->T (g a b c d e f)):∀q,(S/\∃a b c d e f,q=g a b c d e f/\O a b c d e f)->T q:=by
 rintro q ⟨s,a,b,c,d,e,f,rfl,o⟩;exact k s a b c d e f o
def uo5{α β γ δ ε κ ρ σ:Type}{S:Prop}{j:ρ->σ->κ}{R:ρ->Prop}{g:α->β->γ->δ->ε->κ}{O:α->β->γ->δ->ε->Prop}{T:κ->Prop}(k1:S->∀r z,R r->T (j r z))(k:S->∀a b c d e,O a b c d e->T (g a b c d e)):∀q,(S/\((∃r z,q=j r z/\R r)\/∃a b c d e,q=g a b c d e/\O a b c d e))->T q:=by
 rintro q ⟨s,⟨r,z,rfl,f⟩|⟨a,b,c,d,e,rfl,o⟩⟩
 ·exact k1 s r z f
 ·exact k s a b c d e o
def uo6{α β γ δ ε ζ κ ρ σ:Type}{S:Prop}{j:ρ->σ->κ}{R:ρ->Prop}{g:α->β->γ->δ->ε->ζ->κ}{O:α->β->γ->δ->ε->ζ->Prop}{T:κ->Prop}(k1:S->∀r z,R r->T (j r z))(k:S->∀a b c d e f,O a b c d e f->T (g a b c d e f)):∀q,(S/\((∃r z,q=j r z/\R r)\/∃a b c d e f,q=g a b c d e f/\O a b c d e f))->T q:=by
 rintro q ⟨s,⟨r,z,rfl,m⟩|⟨a,b,c,d,e,f,rfl,o⟩⟩
 ·exact k1 s r z m
 ·exact k s a b c d e f o
def yi(ab:Ab o N X Y)(tp:Top o X Y)(m:Mg o X Y hs ia ib)(h:ia+1=X.length):Res o f X Y (fa f hs++(fa f Y).extract ib Y.length++(fa f X).extract ia X.length):=
 m.Z7 ab λx d y e=>by
  obtain⟨j,g,c⟩:=yQ d;have:=(aN.mp c).1;exact tp j x c () y<|fF e
def XM(ab:Ab o N X Y)(tp:Top o X Y)(hm:Sm st0 st){n mg x:Nat}(m:Mg o X Y hs ia ib)(ha:ia+1<X.length)(hb:ib<Y.length)(hn:n<=ia+ib)(hx:X[ia]?=some x)(hy:Y[ib]?=some y)(hxy:P o x y) :
  wpS (model prog w) A E s (T3 (fa f X) (fa f Y) (fa f hs) ia ib mg ac bc) (G2 o f X Y n st0) st:=by
 unfold T3;rw[oM,oM];refine bh<|kM (n9 hx) ?_;have d:=m.Aa ab hx<|t9 ab.sb hy hxy;rw[xT];by_cases c:ia+1+1=X.length
 ·rw[aM<|by rw[c];exact bS _];exact bC ⟨hm,.inl ⟨_,_,rfl,yi ab tp d c⟩⟩
 ·rw[aJ<|by simpa using c];by_cases c2:(decide (ac<7) && decide (bc<7))=true
  ·rw[aM c2];exact bC ⟨hm,.inr ⟨_,_,_,_,_,_,rfl,d,(),hb,()⟩⟩
  ·rw[aJ c2];exact bC ⟨hm,⟨_,_,_,_,_,_,rfl,d,(),hb,()⟩⟩
def XJ(C:D7 prog w A s o N f kd)(hk:kindOf st=kd)(ab:Ab o N X Y)(tp:Top o X Y)(hm:Sm st0 st){n mg x:Nat}(m:Mg o X Y hs ia ib)(ha:ia+1<X.length)(hb:ib<Y.length)(hn:n<=ia+ib)(hx:X[ia]?=some x)(hy:Y[ib]?=some y)(hxy:P o y x) :
  wpS (model prog w) A E s (T2 (fa f X) (fa f Y) (fa f hs) ia ib mg ac bc) (G2 o f X Y n st0) st:=by
 unfold T2;rw[oM,oM];refine bh<|kM (n9 hy) ?_;have m2:=ab.A5 m hy<|t9 ab.sa hx hxy;rw[xT];by_cases c:ib+1=Y.length
 ·rw[aM<|by rw[c];exact bS _];exact bC ⟨hm,.inl ⟨_,_,rfl,m2.fin ab λx _ y hy=>by rw[drop_nil ()]at hy;cases hy⟩⟩
 ·rw[aJ<|by simpa using c];refine bh<|kM (n9 hx) ?_;refine bh (Rl C hk (h:=λi=>Y.getD (ib+1+i) 0) (λi hi=>n9<|getD_at ()) (λi hi=>?_) (K6 ab.sb _ _ ()) () λk p g d=>?_)
  ·have:=aY<|getD_at (l:=Y) (i:=ib+1+i) ();exact⟨ab.lt x (aY hx) _ this,ab.nb _ this⟩
  ·dsimp only;have e:=m2.BN ab hx k () λi z hi j=>by
    have:=g i hi;rw[aL,j]at this;exact this
   by_cases c2:k>0
   ·rw[aM c2,zu,show ib+1+k-(ib+1)=k by lia,rJ];by_cases c3:ib+1+k=Y.length
    ·rw[aM<|by rw[c3];exact bS _];exact bC ⟨hm,.inl ⟨_,_,rfl,e.fin ab λx _ y hy=>by rw[drop_nil ()]at hy;cases hy⟩⟩
    ·rw[aJ<|by simpa using c3];exact XM ab tp hm e ha () () hx (getD_at ())<|d k (aP _) ()
   ·rw[aJ c2];have:k=0:=()
    subst this;exact XM ab tp hm m2 ha () () hx (getD_at ())<|d 0 (aP _) ()
def abc(C:D7 prog w A s o N f kd)(hk:kindOf st0=kd)(ab:Ab o N X Y)(tp:Top o X Y)(hm:Sm st0 st){n mg:Nat}(m:Mg o X Y hs ia ib)(ha:ia+1<X.length)(hb:ib<Y.length)(hn:n<=ia+ib) :
  wpS (model prog w) A E s (T1 (fa f X) (fa f Y) (fa f hs) ia ib mg ac bc) (G2 o f X Y n st0) st:=by
 unfold T1;rw[oM,oM];refine bh<|xU hm λB c=>?_;have d:=getD_at (l:=Y) (i:=ib) hb;have j:=aY d;refine bh<|kM (n9 d) ?_;refine bh (P1 C (by rw[c.k];exact hk) (h:=λi=>X.getD (ia+i) 0) (λi hi=>n9<|getD_at ()) (λi hi=>ab.lt _ (aY<|getD_at (l:=X) (i:=ia+i) ()) _ j) (ab.nb _ j) (K6 ab.sa _ _ ()) () λk J F q=>?_);dsimp only;have e:=m.BW ab d k () λi z hi G=>by
  have:=F i hi;rw[aL,G]at this;exact this
 by_cases c2:k>0
 ·rw[aM c2,zu,show ia+k-ia=k by lia,rJ];by_cases c3:ia+k+1=X.length
  ·rw[aM<|by rw[c3];exact bS _];exact bC ⟨c,.inl ⟨_,_,rfl,yi ab tp e c3⟩⟩
  ·rw[aJ<|by simpa using c3];by_cases g:ia+k=X.length
   ·rw[aM<|by rw[g];exact bS _];exact bC ⟨c,.inl ⟨_,_,rfl,e.fin ab λx p y _=>by rw[drop_nil ()]at p;cases p⟩⟩
   ·rw[aJ<|by simpa using g];exact XJ C (by rw[c.k];exact hk) ab tp c e () hb () (getD_at ()) d<|q k (aP _) ()
 ·rw[aJ c2];have:k=0:=()
  subst this;exact XJ C (by rw[c.k];exact hk) ab tp c m ha hb hn (getD_at ()) d<|q 0 (aP _) ()
def abJ(C:D7 prog w A s o N f kd)(hk:kindOf st=kd)(ab:Ab o N X Y)(tp:Top o X Y)(h1:1<=X.length)(hy0:Y[0]?=some y0)(h0:∀x∈X,P o y0 x)
  {Q:Array Keyed->SortSt->Prop} (q:∀out st',Sm st st'->Res o f X Y out->Q out st'):wpS (model prog w) A E s (Cy (fa f X)<|fa f Y) Q st:=by
 rw[Jo];mg_lt;dsimp only;rw[oM,oM];have hY:=(aN.mp hy0).1;refine bh<|kM (n9 hy0) ?_;have m0:Mg o X Y [] 0 0:=⟨bY _,bY _,rfl,List.Pairwise.nil,(nofun),(nofun),(nofun)⟩;have m1:Mg o X Y [y0] 0 1:=ab.A5 m0 hy0 h0;have e1:(#[f y0]:Array Keyed)=fa f [y0]:=rfl;rw[e1];by_cases c:1=Y.length
 ·rw[aM<|by rw[<- c];rfl];exact bC (q _ _ Sm.refl<|m1.fin ab λx _ y F=>by rw[drop_nil ()]at F;cases F)
 ·rw[aJ<|by simpa using c];by_cases c2:0+1=X.length
  ·rw[aM<|by rw[<- c2];rfl];exact bC (q _ _ Sm.refl<|yi ab tp m1 c2)
  ·rw[aJ<|by simpa using c2];refine bh<|iC ?_;refine bh (eT (cX (I:=λx c st'=>Sm st st'/\∃hs ia ib mg,c=(none,fa f hs,ia,ib,mg)/\On o f X Y (x+1) hs ia ib)
    (Q:=λc st'=>Sm st st'/\∃r z,c=(some r,z)/\Res o f X Y r) ?step ?fin ⟨Sm.refl,_,_,_,_,rfl,m1,(),(),aP _⟩) ?post)
   case post=>
    rintro c st' ⟨V,r,z,rfl,M⟩;exact bC<|q _ _ V M
   case fin=>
    rintro c st' ⟨V,hs,ia,ib,mg,rfl,m,B,p,K⟩;exfalso
    lia
   case step=>
    intro x c st' _ hx J;revert J;revert c;refine un4 λV hs ia ib mg e=>?_;have m:=e.1;have B:=e.2.1;have p:=e.2.2.1;have K:=e.2.2.2;clear e;dsimp only;refine bh (eT (cX (I:=λZ c d=>Sm st d/\∃hs ia ib ac bc,c=(none,fa f hs,ia,ib,ac,bc)/\On o f X Y (x+1+min Z 1) hs ia ib)
     (Q:=λc d=>Sm st d/\((∃r z,c=(some r,z)/\Res o f X Y r)\/∃hs ia ib ac bc,c=(none,fa f hs,ia,ib,ac,bc)/\On o f X Y (x+1+1) hs ia ib)) ?istep ?ifin ⟨V,_,_,_,_,_,rfl,m,B,p,K⟩) ?ipost)
    case ifin=>
     rintro c d ⟨g,hs,ia,ib,ac,bc,rfl,m,B,p,K⟩;exact⟨g,.inr ⟨_,_,_,_,_,rfl,m,B,p,()⟩⟩
    case istep=>
     intro Z c d _ hx' J;revert J;revert c;refine un5 λg hs ia ib ac bc e=>?_;have m:=e.1;have B:=e.2.1;have p:=e.2.2.1;have K:=e.2.2.2;clear e;dsimp only;have F:=getD_at (l:=Y) (i:=ib) p;have G:=getD_at (l:=X) (i:=ia) ();have yB:=aY F;have xA:=aY G;have lt:=ab.lt _ xA _ yB;refine bh<|kM (n9 F) ?_;refine bh<|kM (n9 G) ?_;refine bh (Ck C (by rw[g.k];exact hk) (ab.nb _ yB) (ab.na _ xA) ?_)
     cases hl:o.lt (Y.getD ib 0) (X.getD ia 0)
     ·dsimp[a_,bU];refine bh<|kM (n9 G) ?_;have O:=m.Aa ab G<|t9 ab.sb F<|P.zU hl lt;rw[xT];by_cases c3:ia+1+1=X.length
      ·rw[aM<|by rw[c3];exact bS _];exact bC ⟨g,.inl ⟨_,_,rfl,yi ab tp O c3⟩⟩
      ·rw[aJ<|by simpa using c3];by_cases T:ac+1>=mg
       ·rw[aM T];exact bC ⟨g,.inr ⟨_,_,_,_,_,rfl,O,(),p,()⟩⟩
       ·rw[aJ T];exact bC ⟨g,_,_,_,_,_,rfl,O,(),p,()⟩
     ·dsimp[cK];refine bh<|kM (n9 F) ?_;have O:=ab.A5 m F<|t9 ab.sa G<|P.of_lt hl;rw[xT];by_cases c3:ib+1=Y.length
      ·rw[aM<|by rw[c3];exact bS _];exact bC ⟨g,.inl ⟨_,_,rfl,O.fin ab λx _ y F=>by rw[drop_nil ()]at F;cases F⟩⟩
      ·rw[aJ<|by simpa using c3];by_cases T:bc+1>=mg
       ·rw[aM T];exact bC ⟨g,.inr ⟨_,_,_,_,_,rfl,O,B,(),()⟩⟩
       ·rw[aJ T];exact bC ⟨g,_,_,_,_,_,rfl,O,B,(),()⟩
    case ipost=>
     intro c d J;revert J;revert c;refine uo5 (λg r z M=>?_) λg hs ia ib ac bc e=>?_
     ·dsimp only;exact bC ⟨g,r,_,rfl,M⟩
     ·have m:=e.1;have B:=e.2.1;have p:=e.2.2.1;have K:=e.2.2.2;clear e;dsimp only;mg_lt;refine bh (eT (cX (I:=λZ c d=>Sm st d/\∃hs ia ib mg ac bc,c=(none,fa f hs,ia,ib,mg,ac,bc)/\On o f X Y (x+1+1) hs ia ib)
       (Q:=λc d=>Sm st d/\((∃r z,c=(some r,z)/\Res o f X Y r)\/∃hs ia ib mg ac bc,c=(none,fa f hs,ia,ib,mg,ac,bc)/\On o f X Y (x+1+1) hs ia ib)) ?jstep ?jfin ⟨g,_,_,_,_,_,_,rfl,m,B,p,K⟩) ?jpost)
      case jfin=>
       rintro c U ⟨j,J⟩;exact⟨j,.inr J⟩
      case jstep=>
       intro Z c U _ hx' J;revert J;revert c;refine un6 λj hs ia ib mg ac bc e=>?_;have m:=e.1;have B:=e.2.1;have p:=e.2.2.1;have K:=e.2.2.2;clear e;dsimp only;have W:=λmg=>abc (n:=x+1+1) (mg:=mg) (ac:=ac) (bc:=bc) (E:=E) C hk ab tp j m B p K;unfold T1 T2 T3 at W;rw[oM,oM]at W;refine eT (Q:=G2 o f X Y (x+1+1) st) ?_ ?_
       ·by_cases c3:mg>1
        ·rw[aM c3];exact W (mg-1)
        ·rw[aJ c3];exact W mg
       ·rintro r st4 ⟨L,M⟩
        cases r with
        | done c=>exact⟨L,M⟩
        | yield c=>exact⟨L,M⟩
      case jpost=>
       intro c U J;revert J;revert c;refine uo6 (λj r z M=>?_) λj hs ia ib mg ac bc e=>?_
       ·dsimp only;exact bC ⟨j,r,_,rfl,M⟩
       ·have m:=e.1;have B:=e.2.1;have p:=e.2.2.1;have K:=e.2.2.2;clear e;dsimp only;refine bh<|xU j λst4 L=>?_;exact bC ⟨L,_,_,_,_,rfl,m,B,p,K⟩
end
def Iz(a b:Array Keyed):BY a b=(do
 rule "list.sort.merge-hi"
 let all_:=a.size+b.size
 let end1 (acc:Array Keyed) (p q:Nat):=a.extract 0 p++b.extract 0 q++acc.reverse
 let end2 (acc:Array Keyed) (p q:Nat):=b.extract 0 q++a.extract 0 p++acc.reverse
 let mut p:=a.size-1
 let mut q:=b.size
 let mut acc:Array Keyed:=#[<- elem' a p]
 if p == 0 then return end1 acc p q
 if q == 1 then return end2 acc p q
 let mut mg:=gallopOf (<- get)
 for _ in [0:all_] do
  let mut ca:=0
  let mut cb:=0
  for _ in [0:all_] do
   let some won <- lt' (<- elem' b (q-1)) (<- elem' a (p-1))|return end1 acc p q
   if won then
    p:=p-1;acc:=acc.push<|<- elem' a p;ca:=ca+1;cb:=0
    if p == 0 then return end1 acc p q
    if ca>=mg then break
   else
    q:=q-1;acc:=acc.push<|<- elem' b q;cb:=cb+1;ca:=0
    if q == 1 then return end2 acc p q
    if cb>=mg then break
  rule "list.sort.gallop"
  mg:=mg+1
  for _ in [0:all_] do
   if mg>1 then mg:=mg-1
   z9 mg
   let some t <- nY false (<- elem' b (q-1)) a 0 p (p-1)|return end1 acc p q
   let k:=p-t
   ca:=k
   if k>0 then
    acc:=acc++(a.extract t p).reverse;p:=t
    if p == 0 then return end1 acc p q
   q:=q-1;acc:=acc.push (<- elem' b q)
   if q == 1 then return end2 acc p q
   let some t <- nY true (<- elem' a (p-1)) b 0 q (q-1)|return end1 acc p q
   let k:=q-t
   cb:=k
   if k>0 then
    acc:=acc++(b.extract t q).reverse;q:=t
    if q == 1 then return end2 acc p q
    if q == 0 then return end1 acc p q
   p:=p-1;acc:=acc.push (<- elem' a p)
   if p == 0 then return end1 acc p q
   if ca<7 && cb<7 then break
  mg:=mg+1
  z9 mg
 unsupported "internal:list.sort.merge-bound"):=rfl
section
variable {o:Ord}{N:Nat}{f:Nat->Keyed}{A B ts:ar}{na nb:Nat}
def OO(l:ar):(fa f l).reverse=fa f l.reverse:=by
 unfold fa;rw[List.reverse_toArray,List.map_reverse]
def Av(l:ar)(i:Nat):(fa f l).extract 0 i=fa f (l.take i):=by
 rw[zu,List.drop_zero,Nat.sub_zero]
structure Mh (o:Ord)(A B ts:ar)(na nb:Nat):Prop where
 la:na<=A.length
 lb:nb<=B.length
 len:ts.length+na+nb=A.length+B.length
 so:ts.Pairwise (P o)
 mem:∀x∈ts,x∈A\/x∈B
 ua:∀y∈A.take na,∀x∈ts,P o y x
 ub:∀y∈B.take nb,∀x∈ts,P o y x
def xW{l:ar}{y:Nat}(h:y∈l.take i):∃j,j<i/\l[j]?=some y:=by
 obtain⟨k,c⟩:=gA h;have:=(aN.mp c).1;rw[bE]at this;rw[eo ()]at c;exact⟨k,(),c⟩
def take_one{l:ar}{i x:Nat}(h:l[i]?=some x):l.take (i+1)=l.take i++[x]:=by
 obtain⟨h1,e1⟩:=aN.mp h;rw[iD h1,e1]
def Mh.Aa(ab:Ab o N A B)(m:Mh o A B ts (na+1) nb){x:Nat}(hx:A[na]?=some x)(h:∀y∈B.take nb,P o y x):Mh o A B (x::ts) na nb:=by
 have la:=m.la;have len:=m.len;have g:=take_one hx;have f:x∈A.take (na+1):=by rw[g];exact cu _ (aS.mpr rfl)
 refine⟨(),m.lb,by rw[bu];lia,bV.mpr ⟨λy c=>m.ua x f y c,m.so⟩,λz d=>?_,λy c z d=>?_,λy c z d=>?_⟩
 ·rcases bB.mp d with rfl|e
  ·exact .inl (aY hx)
  ·exact m.mem z e
 ·rcases bB.mp d with rfl|e
  ·obtain⟨j,k,p⟩:=xW c;exact vH ab.sa p hx k
  ·exact m.ua y (by rw[g];exact fy _ c) z e
 ·rcases bB.mp d with rfl|e
  ·exact h y c
  ·exact m.ub y c z e
def Mh.Tc(ab:Ab o N A B)(m:Mh o A B ts na<|nb+1){x:Nat}(hx:B[nb]?=some x)(h:∀y∈A.take na,P o y x):Mh o A B (x::ts) na nb:=by
 have lb:=m.lb;have len:=m.len;have g:=take_one hx;have f:x∈B.take (nb+1):=by rw[g];exact cu _ (aS.mpr rfl)
 refine⟨m.la,(),by rw[bu];lia,bV.mpr ⟨λy c=>m.ub x f y c,m.so⟩,λz d=>?_,λy c z d=>?_,λy c z d=>?_⟩
 ·rcases bB.mp d with rfl|e
  ·exact .inr (aY hx)
  ·exact m.mem z e
 ·rcases bB.mp d with rfl|e
  ·exact h y c
  ·exact m.ua y c z e
 ·rcases bB.mp d with rfl|e
  ·obtain⟨j,k,p⟩:=xW c;exact vH ab.sb p hx k
  ·exact m.ub y (by rw[g];exact fy _ c) z e
def uf{l:ar}(h:l.Pairwise<|P o){i x:Nat}(hx:l[i]?=some x)(hxy:P o x y):∀z∈l.take (i+1),P o z y:=λz e=>by
 obtain⟨j,f,d⟩:=xW e;by_cases c:j=i
 ·subst c;rw[hx]at d;cases d;exact hxy
 ·exact(vH h d hx ()).trans hxy
theorem Mh.BW(ab:Ab o N A B){mb:Nat}(hy:B[mb]?=some y):∀(k:Nat) {ts:ar}{at_:Nat},Mh o A B ts (at_+k) (mb+1)->(∀i x,at_<=i->i<at_+k->A[i]?=some x->P o y x)->Mh o A B ((A.drop at_).take k++ts) at_ (mb+1)
 | 0,ts,at_,m,_=>by rw[gB];exact m
 | k+1,ts,at_,m,h=>by
  have la:=m.la;have c:A[at_+k]?=some (A[at_+k]'()):=aH _;have d:=Mh.Aa ab (show Mh o A B ts (at_+k+1) (mb+1)from m) c<|uf ab.sb hy<|h _ _ () () c;have e:=Mh.BW ab hy k d λi x h1 h2=>h i x h1 ();rw[take_snoc c,bM];exact e
theorem Mh.BN(ab:Ab o N A B){ma:Nat}(hy:A[ma]?=some y):∀(k:Nat) {ts:ar}{at_:Nat},Mh o A B ts (ma+1) (at_+k)->(∀i x,at_<=i->i<at_+k->B[i]?=some x->P o y x)->Mh o A B ((B.drop at_).take k++ts) (ma+1) at_
 | 0,ts,at_,m,_=>by rw[gB];exact m
 | k+1,ts,at_,m,h=>by
  have lb:=m.lb;have c:B[at_+k]?=some (B[at_+k]'()):=aH _;have d:=Mh.Tc ab (show Mh o A B ts (ma+1) (at_+k+1)from m) c<|uf ab.sa hy<|h _ _ () () c;have e:=Mh.BN ab hy k d λi x h1 h2=>h i x h1 ();rw[take_snoc c,bM];exact e
def Az{l:ar}(h:l.Pairwise<|P o)(i:Nat):(l.take i).Pairwise (P o):=h.sublist<|List.take_sublist ..
def Mh.fin(ab:Ab o N A B)(m:Mh o A B ts na nb)(h:∀x∈A.take na,∀y∈B.take nb,P o x y):Res o f A B ((fa f A).extract 0 na++(fa f B).extract 0 nb++fa f ts):=by
 rw[Av,Av,rJ,rJ];have la:=m.la;have lb:=m.lb;have len:=m.len;refine⟨_,rfl,by rw[aV,aV,bE,bE];lia,?_,λx c=>?_⟩
 ·rw[cG,cG];refine⟨⟨Az ab.sa _,Az ab.sb _,h⟩,m.so,λx c y d=>?_⟩
  rcases bG.mp c with z|z
  ·exact m.ua x z y d
  ·exact m.ub x z y d
 ·rcases bG.mp c with z|z
  ·rcases bG.mp z with z|z
   ·exact .inl (cQ z)
   ·exact .inr<|cQ z
  ·exact m.mem x z
def Mh.Z7(ab:Ab o N A B)(m:Mh o A B ts na nb)(h:∀x∈A.take na,∀y∈B.take nb,P o y x):Res o f A B ((fa f B).extract 0 nb++(fa f A).extract 0 na++fa f ts):=by
 rw[Av,Av,rJ,rJ];have la:=m.la;have lb:=m.lb;have len:=m.len;refine⟨_,rfl,by rw[aV,aV,bE,bE];lia,?_,λx c=>?_⟩
 ·rw[cG,cG];refine⟨⟨Az ab.sb _,Az ab.sa _,λx c y d=>h y d x c⟩,m.so,λx c y d=>?_⟩
  rcases bG.mp c with z|z
  ·exact m.ub x z y d
  ·exact m.ua x z y d
 ·rcases bG.mp c with z|z
  ·rcases bG.mp z with z|z
   ·exact .inr (cQ z)
   ·exact .inl<|cQ z
  ·exact m.mem x z
abbrev Bot (o:Ord)(X Y:ar):Prop:=∀y,Y[0]?=some y->∀x∈X,P o y x
def wO(ab:Ab o N A B)(bt:Bot o A B)(m:Mh o A B ts na nb)(h:nb=1):Res o f A B ((fa f B).extract 0 nb++(fa f A).extract 0 na++fa f ts):=
 m.Z7 ab λx c y e=>by
  obtain⟨j,g,d⟩:=xW e;have:j=0:=()
  subst this;exact bt y d x<|cQ c
def Mh.G6(ab:Ab o N A B)(m:Mh o A B ts na nb)(h:na=0\/nb=0):Res o f A B ((fa f A).extract 0 na++(fa f B).extract 0 nb++fa f ts):=
 m.fin ab λx c y d=>by
  rcases h with rfl|rfl
  ·rw[gB]at c;cases c
  ·rw[gB]at d;cases d
def Au(l:ar)(x:Nat):(fa f l.reverse).push (f x)=fa f (x::l).reverse:=by rw[xT,eO]
def QD(l m:ar):fa f l.reverse++(fa f m).reverse=fa f (m++l).reverse:=by rw[OO,rJ,List.reverse_append]
def xm(l:ar):(fa f l.reverse).reverse=fa f l:=by rw[OO,fG]
end
meta abbrev H:=Option (Array Keyed)×Nat×Nat×Array Keyed×Nat×Nat×Nat
abbrev U3 (a b out:Array Keyed)(na nb mg ac bc:Nat):StateT SortSt Sem (ForInStep H):=do
 let x <- elem' a (na-1)
 if (na-1 == 0)=true then pure (ForInStep.done (some<|a.extract 0 (na-1)++b.extract 0 nb++(out.push x).reverse,na-1,nb,out.push x,mg,ac,bc))
 else if (decide (ac<7) && decide (bc<7))=true then pure (ForInStep.done (none,na-1,nb,out.push x,mg,ac,bc))
 else pure (ForInStep.yield (none,na-1,nb,out.push x,mg,ac,bc))
abbrev U2 (a b out:Array Keyed)(na nb mg ac bc:Nat):StateT SortSt Sem (ForInStep H):=do
 let x <- elem' b (nb-1)
 if (nb-1 == 1)=true then pure (ForInStep.done (some<|b.extract 0 (nb-1)++a.extract 0 na++(out.push x).reverse,na,nb-1,out.push x,mg,ac,bc))
 else
  let y <- elem' a (na-1)
  let r <- nY true y b 0 (nb-1) (nb-1-1)
  match r with
  | some t=>
   if nb-1-t>0 then
    if (t == 1)=true then pure (ForInStep.done (some<|b.extract 0 t++a.extract 0 na++(out.push x++(b.extract t<|nb-1).reverse).reverse,na,t,out.push x++(b.extract t<|nb-1).reverse,mg,ac,nb-1-t))
    else if (t == 0)=true then pure (ForInStep.done (some<|a.extract 0 na++b.extract 0 t++(out.push x++(b.extract t<|nb-1).reverse).reverse,na,t,out.push x++(b.extract t<|nb-1).reverse,mg,ac,nb-1-t))
    else U3 a b (out.push x++(b.extract t<|nb-1).reverse) na t mg ac (nb-1-t)
   else U3 a b (out.push x) na (nb-1) mg ac (nb-1-t)
  | _=>pure<|ForInStep.done (some<|a.extract 0 na++b.extract 0 (nb-1)++(out.push x).reverse,na,nb-1,out.push x,mg,ac,bc)
abbrev U1 (a b out:Array Keyed)(na nb mg ac bc:Nat):StateT SortSt Sem (ForInStep H):=do
 z9 mg
 let x <- elem' b (nb-1)
 let r <- nY false x a 0 na (na-1)
 match r with
 | some t=>
  if na-t>0 then
   if (t == 0)=true then pure (ForInStep.done (some<|a.extract 0 t++b.extract 0 nb++(out++(a.extract t na).reverse).reverse,t,nb,out++(a.extract t na).reverse,mg,na-t,bc))
   else U2 a b (out++(a.extract t na).reverse) t nb mg (na-t) bc
  else U2 a b out na nb mg (na-t) bc
 | _=>pure<|ForInStep.done (some<|a.extract 0 na++b.extract 0 nb++out.reverse,na,nb,out,mg,ac,bc)
section
variable {prog:aj}{w:ah}{A:aA}{E:af->aC->Prop}{s:aC}{o:Ord}{N:Nat}{f:Nat->Keyed}{kd:SortKind}{st st0:SortSt}{X Y ts:ar}{na nb:Nat}
abbrev Oh (o:Ord)(X Y:ar)(n:Nat)(ts:ar)(na nb:Nat):Prop:=Mh o X Y ts na nb/\1<=na/\2<=nb/\na+nb+n<=X.length+Y.length
abbrev H2 (o:Ord)(f:Nat->Keyed)(X Y:ar)(n:Nat)(st0:SortSt):ForInStep H->SortSt->Prop:=λr g=>Sm st0 g/\match r with
 | .done c=>(∃r z,c=(some r,z)/\Res o f X Y r)\/∃ts na nb mg d e,c=(none,na,nb,fa f ts.reverse,mg,d,e)/\Oh o X Y n ts na nb
 | .yield c=>∃ts na nb mg d e,c=(none,na,nb,fa f ts.reverse,mg,d,e)/\Oh o X Y n ts na nb
def Xz(ab:Ab o N X Y)(hm:Sm st0 st){n mg x:Nat}(m:Mh o X Y ts (na+1)<|nb+1)(hb:1<=nb)(hn:na+1+(nb+1)+n<=X.length+Y.length)(hx:X[na]?=some x)(hy:Y[nb]?=some y)(hxy:P o y x) :
  wpS (model prog w) A E s (U3 (fa f X) (fa f Y) (fa f ts.reverse) (na+1) (nb+1) mg ac bc) (H2 o f X Y n st0) st:=by
 unfold U3;rw[show na+1-1=na by lia];refine bh<|kM (n9 hx) ?_;have m2:=m.Aa ab hx<|uf ab.sb hy hxy;rw[Au,xm];by_cases c:na=0
 ·rw[aM<|by rw[c];rfl];exact bC ⟨hm,.inl ⟨_,_,rfl,m2.G6 ab<|.inl c⟩⟩
 ·rw[aJ<|by simpa using c];by_cases c2:(decide (ac<7) && decide (bc<7))=true
  ·rw[aM c2];exact bC ⟨hm,.inr ⟨_,_,_,_,_,_,rfl,m2,(),(),()⟩⟩
  ·rw[aJ c2];exact bC ⟨hm,⟨_,_,_,_,_,_,rfl,m2,(),(),()⟩⟩
def Yp(C:D7 prog w A s o N f kd)(hk:kindOf st=kd)(ab:Ab o N X Y)(bt:Bot o X Y)(hm:Sm st0 st){n mg x:Nat}(m:Mh o X Y ts (na+1)<|nb+1)(hb:1<=nb)(hn:na+1+(nb+1)+n<=X.length+Y.length)(hx:X[na]?=some x)(hy:Y[nb]?=some y)(hxy:P o x y) :
  wpS (model prog w) A E s (U2 (fa f X) (fa f Y) (fa f ts.reverse) (na+1) (nb+1) mg ac bc) (H2 o f X Y n st0) st:=by
 unfold U2;rw[show nb+1-1=nb by lia,show na+1-1=na by lia];refine bh<|kM (n9 hy) ?_;have e:=m.Tc ab hy<|uf ab.sa hx hxy;have lb:=m.lb;rw[Au,xm];by_cases c:nb=1
 ·rw[aM<|by rw[c];rfl];exact bC ⟨hm,.inl ⟨_,_,rfl,wO ab bt e c⟩⟩
 ·rw[aJ<|by simpa using c];refine bh<|kM (n9 hx) ?_;refine bh (Rl C hk (h:=λi=>Y.getD (0+i) 0) (λi hi=>n9<|getD_at ()) (λi hi=>?_) (K6 ab.sb _ _ ()) () λt B j p=>?_)
  ·have:=aY<|getD_at (l:=Y) (i:=0+i) ();exact⟨ab.lt x (aY hx) _ this,ab.nb _ this⟩
  ·dsimp only;have m3:=Mh.BN ab hx (nb-t) (at_:=t) (by rw[show t+(nb-t)=nb by lia];exact e) λi z g k q=>by
    have:=p i g ();rw[cF,aL (l:=Y),q]at this;exact this
   by_cases c2:nb-t>0
   ·rw[aM c2,zu Y t nb,QD,xm];by_cases c3:t=1
    ·rw[aM<|by rw[c3];rfl];exact bC ⟨hm,.inl ⟨_,_,rfl,wO ab bt m3 c3⟩⟩
    ·rw[aJ<|by simpa using c3];by_cases d:t=0
     ·rw[aM<|by rw[d];rfl];exact bC ⟨hm,.inl ⟨_,_,rfl,m3.G6 ab<|.inr d⟩⟩
     ·rw[aJ<|by simpa using d];obtain⟨u,rfl⟩:∃u,t=u+1:=⟨t-1,()⟩;have:=j u ();rw[cF]at this;exact Xz ab hm m3 () () hx (getD_at ()) this
   ·rw[aJ c2];have:t=nb:=()
    subst this;obtain⟨u,rfl⟩:∃u,t=u+1:=⟨t-1,()⟩;have:=j u ();rw[cF]at this;exact Xz ab hm e () () hx (getD_at ()) this
def acR(C:D7 prog w A s o N f kd)(hk:kindOf st0=kd)(ab:Ab o N X Y)(bt:Bot o X Y)(hm:Sm st0 st){n mg:Nat}(m:Mh o X Y ts (na+1)<|nb+1)(hb:1<=nb)(hn:na+1+(nb+1)+n<=X.length+Y.length) :
  wpS (model prog w) A E s (U1 (fa f X) (fa f Y) (fa f ts.reverse) (na+1) (nb+1) mg ac bc) (H2 o f X Y n st0) st:=by
 unfold U1;refine bh<|xU hm λq c=>?_;have lb:=m.lb;have la:=m.la;rw[show nb+1-1=nb by lia,show na+1-1=na by lia];have d:=getD_at (l:=Y) (i:=nb) ();have j:=aY d;refine bh<|kM (n9 d) ?_;refine bh (P1 C (by rw[c.k];exact hk) (h:=λi=>X.getD (0+i) 0) (λi hi=>n9<|getD_at ()) (λi hi=>ab.lt _ (aY<|getD_at (l:=X) (i:=0+i) ()) _ j) (ab.nb _ j) (K6 ab.sa _ _ ()) () λt J p F=>?_);dsimp only;have m3:=Mh.BW ab d (na+1-t) (at_:=t) (by rw[show t+(na+1-t)=na+1 by lia];exact m) λi z g B G=>by
  have:=F i g ();rw[cF,aL (l:=X),G]at this;exact this
 by_cases c2:na+1-t>0
 ·rw[aM c2,zu X t<|na+1,QD,xm];by_cases e:t=0
  ·rw[aM<|by rw[e];rfl];exact bC ⟨c,.inl ⟨_,_,rfl,m3.G6 ab<|.inl e⟩⟩
  ·rw[aJ<|by simpa using e];obtain⟨u,rfl⟩:∃u,t=u+1:=⟨t-1,()⟩;have:=p u ();rw[cF]at this;exact Yp C (by rw[c.k];exact hk) ab bt c m3 hb () (getD_at ()) d this
 ·rw[aJ c2];have:t=na+1:=()
  subst this;have:=p na ();rw[cF]at this;exact Yp C (by rw[c.k];exact hk) ab bt c m hb hn (getD_at ()) d this
def abi(C:D7 prog w A s o N f kd)(hk:kindOf st=kd)(ab:Ab o N X Y)(tp:Top o X Y)(bt:Bot o X Y)(h1:1<=X.length)(h2:1<=Y.length)
  {Q:Array Keyed->SortSt->Prop} (q:∀out st',Sm st st'->Res o f X Y out->Q out st'):wpS (model prog w) A E s (BY (fa f X)<|fa f Y) Q st:=by
 rw[Iz];mg_lt;dsimp only;rw[oM,oM];have M:=getD_at (l:=X) (i:=X.length-1) ();refine bh<|kM (n9 M) ?_;have m0:Mh o X Y [] (X.length-1+1) Y.length:=⟨(),aP _,by rw[bX];lia,List.Pairwise.nil,(nofun),(λ_ _ _ h=>nomatch h),(λ_ _ _ h=>nomatch h)⟩;have m1:=m0.Aa ab M λy O=>tp _ _ M () y<|cQ O;obtain⟨W,ex0⟩:∃W,W=X.getD (X.length-1) 0:=⟨_,rfl⟩;rw[<- ex0]at m1 ⊢;have e1:(#[f W]:Array Keyed)=fa f [W].reverse:=rfl;rw[e1,xm];by_cases c:X.length-1=0
 ·rw[aM<|by rw[c];rfl];exact bC (q _ _ Sm.refl<|m1.G6 ab<|.inl c)
 ·rw[aJ<|by simpa using c];by_cases c2:Y.length=1
  ·rw[aM<|by rw[c2];rfl];exact bC (q _ _ Sm.refl<|wO ab bt m1 c2)
  ·rw[aJ<|by simpa using c2];refine bh<|iC ?_;refine bh (eT (cX (I:=λx c st'=>Sm st st'/\∃ts na nb mg,c=(none,na,nb,fa f ts.reverse,mg)/\Oh o X Y (x+1) ts na nb)
    (Q:=λc st'=>Sm st st'/\∃r z,c=(some r,z)/\Res o f X Y r) ?step ?fin ⟨Sm.refl,_,_,_,_,rfl,m1,(),(),()⟩) ?post)
   case post=>
    rintro c st' ⟨V,r,z,rfl,L⟩;exact bC<|q _ _ V L
   case fin=>
    rintro c st' ⟨V,ts,na,nb,mg,rfl,m,B,p,J⟩;exfalso
    lia
   case step=>
    intro x c st' _ hx G;revert G;revert c;refine un4 λV ts na nb mg e=>?_;have m:=e.1;have B:=e.2.1;have p:=e.2.2.1;have J:=e.2.2.2;clear e;dsimp only;refine bh (eT (cX (I:=λZ c d=>Sm st d/\∃ts na nb ac bc,c=(none,na,nb,fa f ts.reverse,ac,bc)/\Oh o X Y (x+1+min Z 1) ts na nb)
     (Q:=λc d=>Sm st d/\((∃r z,c=(some r,z)/\Res o f X Y r)\/∃ts na nb ac bc,c=(none,na,nb,fa f ts.reverse,ac,bc)/\Oh o X Y (x+1+1) ts na nb)) ?istep ?ifin ⟨V,_,_,_,_,_,rfl,m,B,p,J⟩) ?ipost)
    case ifin=>
     rintro c d ⟨g,ts,na,nb,ac,bc,rfl,m,B,p,J⟩;exact⟨g,.inr ⟨_,_,_,_,_,rfl,m,B,p,()⟩⟩
    case istep=>
     intro Z c d _ hx' G;revert G;revert c;refine un5 λg ts na nb ac bc e=>?_;have m:=e.1;have B:=e.2.1;have p:=e.2.2.1;have J:=e.2.2.2;clear e;dsimp only;obtain⟨u,rfl⟩:∃u,na=u+1:=⟨na-1,()⟩;obtain⟨v,rfl⟩:∃v,nb=v+1:=⟨nb-1,()⟩;have la:=m.la;have lb:=m.lb;rw[show u+1-1=u by lia,show v+1-1=v by lia];have O:=getD_at (l:=Y) (i:=v) ();have F:=getD_at (l:=X) (i:=u) ();have yB:=aY O;have xA:=aY F;have lt:=ab.lt _ xA _ yB;refine bh<|kM (n9 O) ?_;refine bh<|kM (n9 F) ?_;refine bh (Ck C (by rw[g.k];exact hk) (ab.nb _ yB) (ab.na _ xA) ?_)
     cases hl:o.lt (Y.getD v 0) (X.getD u 0)
     ·dsimp[a_,bU];refine bh<|kM (n9 O) ?_;have m2:=m.Tc ab O<|uf ab.sa F<|P.zU hl lt;rw[Au,xm];by_cases c3:v=1
      ·rw[aM<|by rw[c3];rfl];exact bC ⟨g,.inl ⟨_,_,rfl,wO ab bt m2 c3⟩⟩
      ·rw[aJ<|by simpa using c3];by_cases T:bc+1>=mg
       ·rw[aM T];exact bC ⟨g,.inr ⟨_,_,_,_,_,rfl,m2,B,(),()⟩⟩
       ·rw[aJ T];exact bC ⟨g,_,_,_,_,_,rfl,m2,B,(),()⟩
     ·dsimp[cK];refine bh<|kM (n9 F) ?_;have m2:=m.Aa ab F<|uf ab.sb O<|P.of_lt hl;rw[Au,xm];by_cases c3:u=0
      ·rw[aM<|by rw[c3];rfl];exact bC ⟨g,.inl ⟨_,_,rfl,m2.G6 ab<|.inl c3⟩⟩
      ·rw[aJ<|by simpa using c3];by_cases T:ac+1>=mg
       ·rw[aM T];exact bC ⟨g,.inr ⟨_,_,_,_,_,rfl,m2,(),p,()⟩⟩
       ·rw[aJ T];exact bC ⟨g,_,_,_,_,_,rfl,m2,(),p,()⟩
    case ipost=>
     intro c d G;revert G;revert c;refine uo5 (λg r z L=>?_) λg ts na nb ac bc e=>?_
     ·dsimp only;exact bC ⟨g,r,_,rfl,L⟩
     ·have m:=e.1;have B:=e.2.1;have p:=e.2.2.1;have J:=e.2.2.2;clear e;dsimp only;mg_lt;refine bh (eT (cX (I:=λZ c d=>Sm st d/\∃ts na nb mg ac bc,c=(none,na,nb,fa f ts.reverse,mg,ac,bc)/\Oh o X Y (x+1+1) ts na nb)
       (Q:=λc d=>Sm st d/\((∃r z,c=(some r,z)/\Res o f X Y r)\/∃ts na nb mg ac bc,c=(none,na,nb,fa f ts.reverse,mg,ac,bc)/\Oh o X Y (x+1+1) ts na nb)) ?jstep ?jfin ⟨g,_,_,_,_,_,_,rfl,m,B,p,J⟩) ?jpost)
      case jfin=>
       rintro c U ⟨j,G⟩;exact⟨j,.inr G⟩
      case jstep=>
       intro Z c U _ hx' G;revert G;revert c;refine un6 λj ts na nb mg ac bc e=>?_;have m:=e.1;have B:=e.2.1;have p:=e.2.2.1;have J:=e.2.2.2;clear e;dsimp only;obtain⟨u,rfl⟩:∃u,na=u+1:=⟨na-1,()⟩;obtain⟨v,rfl⟩:∃v,nb=v+1:=⟨nb-1,()⟩;have t1:=λmg=>acR (n:=x+1+1) (mg:=mg) (ac:=ac) (bc:=bc) (E:=E) C hk ab bt j m () J;unfold U1 U2 U3 at t1;refine eT (Q:=H2 o f X Y (x+1+1) st) ?_ ?_
       ·by_cases c3:mg>1
        ·rw[aM c3];exact t1 (mg-1)
        ·rw[aJ c3];exact t1 mg
       ·rintro r st4 ⟨K,L⟩
        cases r with
        | done c=>exact⟨K,L⟩
        | yield c=>exact⟨K,L⟩
      case jpost=>
       intro c U G;revert G;revert c;refine uo6 (λj r z L=>?_) λj ts na nb mg ac bc e=>?_
       ·dsimp only;exact bC ⟨j,r,_,rfl,L⟩
       ·have m:=e.1;have B:=e.2.1;have p:=e.2.2.1;have J:=e.2.2.2;clear e;dsimp only;refine bh<|xU j λst4 K=>?_;exact bC ⟨K,_,_,_,_,rfl,m,B,p,J⟩
end
def JJ(i:Nat):mergeAt' i=(do
 let s <- get
 let(some (a1,n1,pw),some (a2,n2,_)):=((pendingOf s)[i]?,(pendingOf s)[i+1]?)|unsupported "internal:list.sort.pending"
 set (setPending s<|((pendingOf s).setIfInBounds i (a1,n1+n2,pw)).eraseIdxIfInBounds<|i+1)
 let some k <- nY false (<- elem' (arrOf s) a2) (arrOf s) a1 n1 0|return false
 let(a1,n1):=(a1+k,n1-k)
 if n1 == 0 then return true
 let some n2 <- nY true (<- elem' (arrOf s) (a1+n1-1)) (arrOf s) a2 n2 (n2-1)|return false
 if n2 == 0 then return true
 let x:=(arrOf s).extract a1 a2
 let y:=(arrOf s).extract a2 (a2+n2)
 let both <- if n1<=n2 then Cy x y else BY x y
 modify λs=>setArr s (both.toList.zipIdx.foldl (λa (p,j)=>a.setIfInBounds (a1+j) p)<|arrOf s)
 return (failedOf<|<- get).isNone):=rfl
abbrev seg (g:Nat->Nat)(a n:Nat):ar:=(List.range n).map λi=>g<|a+i
section
variable {o:Ord}{N:Nat}{f:Nat->Keyed}{g:Nat->Nat}
def qo(g:Nat->Nat)(a n:Nat):(seg g a n).length=n:=by unfold seg;rw[aI,cI]
def uB{a n i:Nat}(h:i<n):(seg g a n)[i]?=some (g<|a+i):=by unfold seg;rw[aX,dH h];rfl
def sC{a n x:Nat}(h:x∈seg g a n):∃i,i<n/\x=g (a+i):=by
 obtain⟨i,hi,rfl⟩:=bI.mp h;exact⟨i,dP.mp hi,rfl⟩
def To{a n:Nat}(h:So o g a<|a+n):(seg g a n).Pairwise (P o):=by
 rw[dF];intro i j hi c d;rw[qo]at hi c;have e1:=uB (g:=g) (a:=a) hi;have e2:=uB (g:=g) (a:=a) c;rw[aH<|by rw[qo];exact hi]at e1;rw[aH<|by rw[qo];exact c]at e2;rw[aZ e1,aZ e2];exact h _ _ () () ()
def Ms{arr:Array Keyed}(hs:arr.size=N)(hg:∀i,i<N->arr[i]?=some (f<|g i)){a n:Nat}(h:a+n<=N):arr.extract a (a+n)=fa f (seg g a n):=by
 apply Array.ext_getElem?;intro i;rw[Px,Array.getElem?_extract];by_cases c:i<n
 ·rw[aM (),uB c,hg _ ()];rfl
 ·rw[aJ (),bQ<|by rw[qo];lia];rfl
theorem DX{α:Type}(b:Nat):∀(l:List α) (n:Nat) (arr:Array α),((l.zipIdx n).foldl (λa (p,j)=>a.setIfInBounds (b+j) p) arr).size=arr.size
 | [],_,_=>rfl
 | x::l,n,arr=>by
  rw[jD,dS,DX b l<|n+1];exact Array.size_setIfInBounds ..
theorem GB{α:Type}(b:Nat):∀(l:List α) (n:Nat) (arr:Array α) (k:Nat),b+n+l.length<=arr.size->((l.zipIdx n).foldl (λa (p,j)=>a.setIfInBounds (b+j) p) arr)[k]?=if b+n<=k/\k<b+n+l.length then l[k-(b+n)]? else arr[k]?
 | [],n,arr,k,h=>by rw[aJ<|by rw[bX];lia];rfl
 | x::l,n,arr,k,h=>by
  rw[bu]at h;rw[jD,dS,GB b l (n+1) _ k<|by rw[Array.size_setIfInBounds];lia,bu];by_cases c:k=b+n
  ·subst c;rw[aJ (),aM (),f9];show(arr.setIfInBounds (b+n) x)[b+n]?=some x;rw[Array.getElem?_setIfInBounds_self_of_lt ()]
  ·by_cases c2:b+n<=k/\k<b+n+(l.length+1)
   ·rw[aM (),aM c2,show k-(b+n)=k-(b+(n+1))+1 by lia,fV]
   ·rw[aJ (),aJ c2]
    skip
    rw[Array.getElem?_setIfInBounds_ne ()]
end
section
variable {prog:aj}{w:ah}{A:aA}{E:af->aC->Prop}{s:aC}{o:Ord}{N:Nat}{f:Nat->Keyed}{kd:SortKind}{g:Nat->Nat}{st:SortSt}
def WL{Q:PUnit->SortSt->Prop}(h:Q ⟨⟩ st'):wpS (model prog w) A E s (set st':StateT SortSt Sem PUnit) Q st:=by
 unfold wpS;rw[StateT.run_set];exact aQ ⟨rfl,h⟩
def abw(C:D7 prog w A s o N f kd){l1:List<|Nat×Nat×Nat}{sa na nb pw pv:Nat}(h:Sg N f kd g (l1++(sa,na,pw)::(sa+na,nb,pv)::l2).toArray st)(ha:1<=na)(hb:1<=nb)(hN:sa+na+nb<=N)
  (c1:Cl g sa<|sa+na) (s1:So o g sa<|sa+na) (c2:Cl g (sa+na)<|sa+na+nb) (s2:So o g (sa+na)<|sa+na+nb)
  {Q:Bool->SortSt->Prop} (q:∀g' st',Sg N f kd g' (l1++(sa,na+nb,pw)::l2).toArray st'->Rn o g g' sa (sa+na+nb)->Q true st'):wpS (model prog w) A E s (mergeAt' l1.length) Q st:=by
 rw[JJ];refine bh<|iC ?_;have e1:(pendingOf st)[l1.length]?=some (sa,na,pw):=by rw[h.pend];simp
 have e2:(pendingOf st)[l1.length+1]?=some (sa+na,nb,pv):=by rw[h.pend];simp
 have e3:((pendingOf st).setIfInBounds l1.length (sa,na+nb,pw)).eraseIdxIfInBounds (l1.length+1)=(l1++(sa,na+nb,pw)::l2).toArray:=by
  rw[h.pend,List.setIfInBounds_toArray,iK];congr 1;rw[dO _ _<|aP _,f9,List.eraseIdx_append_of_length_le (),show l1.length+1-l1.length=1 by lia];rfl
 rw[e1,e2];dsimp only;rw[e3];refine bh<|WL ?_;have h':Sg N f kd g (l1++(sa,na+nb,pw)::l2).toArray (setPending st (l1++(sa,na+nb,pw)::l2).toArray):=⟨h.size,h.get,h.lt,h.kind,h.failed,rfl⟩;obtain⟨F,W⟩:∃F,F=setPending st (l1++(sa,na+nb,pw)::l2).toArray:=⟨_,rfl⟩;rw[<- W]at h' ⊢;refine bh<|kM (h.get (sa+na) ()) ?_;have b0:=c2 (sa+na) () ();refine bh (P1 C h'.kind (h:=λi=>g<|sa+i) (λi hi=>h.get _ ()) (λi hi=>by have:=c1 (sa+i) () ();lia) () (λi j _ a b=>s1 _ _ () () ()) () λk k1 k2 k3=>?_);dsimp only;by_cases cz:na-k=0
 ·rw[aM<|by rw[cz];rfl];refine bC (q g F h' ⟨λ_ _=>rfl,λi a b=>?_,λi j a b c=>?_⟩)
  ·by_cases d:i<sa+na
   ·have:=c1 i a d;lia
   ·have:=c2 i () b;lia
  ·by_cases d:j<sa+na
   ·exact s1 i j a b d
   ·by_cases M:sa+na<=i
    ·exact s2 i j M b c
    ·have r:=k2 (i-sa) ();rw[show sa+(i-sa)=i by lia]at r;by_cases U:j=sa+na
     ·subst U;exact r
     ·exact r.trans<|s2 _ _ () () c
 ·rw[aJ<|by simpa using cz];have P:sa+k+(na-k)-1=sa+na-1:=()
  rw[P];refine bh<|kM (h.get (sa+na-1) ()) ?_;have a0:=c1 (sa+na-1) () ();refine bh (Rl C h'.kind (h:=λi=>g<|sa+na+i) (λi hi=>h.get _ ()) (λi hi=>by have:=c2 (sa+na+i) () ();lia) (λi j _ a b=>s2 _ _ () () ()) () λt t1 t2 t3=>?_);dsimp only;by_cases Z:t=0
  ·rw[aM<|by rw[Z];rfl];subst Z;refine bC (q g F h' ⟨λ_ _=>rfl,λi a b=>?_,λi j a b c=>?_⟩)
   ·by_cases d:i<sa+na
    ·have:=c1 i a d;lia
    ·have:=c2 i () b;lia
   ·by_cases d:j<sa+na
    ·exact s1 i j a b d
    ·by_cases M:sa+na<=i
     ·exact s2 i j M b c
     ·have r:=t3 (j-(sa+na)) () ();rw[show sa+na+(j-(sa+na))=j by lia]at r;by_cases U:i=sa+na-1
      ·subst U;exact r
      ·exact(s1 i (sa+na-1) a () ()).trans r
  ·rw[aJ<|by simpa using Z];have x1:(arrOf st).extract (sa+k) (sa+na)=fa f (seg g (sa+k)<|na-k):=by
    have:=Ms (f:=f) (g:=g) h.size h.get (a:=sa+k) (n:=na-k) ()
    rwa [show sa+k+(na-k)=sa+na by lia]at this
   have x2:(arrOf st).extract (sa+na) (sa+na+t)=fa f (seg g (sa+na) t):=Ms h.size h.get ();rw[x1,x2];have sx:So o g (sa+k) (sa+k+(na-k)):=λi j a b c=>s1 i j () b ();have sy:So o g (sa+na) (sa+na+t):=λi j a b c=>s2 i j a b ();have ab:Ab o N (seg g (sa+k)<|na-k) (seg g (sa+na) t):={
    sa:=To sx
    sb:=To sy
    lt:=λx V y J=>by
     obtain⟨i,hi,rfl⟩:=sC V;obtain⟨j,O,rfl⟩:=sC J;have:=c1 (sa+k+i) () ();have:=c2 (sa+na+j) () ()
     lia
    nb:=λy J=>by
     obtain⟨j,O,rfl⟩:=sC J;exact h.lt _ ()
    na:=λy J=>by
     obtain⟨j,O,rfl⟩:=sC J;exact h.lt _ ()}
   have tp:Top o (seg g (sa+k)<|na-k) (seg g (sa+na) t):=λi x V hi y J=>by
    rw[qo]at hi;rw[uB ()]at V
    cases V
    obtain⟨j,O,rfl⟩:=sC J;rw[show sa+k+i=sa+na-1 by lia];exact t2 j O
   have bt:Bot o (seg g (sa+k)<|na-k) (seg g (sa+na) t):=λy J x V=>by
    rw[uB ()]at J
    cases J
    obtain⟨i,hi,rfl⟩:=sC V;have:=k3 (k+i) () ()
    rwa [<- gf]at this
   have fin:∀out B,Sm F B->Res o f (seg g (sa+k)<|na-k) (seg g (sa+na) t) out->wpS (model prog w) A E s (do
     modify λs=>setArr s (out.toList.zipIdx.foldl (λa (p,j)=>a.setIfInBounds (sa+k+j) p)<|arrOf s)
     let s <- get
     pure (failedOf s).isNone) Q B:=by
    rintro out B T ⟨hs,rfl,G,hso,Y⟩;rw[qo,qo]at G;refine bh<|f6<|bh<|iC ?_;have hf:(failedOf B)=none:=by rw[T.f];exact h'.failed
    have L:∀j x,hs[j]?=some x->(∃i,i<na-k/\x=g (sa+k+i))\/∃i,i<t/\x=g (sa+na+i):=λj x e=>by
     rcases Y x (aY e)with z|z
     ·exact .inl (sC z)
     ·exact .inr<|sC z
    have ez:(fa f hs).toList=hs.map f:=by unfold fa;rfl
    have hsz:sa+k+0+(hs.map f).length<=(arrOf B).size:=by rw[aI,G,T.a,h'.size];lia
    refine bC ?_
    skip
    rw[hf];refine q (λi=>if sa+k<=i/\i<sa+k+(na-k+t)then hs.getD (i-(sa+k)) 0 else g i) _ ⟨?_,λi hi=>?_,λi hi=>?_,by rw[show kindOf (setArr B _)=kindOf B from rfl,T.k];exact h'.kind,hf,by rw[show pendingOf (setArr B _)=pendingOf B from rfl,T.p];exact h'.pend⟩ ?_
    ·have:=DX (sa+k) (fa f hs).toList 0<|arrOf B;rw[T.a,h'.size]at this;rw[<- this,<- T.a]
    ·skip
     rw[ez,GB _ _ _ _ _ hsz,aI,G,T.a];by_cases d:sa+k<=i/\i<sa+k+(na-k+t)
     ·rw[aM (),aM d,aX,Nat.add_zero,getD_at (l:=hs) ()];rfl
     ·rw[aJ (),aJ d];exact h'.get i hi
    ·by_cases d:sa+k<=i/\i<sa+k+(na-k+t)
     ·rw[aM d]
      rcases L _ _ (getD_at (l:=hs) (i:=i-(sa+k)) ())with⟨j,O,e⟩|⟨j,O,e⟩
      ·rw[e];exact h.lt _ ()
      ·rw[e];exact h.lt _ ()
     ·rw[aJ d];exact h.lt i hi
    ·have K:∀i,sa+k<=i->i<sa+na+t->(if sa+k<=i/\i<sa+k+(na-k+t)then hs.getD (i-(sa+k)) 0 else g i)=hs.getD (i-(sa+k)) 0:=λi a b=>aM ();have m:∀i,i<sa+k\/sa+na+t<=i->(if sa+k<=i/\i<sa+k+(na-k+t)then hs.getD (i-(sa+k)) 0 else g i)=g i:=λi a=>aJ ();refine⟨λi hi=>m i (),λi a b=>?_,λi j a b c=>?_⟩
     ·by_cases d:sa+k<=i/\i<sa+na+t
      ·skip
       rw[K i d.1 d.2]
       rcases L _ _ (getD_at (l:=hs) (i:=i-(sa+k)) ())with⟨j,O,e⟩|⟨j,O,e⟩
       ·rw[e];have:=c1 (sa+k+j) () ();lia
       ·rw[e];have:=c2 (sa+na+j) () ();lia
      ·skip
       rw[m i ()];by_cases M:i<sa+na
       ·have:=c1 i a M;lia
       ·have:=c2 i () b;lia
     ·skip
      by_cases d1:i<sa+k
      ·rw[m i<|.inl d1];have r:=k2 (i-sa) ();rw[show sa+(i-sa)=i by lia]at r;by_cases M:j<sa+k
       ·rw[m j<|.inl M];exact s1 i j a b ()
       ·by_cases U:j<sa+na+t
        ·rw[K j () U]
         rcases L _ _ (getD_at (l:=hs) (i:=j-(sa+k)) ())with⟨v,hv,e⟩|⟨v,hv,e⟩
         ·rw[e];exact s1 _ _ a () ()
         ·rw[e];by_cases d4:v=0
          ·subst d4;exact r
          ·exact r.trans<|s2 _ _ () () ()
        ·rw[m j ()];exact r.trans<|s2 _ _ () () c
      ·by_cases M:i<sa+na+t
       ·rw[K i () M];by_cases U:j<sa+na+t
        ·rw[K j () U];exact vH hso (getD_at ()) (getD_at ()) ()
        ·rw[m j ()]
         rcases L _ _ (getD_at (l:=hs) (i:=i-(sa+k)) ())with⟨v,hv,e⟩|⟨v,hv,e⟩
         ·rw[e];have r:=t3 (j-(sa+na)) () ();rw[show sa+na+(j-(sa+na))=j by lia]at r;by_cases d4:sa+k+v=sa+na-1
          ·rw[d4];exact r
          ·exact(s1 _ (sa+na-1) () () ()).trans r
         ·rw[e];exact s2 _ _ () () c
       ·rw[m i (),m j ()];exact s2 i j () b c
   by_cases cl:na-k<=t
   ·rw[aM cl];exact bh (abJ C h'.kind ab tp (by rw[qo];lia) (uB ()) (bt _<|uB ()) fin)
   ·rw[aJ cl];exact bh<|abi C h'.kind ab tp bt (by rw[qo];lia) (by rw[qo];lia) fin
end
meta abbrev pr (x:Nat×Nat×Nat):Nat×Nat:=(x.1,x.2.1)
abbrev uK (o:Ord)(g:Nat->Nat):List (Nat×Nat)->Nat->Nat->Prop
 | [],a,b=>a=b
 | x::l,a,b=>x.1=a/\1<=x.2/\Cl g a (a+x.2)/\So o g a (a+x.2)/\uK o g l (a+x.2) b
abbrev PA (o:Ord)(g:Nat->Nat)(p:Array<|Nat×Nat×Nat)(b:Nat):Prop:=uK o g (p.toList.map pr) 0 b
section
variable {o:Ord}{g:Nat->Nat}
def uK.le:∀{l:List<|Nat×Nat}{a b:Nat},uK o g l a b->a+l.length<=b
 | [],a,b,h=>by have h:a=b:=h;rw[bX];lia
 | x::l,a,b,h=>by
  have:=h.2.2.2.2.le;have:=h.2.1;rw[bu];lia
def uK.congr{g':Nat->Nat}:∀{l:List<|Nat×Nat}{a b:Nat},uK o g l a b->(∀i,a<=i->i<b->g' i=g i)->uK o g' l a b
 | [],a,b,h,_=>h
 | x::l,a,b,h,e=>by
  have c:=h.2.2.2.2.le;refine⟨h.1,h.2.1,λi h1 h2=>?_,λi j h1 h2 h3=>?_,h.2.2.2.2.congr λi h1 h2=>e i () h2⟩
  ·rw[e i h1 ()];exact h.2.2.1 i h1 h2
  ·rw[e i h1 (),e j () ()];exact h.2.2.2.1 i j h1 h2 h3
theorem uK.app:∀{l m:List<|Nat×Nat}{a b:Nat},uK o g (l++m) a b ↔ ∃c,uK o g l a c/\uK o g m c b
 | [],m,a,b=>⟨λh=>⟨a,rfl,h⟩,λ⟨c,h1,h2⟩=>by have h1:a=c:=h1;subst h1;exact h2⟩
 | x::l,m,a,b=>by
  constructor
  ·rintro⟨h1,h2,h3,f,e⟩;obtain⟨c,d,j⟩:=uK.app.mp e;exact⟨c,⟨h1,h2,h3,f,d⟩,j⟩
  ·rintro⟨c,⟨h1,h2,h3,f,e⟩,d⟩;exact⟨h1,h2,h3,f,uK.app.mpr ⟨c,e,d⟩⟩
def aaq{p:Array<|Nat×Nat×Nat}(h:i+1<p.size):∃l1 x y l2,p=(l1++x::y::l2).toArray/\l1.length=i:=by
 have h':i+1<p.toList.length:=h;refine⟨p.toList.take i,p.toList[i],p.toList[i+1],p.toList.drop<|i+2,?_,by rw[bE];lia⟩;apply Array.toList_inj.mp
 skip
 conv=>lhs;rw[<- fj i p.toList,cM<|show i<p.toList.length by lia,cM h']
end
section
variable {prog:aj}{w:ah}{A:aA}{E:af->aC->Prop}{s:aC}{o:Ord}{N:Nat}{f:Nat->Keyed}{kd:SortKind}{g:Nat->Nat}{p:Array (Nat×Nat×Nat)}{st:SortSt}
def Io(C:D7 prog w A s o N f kd)(h:Sg N f kd g p st){lo:Nat}(hp:PA o g p lo)(hlo:lo<=N)(hi:i+1<p.size)
  {Q:Bool->SortSt->Prop} (q:∀g' p' st',Sg N f kd g' p' st'->PA o g' p' lo->p'.size+1=p.size->(∀k,lo<=k->g' k=g k)->Q true st'):wpS (model prog w) A E s (mergeAt' i) Q st:=by
 obtain⟨B,⟨d,na,m⟩,⟨K,nb,pv⟩,j,rfl,rfl⟩:=aaq hi;unfold PA at hp;rw[show(B++(d,na,m)::(K,nb,pv)::j).toArray.toList=B++(d,na,m)::(K,nb,pv)::j from rfl,bZ]at hp;obtain⟨c,h1,h2⟩:=uK.app.mp hp;obtain⟨e1,J,O,G,e2,L,M,F,rest⟩:=h2;have e1:d=c:=e1;subst e1;have e2:K=d+na:=e2;subst e2;have e:=rest.le;have J:1<=na:=J;have L:1<=nb:=L;have e:d+na+nb<=lo:=by
  have:d+na+nb+(List.map pr j).length<=lo:=e
  lia
 refine abw C h J L () O G M F λg' st' h' R=>q g' _ st' h' ?_ (by simp;lia) λk P=>R.out k ();unfold PA;rw[show(B++(d,na+nb,m)::j).toArray.toList=B++(d,na+nb,m)::j from rfl,bZ];refine uK.app.mpr ⟨d,h1.congr λi a b=>R.out i (),rfl,by show 1<=na+nb;lia,?_,?_,?_⟩
 ·show Cl g' d (d+(na+nb));rw[<- gf];exact R.cl
 ·show So o g' d (d+(na+nb));rw[<- gf];exact R.so
 ·skip
  rw[<- gf];exact rest.congr λi a b=>R.out i<|.inr a
def Dj{p:Array<|Nat×Nat×Nat}{lo:Nat}{u:Nat×Nat×Nat->Nat×Nat×Nat}(hu:∀x,pr (u x)=pr x)(h:PA o g p lo):PA o g (p.modify i u) lo:=by
 unfold PA at h ⊢;have:(p.modify i u).toList.map pr=p.toList.map pr:=by
  rw[Array.toList_modify];apply cJ;intro k;rw[aX,aX,List.getElem?_modify]
  cases p.toList[k]? with
  | none=>rfl
  | some x=>
   show some (pr<|if i=k then u x else x)=some (pr x);by_cases c:i=k
   ·rw[aM c,hu x]
   ·rw[aJ c]
 rw[this];exact h
def AK{p:Array<|Nat×Nat×Nat}{lo n v:Nat}(h:PA o g p lo)(hn:1<=n)(c:Cl g lo<|lo+n)(d:So o g lo<|lo+n):PA o g (p.push (lo,n,v)) (lo+n):=by
 unfold PA at h ⊢;rw[gr,bZ];exact uK.app.mpr ⟨lo,h,rfl,hn,c,d,rfl⟩
def Sg.pen(h:Sg N f kd g p st)(p':Array<|Nat×Nat×Nat):Sg N f kd g p' (setPending st p'):=⟨h.size,h.get,h.lt,h.kind,h.failed,rfl⟩
def WG(C:D7 prog w A s o N f kd)(h:Sg N f kd (λi=>i) #[] st)(hN:1<=N)
  {Q:Unit->SortSt->Prop} (q:∀g' p' st',Sg N f kd g' p' st'->Cl g' 0 N->So o g' 0 N->Q Unit.unit st'):wpS (model prog w) A E s sortRuns' Q st:=by
 rw[sortRuns'_eq];refine bh<|iC ?_;dsimp only;rw[h.size];refine bh (eT (cX
  (I:=λx c st'=>∃lo g p,c=(none,lo)/\lo<=N/\(x<=lo\/lo=N)/\Sg N f kd g p st'/\PA o g p lo/\(∀i,lo<=i->g i=i))
  (Q:=λc st'=>∃g p,c=(none,N)/\Sg N f kd g p st'/\PA o g p N) ?step ?fin ⟨0,_,_,rfl,bY _,.inl<|aP _,h,rfl,λ_ _=>rfl⟩) ?post)
 case fin=>
  rintro c st' ⟨lo,g,p,rfl,h1,h2,h3,V,L⟩;have:lo=N:=()
  subst this;exact⟨g,p,rfl,h3,V⟩
 case step=>
  intro x c st' _ hx J;revert J;revert c;refine un3 λlo g p J=>?_;have h1:=J.1;have h2:=J.2.1;have h3:=J.2.2.1;have V:=J.2.2.2.1;have L:=J.2.2.2.2;clear J;dsimp only;by_cases W:lo>=N
  ·rw[aM W];have:lo=N:=()
   subst this;exact bC ⟨g,p,rfl,h3,V⟩
  ·rw[aJ W];refine bh<|Ox C h3 () () (λi a b=>L i a) λm g1 st1 s1 m1 m2 R1=>?_;dsimp only;by_cases c2:m<minRun' N N 0
   ·rw[aM c2];mg_lt;refine bh<|ZW C s1 () m1 () R1 (λi a b=>L i ()) λK st2 G R2=>?_;rw[aJ ⋯];have U:1<=min (N-lo) (minRun' N N 0):=()
    have T:lo+min (N-lo) (minRun' N N 0)<=N:=()
    refine bh<|iC ?_;rw[G.pend];have F:=uK.congr V λi a b=>R2.out i (.inl b)
    cases e:p.back? with
    | none=>
     dsimp only;refine bh (f6<|bC ⟨_,_,_,rfl,T,(),G.pen _,?_,λi hi=>by rw[R2.out i<|.inr hi,L i ()]⟩);rw[G.pend];exact AK F U R2.cl R2.so
    | some y=>
     obtain⟨y1,y2,y3⟩:=y;dsimp only;refine bh (eT (cX (I:=λ_ c st'=>c=(none,Unit.unit)/\∃g' p',Sg N f kd g' p' st'/\PA o g' p' lo/\(∀k,lo<=k->g' k=K k)) (Q:=λc st'=>c=(none,Unit.unit)/\∃g' p',Sg N f kd g' p' st'/\PA o g' p' lo/\(∀k,lo<=k->g' k=K k)) ?vstep (λ_ _ h=>h) ⟨rfl,_,_,G,F,λ_ _=>rfl⟩) ?vpost)
     case vstep=>
      rintro x c st' _ hx ⟨rfl,g',p',h1,h2,h3⟩;refine bh<|iC ?_;rw[h1.pend];by_cases c:p'.size>1
      ·rw[aM c]
       cases e:p'[p'.size-2]? with
       | none=>exact bC ⟨rfl,g',p',h1,h2,h3⟩
       | some y=>
        obtain⟨y1,y2,y3⟩:=y;dsimp only;split
        ·exact bC ⟨rfl,g',p',h1,h2,h3⟩
        ·refine bh<|Io C h1 h2 () () λg3 p3 P M Y _ Z=>?_;exact bC ⟨rfl,g3,p3,M,Y,λk O=>by rw[Z k O,h3 k O]⟩
      ·rw[aJ c];exact bC ⟨rfl,g',p',h1,h2,h3⟩
     case vpost=>
      rintro c st' ⟨rfl,g',p',h1,h2,h3⟩;dsimp only;refine bh (f6<|bh<|f6<|bC ⟨_,_,_,rfl,T,(),(h1.pen _).pen _,?_,λi hi=>by rw[h3 i (),R2.out i<|.inr hi,L i ()]⟩)
      skip
      rw[h1.pend];exact AK (Dj (λ_=>rfl) h2) U (λi a b=>by rw[h3 i a];exact R2.cl i a b) λi j a b c=>by rw[h3 i a,h3 j ()];exact R2.so i j a b c
   ·rw[aJ c2];have T:lo+m<=N:=()
    obtain⟨K,hg2⟩:∃K,K=g1:=⟨_,rfl⟩;rw[<- hg2]at R1 s1;have R2:=R1;have G:=s1;have U:=m1;refine bh<|iC ?_;rw[G.pend];have F:=uK.congr V λi a b=>R2.out i (.inl b)
    cases e:p.back? with
    | none=>
     dsimp only;refine bh (f6<|bC ⟨_,_,_,rfl,T,(),G.pen _,?_,λi hi=>by rw[R2.out i<|.inr hi,L i ()]⟩);rw[G.pend];exact AK F U R2.cl R2.so
    | some y=>
     obtain⟨y1,y2,y3⟩:=y;dsimp only;refine bh (eT (cX (I:=λ_ c st'=>c=(none,Unit.unit)/\∃g' p',Sg N f kd g' p' st'/\PA o g' p' lo/\(∀k,lo<=k->g' k=K k)) (Q:=λc st'=>c=(none,Unit.unit)/\∃g' p',Sg N f kd g' p' st'/\PA o g' p' lo/\(∀k,lo<=k->g' k=K k)) ?vstep (λ_ _ h=>h) ⟨rfl,_,_,G,F,λ_ _=>rfl⟩) ?vpost)
     case vstep=>
      rintro x c st' _ hx ⟨rfl,g',p',h1,h2,h3⟩;refine bh<|iC ?_;rw[h1.pend];by_cases c:p'.size>1
      ·rw[aM c]
       cases e:p'[p'.size-2]? with
       | none=>exact bC ⟨rfl,g',p',h1,h2,h3⟩
       | some y=>
        obtain⟨y1,y2,y3⟩:=y;dsimp only;split
        ·exact bC ⟨rfl,g',p',h1,h2,h3⟩
        ·refine bh<|Io C h1 h2 () () λg3 p3 P M Y _ Z=>?_;exact bC ⟨rfl,g3,p3,M,Y,λk O=>by rw[Z k O,h3 k O]⟩
      ·rw[aJ c];exact bC ⟨rfl,g',p',h1,h2,h3⟩
     case vpost=>
      rintro c st' ⟨rfl,g',p',h1,h2,h3⟩;dsimp only;refine bh (f6<|bh<|f6<|bC ⟨_,_,_,rfl,T,(),(h1.pen _).pen _,?_,λi hi=>by rw[h3 i (),R2.out i<|.inr hi,L i ()]⟩)
      skip
      rw[h1.pend];exact AK (Dj (λ_=>rfl) h2) U (λi a b=>by rw[h3 i a];exact R2.cl i a b) λi j a b c=>by rw[h3 i a,h3 j ()];exact R2.so i j a b c
 case post=>
  rintro c st' ⟨g,p,rfl,h1,h2⟩;dsimp only;refine bh (eT (cX
   (I:=λx c B=>c=(none,Unit.unit)/\∃g p,Sg N f kd g p B/\PA o g p N/\(p.size<=1\/p.size+x<=N))
   (Q:=λc B=>c=(none,Unit.unit)/\∃g p,Sg N f kd g p B/\PA o g p N/\p.size<=1) ?fstep ?ffin ⟨rfl,g,p,h1,h2,.inr ?finit⟩) ?fpost)
  case finit=>
   have:=uK.le h2;rw[aI]at this;show p.toList.length+0<=N
   lia
  case ffin=>
   rintro c B ⟨rfl,g,p,h1,h2,h3⟩;exact⟨rfl,g,p,h1,h2,()⟩
  case fstep=>
   rintro x c B _ hx ⟨rfl,g,p,h1,h2,h3⟩;refine bh<|iC ?_;rw[h1.pend];by_cases c:p.size<=1
   ·rw[aM c];exact bC ⟨rfl,g,p,h1,h2,c⟩
   ·rw[aJ c];have il:∀(d:Prop) [Decidable d],(if d then p.size-2-1 else p.size-2)+1<p.size:=λd _=>by
     by_cases hd:d
     ·rw[aM hd];lia
     ·rw[aJ hd];lia
    refine bh<|Io C h1 h2 (aP _) (il _) λg' p' P M Y Z _=>?_;exact bC ⟨rfl,g',p',M,Y,()⟩
  case fpost=>
   rintro c B ⟨rfl,g,p,h1,h2,h3⟩;dsimp only;refine bC ?_;unfold PA at h2;have h3:p.toList.length<=1:=h3
   match hl:p.toList,h3 with
   | [],_=>
    rw[hl]at h2;have:0=N:=h2
    lia
   | [x],_=>
    rw[hl]at h2;obtain⟨e1,e2,e3,e4,e5⟩:=h2;have e5:0+x.2.1=N:=e5;have e3:Cl g 0 (0+x.2.1):=e3;have e4:So o g 0 (0+x.2.1):=e4;rw[e5]at e3 e4;exact q g p B h1 e3 e4
end
meta abbrev M5 (h:aq)(a:ak)(vs:bb):aq:=((h.update a<|Obj.mapSeq λ_=>#[]).push<|seqObj "tuple" vs.toArray 0).push<|seqObj "list" #[] 0
def Wz{h:aq}{a:ak}(hb:b≠a)(hlt:b<h.objs.size):(M5 h a vs).get? b=h.get? b:=by
 rw[iE _ _ _<|by rw[size_push',iS];exact bD<|gu hlt,
  iE _ _ _ (by rw[iS];exact bD hlt),Heap.get?_update_ne _ _ _ _ hb]
meta abbrev vv (vs:bb)(i:Nat):Keyed:=(vs.getD i .none,vs.getD i .none)
def zip_get(vs:bb){i:Nat}(h:i<vs.length):(vs.toArray.zip vs.toArray)[i]?=some (vv vs i):=by
 have e:vs[i]?=some (vs.getD i .none):=by rw[aL,aH h];rfl
 rw[Array.getElem?_zip_eq_some];exact⟨by rw[d8];exact e,by rw[d8];exact e⟩
section
variable {prog:aj}{w:ah}{A:aA}{E:af->aC->Prop}{s:aC}{o:Ord}{kd:SortKind}
def DN{a:ak}{vs:bb}{n:Nat}{P:PySem.Fin->aC->Prop}(hL:s.heap.get? a=some (seqObj "list" vs.toArray n))(hsz:vs.length<=sizeLine)
  (hkk:2<=vs.length->∀Q:SortKind->aC->Prop,Q kd { s with heap:=M5 s.heap a vs }->wpAny (model prog w) A (keyKind' vs.toArray) Q E { s with heap:=M5 s.heap a vs })
  (C:2<=vs.length->D7 prog w A { s with heap:=M5 s.heap a vs } o vs.length (vv vs) kd)
  (h:∀g,Cl g 0 vs.length->So o g 0 vs.length->P (.done<|.ret .none) { s with heap:=sortedHeap s.heap a vs ((List.range vs.length).map λi=>vs.getD (g i) .none).toArray }) :
  wpAny (model prog w) A (Builtin.«list.sort» ⟨[.ref a],[]⟩) P E s:=by
 rw[list_sort_plain];have B:a<s.heap.objs.size:=bA hL;refine aG<|listItems_at hL rfl ?_;refine aG (listUpdate_at hL rfl ?_ (by rw[br];exact hsz)<|bY _);obtain⟨ep,q⟩:∃ep,(s.heap.update a<|Obj.mapSeq λ_=>#[]).get? a=some (seqObj "list" #[] ep):=⟨_,get?_update_seq hL λ_=>#[]⟩;refine aG<|seqEpoch_at q rfl ?_;refine aG<|wpAny_newTuple ?_;refine aG<|wpAny_newList ?_;refine dw ?_;have m:(M5 s.heap a vs).get? a=some (seqObj "list" #[] ep):=by
  rw[iE _ _ _<|by rw[size_push',iS];exact bD<|gu B,iE _ _ _<|by rw[iS];exact bD B];exact q
 skip
 dsimp only;have G:vs.toArray.size=vs.length:=by simp
 have L:∀i,i<vs.length->vs[i]?=some (vs.getD i .none):=λi hi=>by rw[aL,aH hi];rfl
 have w_:∀(arr:Array Keyed) (g:Nat->Nat),arr.size=vs.length->(∀i,i<vs.length->arr[i]?=some (vv vs<|g i))->arr.map (·.2)=((List.range vs.length).map λi=>vs.getD (g i) .none).toArray:=λarr g h1 k=>by
  apply Array.ext_getElem?;intro i;have e0:((List.range vs.length).map λi=>vs.getD (g i) Value.none).toArray[i]?=((List.range vs.length).map λi=>vs.getD (g i) Value.none)[i]?:=d8 ..;rw[Array.getElem?_map,e0,aX];by_cases c:i<vs.length
  ·rw[k i c,dH c];rfl
  ·rw[iF (),bQ<|by rw[cI];lia];rfl
 by_cases k:vs.toArray.size<2
 ·rw[aM k,aM k];refine aG<|aQ ?_;rw[StateT.run_pure];refine aG<|aQ ?_;dsimp only;refine aG<|seqEpoch_at m rfl ?_;have J:=w_ (vs.toArray.zip vs.toArray) (λi=>i) (by rw[jL,G];lia) λi hi=>zip_get vs hi;refine aG (listUpdate_at m rfl ?_ (by simp) (hsz2:=by rw[size_map];show(vs.toArray.zip vs.toArray).size<=_;rw[jL,G];lia));dsimp[bne_self_eq_false,a_,bU];refine aQ ?_;have:=h (λi=>i) (λi a b=>⟨a,b⟩) λi j a b c=>();rw[<- J]at this;exact this
 ·rw[aJ k,aJ k];have F:2<=vs.length:=()
  refine aG<|hkk F _ ?_;refine aG (jj (WG (f:=vv vs) (N:=vs.length) (C F) (st:=SortSt.mk' kd (vs.toArray.zip vs.toArray) #[] 7 none)
   (Q:=λ_ d=>∃g p,Sg vs.length (vv vs) kd g p d/\Cl g 0 vs.length/\So o g 0 vs.length)
   ⟨by show(vs.toArray.zip vs.toArray).size=_;rw[jL,G];lia,λi hi=>zip_get vs hi,λi hi=>hi,rfl,rfl,rfl⟩ () λO V d W T M=>⟨O,V,W,T,M⟩) ?_ λ_ _ e=>e)
  rintro⟨⟨⟩,d⟩ s' ⟨rfl,g,p,hS,hc,K⟩;dsimp only;refine aG<|seqEpoch_at m rfl ?_;have J:=w_ (arrOf d) g hS.size hS.get;refine aG (listUpdate_at m rfl ?_ (by simp) (hsz2:=by have U:(arrOf d).size=vs.length:=hS.size;show((arrOf d).map (·.2)).size<=_;rw[size_map,U];lia));rw[hS.failed];dsimp[bne_self_eq_false,a_,bU];have:=h g hc K;rw[<- J]at this;exact aQ this
end
section
variable {prog:aj}{w:ah}{A:aA}{E:af->aC->Prop}{s:aC}
def NG(b:Bool)(x y:af):keyLt' (tuples' b) x y=(do
  let us <- Builtin.List.listItems x
  let vs <- Builtin.List.listItems y
  for ((u,v),k)in (us.toList.zip vs.toList).zipIdx do
   if !(<- eqBool u v)then return <- oneLt' (b && k == 0) u v
  return us.size<vs.size):=rfl
def Lx(b:Bool){x y:Int}{t:Tok}{Q:Bool->aC->Prop}(h:Q (decide<|x<y) s):wpAny (model prog w) A (oneLt' b (.int x t)<|.int y u) Q E s:=by
 cases b with
 | true=>exact oneLt_int h
 | false=>
  rw[oneLt'_eq];dsimp[a_,bU];exact aG<|PySem.P.lt_int<|dI h
def II(b:Bool){l k:ak}{xs ys:bb}{ns:ag}{Q:Bool->aC->Prop}(hl:IsTup s.heap l xs.toArray)(hk:IsTup s.heap k ys.toArray)(hi:IntsAre xs ns)(hj:IntsAre ys ms)(h:Q (HT.lexLt ns ms) s) :
  wpAny (model prog w) A (keyLt' (tuples' b) (.ref l)<|.ref k) Q E s:=by
 rw[NG];obtain⟨M,g,_,N,C⟩:=hl;obtain⟨L,m,_,O,F⟩:=hk;refine aG<|listItems_at g C ?_;refine aG<|listItems_at m F ?_;have j:∀(xs ys:bb) (ns ms:ag) (n:Nat),IntsAre xs ns->IntsAre ys ms->∀f:bn×Unit->aC->Prop,(∀r,(r=some (HT.lexLt ns ms)\/(r=none/\HT.lexLt ns ms=decide (xs.length<ys.length)))->f (r,Unit.unit) s) ->
   wpAny (model prog w) A (forIn ((xs.zip ys).zipIdx n) ((none,Unit.unit):bn×Unit) λx c=>match x with
      | ((p,q),i)=>do
       let e <- eqBool p q
       if (!e)=true then do
         let r <- oneLt' (b && i == 0) p q
         pure (ForInStep.done (some r,Unit.unit))
        else pure (ForInStep.yield (none,Unit.unit))) f E s:=by
  intro xs
  induction xs with
  | nil=>
   intro ys ns ms n h1 h2 f q
   cases h1
   rw[List.zip_nil_left,List.zipIdx_nil,List.forIn_nil];refine aQ (q none<|.inr ⟨rfl,?_⟩)
   cases h2 with
   | nil=>rw[HT.sQ];rfl
   | cons a t h2=>rw[HT.pK,aW<|by simp]
  | cons v K J=>
   intro ys ns ms n h1 h2 f q
   cases h1 with
   | cons a t h1=>
    cases h2 with
    | nil=>
     rw[List.zip_nil_right,List.zipIdx_nil,List.forIn_nil];exact aQ<|q none<|.inr ⟨rfl,by rw[HT.rL,bq<|by simp]⟩
    | cons c u h2=>
     rw[List.zip_cons_cons,jD,List.forIn_cons];rw[HT.o4]at q;dsimp only;refine aG<|aG<|wpAny_eqBool_int ?_;by_cases e:a=c
     ·rw[aM e]at q;subst e;dsimp[bS,b_,a_,bU];refine aQ (J _ _ _ _ h1 h2 _ λr d=>q r ?_)
      rcases d with d|⟨d,B⟩
      ·exact .inl d
      ·exact .inr ⟨d,by rw[B];simp⟩
     ·rw[aJ e]at q;have G:(a == c)=false:=by simpa using e
      dsimp[G,cP,cK];exact aG<|Lx _<|aQ<|aQ<|q _<|.inl rfl
 refine aG (j xs ys ns ms 0 hi hj _ λr d=>?_)
 rcases d with rfl|⟨rfl,B⟩
 ·exact aQ h
 ·dsimp only;rw[br,br,<- B];exact aQ h
end
theorem AH:∀a:ag,HT.lexLt a a=false
 | []=>HT.sQ
 | x::a=>by rw[HT.o4,aM rfl];exact AH a
theorem Ek:∀{a b c:ag},HT.lexLt a b=true->HT.lexLt b c=true->HT.lexLt a c=true
 | [],[],_,h,_=>by rw[HT.sQ]at h;cases h
 | x::a,[],_,h,_=>by rw[HT.rL]at h;cases h
 | _,y::b,[],_,h=>by rw[HT.rL]at h;cases h
 | [],y::b,z::c,_,_=>HT.pK ..
 | x::a,y::b,z::c,h1,h2=>by
  rw[HT.o4]at h1 h2 ⊢;by_cases e1:x=y
  ·rw[aM e1]at h1;by_cases e2:y=z
   ·rw[aM e2]at h2;rw[aM<|e1.trans e2];exact Ek h1 h2
   ·rw[aJ e2]at h2;have:=bN h2;rw[aJ<|by omega];exact aW<|by omega
  ·rw[aJ e1]at h1;have d:=bN h1;by_cases e2:y=z
   ·rw[aJ<|by omega];exact aW (by omega)
   ·rw[aJ e2]at h2;have:=bN h2;rw[aJ<|by omega];exact aW<|by omega
theorem yD:∀{a b:ag},HT.lexLt a b=false->HT.lexLt b a=false->a=b
 | [],[],_,_=>rfl
 | [],y::b,h,_=>by rw[HT.pK]at h;cases h
 | x::a,[],_,h=>by rw[HT.pK]at h;cases h
 | x::a,y::b,h1,h2=>by
  rw[HT.o4]at h1 h2;by_cases e:x=y
  ·rw[aM e]at h1;rw[aM e.symm]at h2;rw[e,yD h1 h2]
  ·rw[aJ e]at h1;rw[aJ λz=>e z.symm]at h2;have:=c_ h1;have:=c_ h2;omega
def MW{a c:ag}(h:HT.lexLt a c=true):HT.lexLt a b=true\/HT.lexLt b c=true:=by
 cases e:HT.lexLt a b with
 | true=>exact .inl rfl
 | false=>
  right
  cases e2:HT.lexLt b a with
  | true=>exact Ek e2 h
  | false=>rw[<- yD e e2];exact h
abbrev Tu (kss:List<|ag):Ord where
 lt i j:=HT.lexLt (kss.getD i []) (kss.getD j [])
 PJ i:=AH _
 tr i j k:=Ek
 neg i j k:=MW
section
variable {prog:aj}{w:ah}{A:aA}{E:af->aC->Prop}{s:aC}
theorem Mi{α β:Type}{f:α->Sem β}(r:α->β):∀(l:List α),(∀a∈l,∀Q:β->aC->Prop,Q (r a) s->wpAny M A (f a) Q E s)->∀Q:List β->aC->Prop,Q (l.map r) s->wpAny M A (l.mapM f) Q E s
 | [],_,Q,q=>by rw[List.mapM_nil];exact aQ q
 | a::l,h,Q,q=>by
  rw[List.mapM_cons];refine aG<|h a (aK ..) _<|aG<|Mi r l (λb c=>h b<|aO _ c) _<|aQ q
def MN{α β:Type}{f:α->Sem β}(r:α->β)(l:List α)(h:∀a∈l,∀Q:β->aC->Prop,Q (r a) s->wpAny M A (f a) Q E s)(Q:Array β->aC->Prop)(q:Q (l.map r).toArray s):wpAny M A (l.toArray.mapM f) Q E s:=by
 rw[List.mapM_toArray,map_eq_pure_bind];exact aG<|Mi r l h _<|aQ q
def PC(u:af):firstOfTuple' u=(do
  if (<- typeOf u) != .type "tuple" then return none
  return (<- Builtin.List.listItems u)[0]?):=rfl
def N8{vs:bb}(h0:vs≠[])(ht:∀v∈vs,∃(l:ak) (xs:bb) (n:Int) (t:Tok),v=.ref l/\IsTup s.heap l (.int n t::xs).toArray){Q:SortKind->aC->Prop}(q:Q (tuples' true) s) :
  wpAny (model prog w) A (keyKind' vs.toArray) Q E s:=by
 have k:∀v,∃x:Int×Tok,v∈vs->∃(l:ak) (xs:bb),v=.ref l/\IsTup s.heap l (.int x.1 x.2::xs).toArray:=λv=>by
  by_cases c:v∈vs
  ·obtain⟨l,xs,n,t,e1,e2⟩:=ht v c;exact⟨(n,t),λ_=>⟨l,xs,e1,e2⟩⟩
  ·exact⟨(0,0),λz=>absurd z c⟩
 obtain⟨F,p⟩:=Classical.axiomOfChoice k;rw[keyKind'_eq];refine aG (MN (λv=>some<|Value.int (F v).1 (F v).2) vs (λv hv j f=>?_) _ ?_)
 ·obtain⟨l,xs,rfl,o,g,hc,n,C⟩:=p v hv;rw[PC];refine aG<|fY (T := "tuple") ⟨o,g,hc⟩ ?_;rw[aJ ⋯];exact aG (listItems_at g C<|aQ f)
 ·rw[aM<|by simp];refine aG<|d_ ?_;have e1:(vs.map λv=>some<|Value.int (F v).1 (F v).2).toArray.filterMap id=(vs.map λv=>Value.int (F v).1 (F v).2).toArray:=by
   rw[List.filterMap_toArray,List.filterMap_map];congr 1;rw[show(id ∘ λv=>some<|Value.int (F v).1 (F v).2)=λv=>some (Value.int (F v).1 (F v).2)from rfl];exact congrFun List.filterMap_eq_map' vs
  rw[e1,oneTypeOnly'_eq];refine aG (aG<|MN (λ_=>Value.type "int") _ (λv hv j f=>?_) _ ?_)
  ·obtain⟨u,_,rfl⟩:=bI.mp hv;exact aQ f
  ·rw[bK];obtain⟨e,d,rfl⟩:∃e d,vs=e::d:=by
    cases vs with
    | nil=>exact absurd rfl h0
    | cons a b=>exact⟨a,b,rfl⟩
   have m:((List.map ((λ_=>Value.type "int") ∘ λv=>Value.int (F v).1 (F v).2) (e::d)).toArray.all λx=>x == Value.type "int")=true:=by
    dsimp[List.all_toArray,all_map,jE];intro _ _;rfl
   have B:(List.map ((λ_=>Value.type "int") ∘ λv=>Value.int (F v).1 (F v).2) (e::d)).toArray[0]?=some (Value.type "int"):=by simp
   rw[B];dsimp[m,cK];exact aQ<|aQ q
end
end Sx
namespace L2
open PySem PySem.Spec PyProof.Rows
section
variable {X:Cx}
theorem zG:∀{rs:bd}{its:bb},Vals (rs.map V.ref) its->its=rs.map Value.ref
 | [],_,r=>by cases r;rfl
 | a::rs,_,r=>by
  cases r with
  | cons h t=>
   have e:_=Value.ref a:=h;rw[e,zG t];rfl
theorem De:∀(rs:bd),Vals (rs.map V.ref) (rs.map Value.ref)
 | []=>.nil
 | a::rs=>.cons (show RelV (.ref a) (.ref a)from rfl)<|De rs
def NZ{s:aC}{H:Hp}{Q:VK}{h':aq}{tk:Nat}{rs:bd}{kss:List<|ag}(I1:Inv X pins σ H { s with heap:=h',toks:=tk })(hlen:rs.length=kss.length)(hz:rs.length<=sizeLine)
  (hT:∀(i:Nat) (r:ak) (ks:ag),rs[i]?=some r->kss[i]?=some ks->oF X.K H r (ks.map V.int)/\ks≠[])
  (q:∀l g,H l=none->Sx.Cl g 0 kss.length->Sx.So (Sx.Tu kss) g 0 kss.length->Q (.ref l) (upd H l<|.lst<|((List.range kss.length).map λi=>rs.getD (g i) 0).map V.ref)) :
  wpAny (model X.prog X.w) X.A.in1 (do
   let l <- newList (rs.map Value.ref)
   let _ <- holding [l] (call (Value.builtin "list.sort") [l] [])
   ret l) (λfin s'=>∃v,fin=Fin.done (Flow.ret v)/\EP X pins σ Q v s') X.xe { s with heap:=h',toks:=tk }:=by
 have p:(rs.map Value.ref).length=kss.length:=by rw[aI,hlen]
 refine aG<|wpAny_newList ?_;have d:(h'.push<|seqObj "list" (rs.map Value.ref).toArray 0).get? h'.objs.size=some (seqObj "list" (rs.map Value.ref).toArray 0):=bz _ rfl
 skip
 have tup:∀(i:Nat) (r:ak) (ks:ag),rs[i]?=some r->kss[i]?=some ks->∃c:bb,IntsAre c ks/\IsTup (Sx.M5 (h'.push<|seqObj "list" (rs.map Value.ref).toArray 0) h'.objs.size<|rs.map Value.ref) r c.toArray:=λi r ks e1 e2=>by
  obtain⟨c,Y,⟨o,F,hc,n,T⟩,_⟩:=I1.tuple (hT i r ks e1 e2).1;refine⟨c,intsAre_of Y,o,?_,hc,n,T⟩;have lt:r<h'.objs.size:=bA F;rw[Sx.Wz (bD lt)<|by rw[gv];exact gu lt];exact aR _ F
 refine aG (dw<|cN slot_list_sort ⟨_,d,rfl⟩ entry_list_sort (Sx.DN (o:=Sx.Tu kss) (kd:=tuples' true) d (by rw[p];lia) (λh2 G m=>?_) (λh2 i j hi L Z G m=>?_) λg hc hs=>⟨_,rfl,?_⟩)<|args_list_sort _)
 ·refine Sx.N8 (λz=>by rw[z]at h2;simp at h2) (λv hv=>?_) m;obtain⟨i,hi⟩:=gA hv;rw[aX]at hi;obtain⟨r,k,rfl⟩:=bg.mp hi;have lt:=(aN.mp k).1;have e2:kss[i]?=some kss[i]:=aH ();obtain⟨c,h1,h3⟩:=tup i r _ k e2;have f:=(hT i r _ k e2).2;generalize kss[i]=ks at h1 f
  cases h1 with
  | nil=>exact absurd rfl f
  | cons a t h1=>exact⟨r,_,a,t,rfl,h3⟩
 ·rw[p]at hi L;have e1:rs[i]?=some (rs[i]'()):=aH _;have e2:rs[j]?=some (rs[j]'()):=aH _;have M:kss[i]?=some kss[i]:=aH hi;have J:kss[j]?=some kss[j]:=aH L;obtain⟨x1,a1,O⟩:=tup i _ _ e1 M;obtain⟨x2,U,W⟩:=tup j _ _ e2 J;have v1:(rs.map Value.ref).getD i .none=.ref (rs[i]'()):=by rw[aL,aX,e1];rfl
  have v2:(rs.map Value.ref).getD j .none=.ref (rs[j]'()):=by rw[aL,aX,e2];rfl
  show wpAny _ _ (keyLt' (tuples' true) ((rs.map Value.ref).getD i .none)<|(rs.map Value.ref).getD j .none) G Z _;rw[v1,v2];refine Sx.II true O W a1 U ?_;have d1:kss.getD i []=kss[i]:=by rw[aL,M];rfl
  have N:kss.getD j []=kss[j]:=by rw[aL,J];rfl
  have:(Sx.Tu kss).lt i j=HT.lexLt kss[i] kss[j]:=by show HT.lexLt _ _=_;rw[d1,N]
  rw[<- this];exact m
 ·rw[p]at hc hs ⊢;obtain⟨e,P⟩:=sortedHeap_at (out:=((List.range kss.length).map λi=>(rs.map Value.ref).getD (g i) .none).toArray) d;have old:∀b B,h'.get? b=some B->(sortedHeap (h'.push<|seqObj "list" (rs.map Value.ref).toArray 0) h'.objs.size (rs.map Value.ref) ((List.range kss.length).map λi=>(rs.map Value.ref).getD (g i) .none).toArray).get? b=some B:=λb B C=>by
   rw[sortedHeap_old (bD<|bA C)<|by rw[gv];exact gu<|bA C];exact aR _ C
  refine aQ ⟨_,rfl,.ref h'.objs.size,_,I1.laid (t':=tk) (o:=.lst<|((List.range kss.length).map λi=>rs.getD (g i) 0).map V.ref) old (aP _) ?_,rfl,q _ g (I1.hok.fresh<|aP _) hc hs⟩;refine⟨by rw[aI,aI,cI];lia,((List.range kss.length).map λi=>rs.getD (g i) 0).map Value.ref,e,De _,?_⟩;rw[P];congr 2;rw[bK];congr 1;refine dj λi hi=>?_;have:=(hc i (bY _)<|dP.mp hi).2;have lt:g i<rs.length:=()
  show(rs.map Value.ref).getD (g i) .none=Value.ref (rs.getD (g i) 0);rw[aL,aX,aH lt,aL,aH lt];rfl
end
end L2
namespace Sx
open PySem PyProof.Rows
open PySem.AutoSeq1 (wpAny_loadPart')
open PySem.MeetsSeq PySem.MeetsSeq2 PySem.MeetsSeq3
theorem AQ:∀{xs:bb}{ns:ag}{i:Nat},IntsAre xs ns->i<ns.length->∃t,xs[i]?=some (.int (ns.getD i 0) t)
 | _,_,i,.nil,h=>absurd h (eS _)
 | _,_,0,.cons n t h,_=>⟨t,rfl⟩
 | _,_,i+1,.cons n t h,hi=>by
  obtain⟨c,e⟩:=AQ h (i:=i) (by simpa using hi);exact⟨c,by simpa using e⟩
end Sx
namespace Am
open PySem
inductive A where
 | unb|non|bl (b:Bool)|int (i:Int)|str (x:Str)|tup (xs:List A)|frz (xs:List A)|rng (lo hi:Int)|ref (n:Nat)|exn (c:Str)|ty (n:String)|ktu (xs:List A)
@[reducible]def ae:=List A
inductive O where
 | lst (xs:ae)|dct (kvs:List<|ag×A)|pZ (kvs:List<|Int×A)|u9 (kvs:List<|L2.nj×A)|ins (c:Str) (fs:List<|Str×A)
meta abbrev jV:=List O
inductive R (α:Type) where
 | ok (a:α) (S:jV)|ex (c:Str) (S:jV)|no
abbrev R.bind {α β:Type}(r:R α)(f:α->jV->R β):R β:=match r with
 | .ok a S=>f a S
 | .ex c S=>.ex c S
 | .no=>.no
abbrev R.post {α:Type}(r:R α)(P:α->jV->Prop)(E:Str->jV->Prop):Prop:=match r with
 | .ok a S=>P a S
 | .ex c S=>E c S
 | .no=>False
def j4{α β:Type}{r:R α}{f:α->jV->R β}{P:β->jV->Prop}{E:Str->jV->Prop}(h:(r.bind f).post P E):r.post (λa S=>(f a S).post P E) E:=by
 cases r<;>exact h
def Oc{α:Type}{r:R α}{P P':α->jV->Prop}{E E':Str->jV->Prop}(h:r.post P E)(hp:∀a S,P a S->P' a S)(he:∀c S,E c S->E' c S):r.post P' E':=by
 cases r with
 | ok a S=>exact hp _ _ h
 | ex c S=>exact he _ _ h
 | no=>exact h.elim
abbrev gd {α:Type}(c:Prop)[Decidable c](r:R α):R α:=if c then r else .no
abbrev opt {α β:Type}(o:Option β)(f:β->R α):R α:=match o with
 | some b=>f b
 | none=>.no
def kF{α:Type}{c:Prop}[Decidable c]{r:R α}{P:α->jV->Prop}{E:Str->jV->Prop}(h:(gd c r).post P E):c/\r.post P E:=by
 unfold gd at h;by_cases hc:c
 ·rw[aM hc]at h;exact⟨hc,h⟩
 ·rw[aJ hc]at h;exact h.elim
def j5{α β:Type}{o:Option β}{f:β->R α}{P:α->jV->Prop}{E:Str->jV->Prop}(h:(opt o f).post P E):∃b,o=some b/\(f b).post P E:=by
 cases o with
 | none=>exact h.elim
 | some b=>exact⟨b,rfl,h⟩
def aap{α:Type}{c:Prop}[Decidable c]{r:R α}(h:c):gd c r=r:=aM h
abbrev jU (S:jV)(n:Nat):Option (ae):=match S[n]? with
 | some (.lst xs)=>some xs
 | _=>none
def kg{n:Nat}(h:jU S n=some xs):S[n]?=some (.lst xs):=by
 unfold jU at h;split at h
 ·rename_i e;cases h;exact e
 ·cases h
def wj{S:jV}{n:Nat}(h:S[n]?=some (.lst xs)):jU S n=some xs:=by
 unfold jU;rw[h]
inductive RS where
 | nx (τ:ae) (S:jV)|rt (a:A) (S:jV)|bk (τ:ae) (S:jV)|ct (τ:ae) (S:jV)|ex (c:Str) (S:jV)|no
meta abbrev Ex:=ae->jV->R A
meta abbrev tH:=ae->jV->R (ae)
meta abbrev Te:=ae->jV->R Bool
meta abbrev Sm:=ae->jV->RS
meta abbrev Tg:=A->ae->jV->R (ae)
end Am
namespace Am
open PySem L2
section
variable (K:au) (ρ:bd) (H:Hp)
abbrev ClN (K:au)(c:Str)(C:ak):Prop:=PySem.W.nsIn K mainGlobals c=some (some<|.ref C)
abbrev Fz (K:au)(H:Hp)(a:ak)(vs:List V):Prop:=
 (∃o,H a=some (.frz o<|.lst vs))\/∃(o:Obj) (c:Array af) (n:Nat),K.lookup a=some o/\o.cls=.type "list" /\ o.dict=none/\o.data=.seq c n/\c.size<=sizeLine/\Vals vs c.toList
abbrev KTp (K:au)(a:ak)(vs:List V):Prop:=∃(o:Obj) (c:Array af) (n:Nat),K.lookup a=some o/\o.cls=.type "tuple" /\ o.dict=none/\o.data=.seq c n/\c.size<=sizeLine/\Vals vs c.toList
mutual
inductive AV:A->V->Prop
 | non:AV .non .non
 | bl (b:Bool):AV (.bl b) (.bl b)
 | int (i:Int):AV (.int i) (.int i)
 | str (x:Str):AV (.str x) (.str x)
 | ty (n:String):AV (.ty n) (.ty n)
 | tup {a:ak} {xs:ae} {vs:List V} (h:H a=some (.tup vs)) (r:AVs xs vs):AV (.tup xs) (.ref a)
 | frz {a:ak} {xs:ae} {vs:List V} (h:Fz K H a vs) (r:AVs xs vs):AV (.frz xs) (.ref a)
 | rng {a:ak} {lo hi:Int} (h:H a=some (.rng lo hi)):AV (.rng lo hi) (.ref a)
 | ref {a:ak} {n:Nat} (h:ρ[n]?=some a):AV (.ref n) (.ref a)
 | exn {a C:ak} {c:Str} {oe:Obj} (n:ClN K c C) (h:H a=some (.frz oe xu)) (x:XO C oe):AV (.exn c) (.ref a)
 | ktu {a:ak} {xs:ae} {vs:List V} (h:KTp K a vs) (r:AVs xs vs):AV (.ktu xs)<|.ref a
inductive AVs:ae->List V->Prop
 | nil:AVs [] []
 | cons {x:A} {v:V} {xs:ae} {vs:List V} (h:AV x v) (t:AVs xs vs):AVs (x::xs) (v::vs)
end
abbrev DV:List (ag×A)->List (List Key×V)->Prop
 | [],[]=>True
 | p::r,q::r'=>(q.1=p.1.map Sum.inl/\AV K ρ H p.2 q.2)/\DV r r'
 | _,_=>False
abbrev DI:List (Int×A)->List (Key×V)->Prop
 | [],[]=>True
 | p::r,q::r'=>(q.1=Sum.inl p.1/\AV K ρ H p.2 q.2)/\DI r r'
 | _,_=>False
abbrev DP:List (L2.nj×A)->List (L2.nj×ak×af)->Prop
 | [],[]=>True
 | p::r,q::r'=>(q.1=p.1/\L2.t_ H q.2.1 q.1/\∃v,RelV v q.2.2/\AV K ρ H p.2 v)/\DP r r'
 | _,_=>False
abbrev OR (a:ak):O->Prop
 | .lst xs=>∃c,H a=some (.lst c)/\AVs K ρ H xs c
 | .dct kvs=>∃ks,H a=some (.dT ks)/\DV K ρ H kvs ks
 | .pZ kvs=>∃ks,H a=some (.dK ks)/\DI K ρ H kvs ks
 | .u9 kvs=>∃xs,H a=some (.ext<|L2.xh a xs)/\DP K ρ H kvs xs
 | .ins _ _=>∃o u,H a=some (.frz o u)
structure Rel (S:jV):Prop where
 len:ρ.length=S.length
 nd:ρ.Nodup
 «at»:∀(n:Nat) (a:ak) (o:O),ρ[n]?=some a->S[n]?=some o->OR K ρ H a o
end
abbrev Imm:HO->Prop
 | .tup _=>True
 | .rng _ _=>True
 | .frz _ _=>True
 | _=>False
structure Ext0 (ρ ρ':bd)(H H':Hp):Prop where
 pre:ρ <+: ρ'
 im:∀a u,Imm u->H a=some u->H' a=some u
structure Ext (ρ ρ':bd)(H H':Hp):Prop extends Ext0 ρ ρ' H H' where
 fr:∀a u,H a=some u->a∉ρ->H' a=some u
 nw:∀a,a∈ρ'->a∈ρ\/H a=none
def Ext.refl{H:Hp}:Ext ρ ρ H H:=⟨⟨eX _,λ_ _ _ h=>h⟩,λ_ _ h _=>h,λ_ h=>.inl h⟩
def Ext.trans{H H1 H2:Hp}(a:Ext ρ ρ1 H H1)(b:Ext ρ1 ρ2 H1 H2):Ext ρ ρ2 H H2:=⟨⟨a.pre.trans b.pre,λx u i h=>b.im x u i<|a.im x u i h⟩,λx u h n=>b.fr x u (a.fr x u h n) λz=>(a.nw x z).elim n λz=>by(rw[z]at h;cases h),λx h=>by
 by_cases c:x∈ρ
 ·exact .inl c
 ·right
  cases q:H x with
  | none=>rfl
  | some u=>
   rcases b.nw x h with z|z
   ·exact((a.nw x z).elim c λz=>by(rw[z]at q;cases q)).elim
   ·rw[a.fr x u q c]at z;cases z⟩
def Ext0.get{H H':Hp}(e:Ext0 ρ ρ' H H'){n:Nat}{a:ak}(h:ρ[n]?=some a):ρ'[n]?=some a:=by
 obtain⟨t,rfl⟩:=e.pre;rw[bF (aN.mp h).1];exact h
section
variable {K:au}{ρ ρ':bd}{H H':Hp}
def Ext0.sqT(e:Ext0 ρ ρ' H H'){a:ak}(h:oF K H a vs):oF K H' a vs:=by
 rcases h with(h|⟨o,h⟩)|h
 ·exact .inl (.inl<|e.im _ _ trivial h)
 ·exact .inl (.inr ⟨o,e.im _ _ trivial h⟩)
 ·exact .inr h
def Ext0.fz(e:Ext0 ρ ρ' H H'){a:ak}(h:Fz K H a vs):Fz K H' a vs:=by
 rcases h with⟨o,h⟩|h
 ·exact .inl ⟨o,e.im _ _ trivial h⟩
 ·exact .inr h
def Fz.UK{a:ak}(h:Fz K H a vs):qj K H a vs:=by
 rcases h with⟨o,h⟩|h
 ·exact .inl (.inr ⟨o,h⟩)
 ·exact .inr h
mutual
theorem AV.nM(e:Ext0 ρ ρ' H H'):∀{x:A}{v:V},AV K ρ H x v->AV K ρ' H' x v
 | _,_,.non=>.non
 | _,_,.bl b=>.bl b
 | _,_,.int i=>.int i
 | _,_,.str x=>.str x
 | _,_,.ty x=>.ty x
 | _,_,.tup h r=>.tup (e.im _ _ trivial h) (AVs.nM e r)
 | _,_,.frz h r=>.frz (e.fz h) (AVs.nM e r)
 | _,_,.rng h=>.rng (e.im _ _ trivial h)
 | _,_,.ref h=>.ref (e.get h)
 | _,_,.exn n h x=>.exn n (e.im _ _ trivial h) x
 | _,_,.ktu h r=>.ktu h<|AVs.nM e r
theorem AVs.nM(e:Ext0 ρ ρ' H H'):∀{xs:ae}{vs:List V},AVs K ρ H xs vs->AVs K ρ' H' xs vs
 | _,_,.nil=>.nil
 | _,_,.cons h t=>.cons (AV.nM e h)<|AVs.nM e t
end
theorem DV.nM(e:Ext0 ρ ρ' H H'):∀{xs:List<|ag×A}{vs:List<|List Key×V},DV K ρ H xs vs->DV K ρ' H' xs vs
 | [],[],_=>trivial
 | _::_,_::_,⟨⟨a,b⟩,r⟩=>⟨⟨a,AV.nM e b⟩,DV.nM e r⟩
def DV.ext{x:List<|ag×A}{v:List<|List Key×V}(h:DV K ρ H x v)(e:Ext ρ ρ' H H'):DV K ρ' H' x v:=DV.nM e.toExt0 h
theorem DI.nM(e:Ext0 ρ ρ' H H'):∀{xs:List<|Int×A}{vs:List<|Key×V},DI K ρ H xs vs->DI K ρ' H' xs vs
 | [],[],_=>trivial
 | _::_,_::_,⟨⟨a,b⟩,r⟩=>⟨⟨a,AV.nM e b⟩,DI.nM e r⟩
def DI.ext{x:List<|Int×A}{v:List<|Key×V}(h:DI K ρ H x v)(e:Ext ρ ρ' H H'):DI K ρ' H' x v:=DI.nM e.toExt0 h
def t_.nM{k:L2.nj}(e:Ext0 ρ ρ' H H'):L2.t_ H b k->L2.t_ H' b k:=λ⟨r1,r2,h1,h2,h3⟩=>⟨r1,r2,e.im _ _ trivial h1,e.im _ _ trivial h2,e.im _ _ trivial h3⟩
theorem DP.nM(e:Ext0 ρ ρ' H H'):∀{xs:List<|L2.nj×A}{vs:List<|L2.nj×ak×af},DP K ρ H xs vs->DP K ρ' H' xs vs
 | [],[],_=>trivial
 | _::_,_::_,⟨⟨a,k,v,c,b⟩,r⟩=>⟨⟨a,t_.nM e k,v,c,AV.nM e b⟩,DP.nM e r⟩
def DP.ext{x:List<|L2.nj×A}{v:List<|L2.nj×ak×af}(h:DP K ρ H x v)(e:Ext ρ ρ' H H'):DP K ρ' H' x v:=DP.nM e.toExt0 h
def AV.ext{x:A}{v:V}(h:AV K ρ H x v)(e:Ext ρ ρ' H H'):AV K ρ' H' x v:=AV.nM e.toExt0 h
def AVs.ext{x:ae}{v:List V}(h:AVs K ρ H x v)(e:Ext ρ ρ' H H'):AVs K ρ' H' x v:=AVs.nM e.toExt0 h
theorem AVs.length:∀{xs:ae}{vs:List V},AVs K ρ H xs vs->xs.length=vs.length
 | _,_,.nil=>rfl
 | _,_,.cons _ t=>dQ (·+1)<|AVs.length t
theorem AVs.append:∀{xs ys:ae}{vs ws:List V},AVs K ρ H xs vs->AVs K ρ H ys ws->AVs K ρ H (xs++ys) (vs++ws)
 | _,_,_,_,.nil,s=>s
 | _,_,_,_,.cons h t,s=>.cons h<|AVs.append t s
theorem AVs.take:∀{xs:ae}{vs:List V}(n:Nat),AVs K ρ H xs vs->AVs K ρ H (xs.take n) (vs.take n)
 | _,_,0,_=>.nil
 | _,_,_+1,.nil=>.nil
 | _,_,n+1,.cons h t=>.cons h<|AVs.take n t
theorem AVs.drop:∀{xs:ae}{vs:List V}(n:Nat),AVs K ρ H xs vs->AVs K ρ H (xs.drop n) (vs.drop n)
 | _,_,0,r=>r
 | _,_,_+1,.nil=>.nil
 | _,_,n+1,.cons _ t=>AVs.drop n t
theorem AVs.get:∀{xs:ae}{vs:List V}{i:Nat}{x:A},AVs K ρ H xs vs->xs[i]?=some x->∃v,vs[i]?=some v/\AV K ρ H x v
 | _,_,_,_,.nil,e=>by simp at e
 | _,_,0,_,.cons h _,e=>by simp at e;subst e;exact⟨_,rfl,h⟩
 | _,_,i+1,x,.cons _ t,e=>by
  obtain⟨u,h1,h2⟩:=AVs.get (i:=i) (x:=x) t (by simpa using e);exact⟨u,by simpa using h1,h2⟩
theorem AVs.set{x:A}{v:V}(h:AV K ρ H x v):∀{xs:ae}{vs:List V}(i:Nat),AVs K ρ H xs vs->AVs K ρ H (xs.set i x) (vs.set i v)
 | _,_,_,.nil=>.nil
 | _,_,0,.cons _ t=>.cons h t
 | _,_,i+1,.cons q t=>.cons q<|AVs.set h i t
def AVs.one{x:A}{v:V}(h:AV K ρ H x v):AVs K ρ H [x] [v]:=.cons h .nil
theorem AVs.eraseIdx:∀{xs:ae}{vs:List V}(i:Nat),AVs K ρ H xs vs->AVs K ρ H (xs.eraseIdx i) (vs.eraseIdx i)
 | _,_,_,.nil=>.nil
 | _,_,0,.cons _ t=>t
 | _,_,i+1,.cons q t=>.cons q<|AVs.eraseIdx i t
theorem um:∀(ns:ag),AVs K ρ H (ns.map .int) (ns.map .int)
 | []=>.nil
 | n::ns=>.cons (.int n)<|um ns
def Rel.lay{S:jV}{p:ak}(R:Rel K ρ H S)(hp:H p=none)(r:AVs K ρ H xs vs):Ext ρ (ρ++[p]) H (upd H p<|.lst vs)/\Rel K (ρ++[p]) (upd H p<|.lst vs) (S++[.lst xs])/\(ρ++[p])[S.length]?=some p:=by
 have ex:Ext ρ (ρ++[p]) H (upd H p<|.lst vs):=⟨⟨e_ _ _,λa u _ h=>by rw[j8<|ko h hp];exact h⟩,λa u h _=>by rw[j8<|ko h hp];exact h,λa h=>by
  rcases bG.mp h with z|z
  ·exact .inl z
  ·have e:a=p:=by simpa using z
   rw[e];exact .inr hp⟩
 have d:∀(n:Nat) (a:ak),ρ[n]?=some a->a≠p:=by
  intro n a e z;subst z;have hn:n<S.length:=by rw[<- R.len];exact(aN.mp e).1
  have:=R.at n a S[n] e (aH hn)
  cases f:S[n]with
  | lst xs=>rw[f]at this;obtain⟨vs,h,_⟩:=this;rw[hp]at h;cases h
  | dct _|pZ _|u9 _=>rw[f]at this;obtain⟨vs,h,_⟩:=this;rw[hp]at h;cases h
  | ins _ _=>rw[f]at this;obtain⟨_,_,h⟩:=this;rw[hp]at h;cases h
 have c:(ρ++[p])[S.length]?=some p:=by rw[<- R.len];simp
 refine⟨ex,⟨by simp[R.len],?_,?_⟩,c⟩
 ·rw[c8];refine⟨R.nd,by simp,λa B b C e=>?_⟩;have:b=p:=by simpa using C
  obtain⟨n,hn,k⟩:=i7.mp B;exact d n a (by rw[aH hn,k])<|e.trans this
 ·intro n a o h1 h2;by_cases hn:n<S.length
  ·rw[bF<|by rw[R.len];exact hn]at h1;rw[bF hn]at h2;have:=R.at n a o h1 h2
   cases o with
   | lst ys=>obtain⟨g,e,q⟩:=this;exact⟨g,by rw[j8<|d n a h1];exact e,q.ext ex⟩
   | dct _|pZ _|u9 _=>obtain⟨g,e,q⟩:=this;exact⟨g,by rw[j8<|d n a h1];exact e,q.ext ex⟩
   | ins _ _=>obtain⟨j,m,e⟩:=this;exact⟨j,m,by rw[j8<|d n a h1];exact e⟩
  ·have e:n=S.length:=by
    have:=(aN.mp h2).1;simp at this
    lia
   subst e;rw[c]at h1
   cases h1
   simp at h2;subst h2;exact⟨vs,lE,r.ext ex⟩
def Rel.im{p:ak}(R:Rel K ρ H S)(hp:H p=none):Ext ρ ρ H (upd H p u)/\Rel K ρ (upd H p u) S:=by
 have ex:Ext ρ ρ H (upd H p u):=⟨⟨eX _,λa u _ h=>by rw[j8<|ko h hp];exact h⟩,λa u h _=>by rw[j8<|ko h hp];exact h,λ_ h=>.inl h⟩;refine⟨ex,R.len,R.nd,λn a o h1 h2=>?_⟩;have:=R.at n a o h1 h2
 cases o with
 | lst ys=>obtain⟨c,e,q⟩:=this;exact⟨c,by rw[j8<|ko e hp];exact e,q.ext ex⟩
 | dct _|pZ _|u9 _=>obtain⟨c,e,q⟩:=this;exact⟨c,by rw[j8<|ko e hp];exact e,q.ext ex⟩
 | ins _ _=>obtain⟨d,f,e⟩:=this;exact⟨d,f,by rw[j8<|ko e hp];exact e⟩
def Rel.put{S:jV}{n:Nat}{a:ak}(R:Rel K ρ H S)(ha:ρ[n]?=some a)(hS:S[n]?=some (.lst xs))(r:AVs K ρ H ys ws):Ext ρ ρ H (upd H a<|.lst ws)/\Rel K ρ (upd H a<|.lst ws) (S.set n<|.lst ys):=by
 obtain⟨k,e,_⟩:=R.at n a _ ha hS;have ex:Ext ρ ρ H (upd H a<|.lst ws):=⟨⟨eX _,λb u i h=>by
  have:b≠a:=by
   intro z;subst z;rw[e]at h;cases h;exact i
  rw[j8 this];exact h⟩,λb u h n=>by
  rw[j8 λz=>n<|by rw[z];exact aY ha];exact h,λ_ h=>.inl h⟩
 refine⟨ex,by rw[bW];exact R.len,R.nd,λm b o h1 h2=>?_⟩;by_cases f:m=n
 ·subst f;rw[ha]at h1;cases h1;rw[bJ (aN.mp hS).1]at h2
  cases h2
  exact⟨ws,lE,r.ext ex⟩
 ·rw[bP<|c9 f]at h2;have nb:b≠a:=λz=>by
   subst z;obtain⟨B,e1⟩:=aN.mp ha;obtain⟨p,e2⟩:=aN.mp h1;exact f<|(dB R.nd).mp<|e2.trans e1.symm
  have:=R.at m b o h1 h2
  cases o with
  | lst ys=>obtain⟨c,d,q⟩:=this;exact⟨c,by rw[j8 nb];exact d,q.ext ex⟩
  | dct _|pZ _|u9 _=>obtain⟨c,d,q⟩:=this;exact⟨c,by rw[j8 nb];exact d,q.ext ex⟩
  | ins _ _=>obtain⟨g,j,d⟩:=this;exact⟨g,j,by rw[j8 nb];exact d⟩
def Rel.lst{n:Nat}{a:ak}(R:Rel K ρ H S)(ha:ρ[n]?=some a)(hS:S[n]?=some (.lst xs)):∃vs,H a=some (.lst vs)/\AVs K ρ H xs vs:=R.at n a _ ha hS
structure SR (K:au)(ρ:bd)(H:Hp)(τ:ae)(σ:St):Prop where
 len:τ.length=σ.length
 «at»:∀(i:Nat) (a:A),τ[i]?=some a->a=.unb\/∃v,σ[i]?=some (some v)/\AV K ρ H a v
def SR.nM(s:SR K ρ H τ σ)(e:Ext0 ρ ρ' H H'):SR K ρ' H' τ σ:=⟨s.len,λi a h=>by
 rcases s.at i a h with z|⟨v,h1,h2⟩
 ·exact .inl z
 ·exact .inr ⟨v,h1,AV.nM e h2⟩⟩
def SR.ext(s:SR K ρ H τ σ)(e:Ext ρ ρ' H H'):SR K ρ' H' τ σ:=s.nM e.toExt0
def Rel.out{D:ak}(R:Rel K ρ H S)(hD:H D=some (.lst vs))(hn:D∉ρ):Ext0 ρ ρ H (upd H D<|.lst ws)/\Rel K ρ (upd H D<|.lst ws) S:=by
 have ex:Ext0 ρ ρ H (upd H D<|.lst ws):=⟨eX _,λb u i h=>by
  have:b≠D:=by
   intro z;subst z;rw[hD]at h;cases h;exact i
  rw[j8 this];exact h⟩
 refine⟨ex,R.len,R.nd,λn a o h1 h2=>?_⟩;have na:a≠D:=λz=>hn (by rw[<- z];exact aY h1);have:=R.at n a o h1 h2
 cases o with
 | lst ys=>obtain⟨c,e,q⟩:=this;exact⟨c,by rw[j8 na];exact e,AVs.nM ex q⟩
 | dct _|pZ _|u9 _=>obtain⟨c,e,q⟩:=this;exact⟨c,by rw[j8 na];exact e,q.nM ex⟩
 | ins _ _=>obtain⟨d,f,e⟩:=this;exact⟨d,f,by rw[j8 na];exact e⟩
def Rel.take{S:jV}{D:ak}(R:Rel K ρ H S)(hD:H D=some (.lst vs))(hn:D∉ρ)(r:AVs K ρ H xs vs):Rel K (ρ++[D]) H (S++[.lst xs])/\(ρ++[D])[S.length]?=some D:=by
 have ex:Ext0 ρ (ρ++[D]) H H:=⟨e_ _ _,λ_ _ _ h=>h⟩;have c:(ρ++[D])[S.length]?=some D:=by rw[<- R.len];simp
 refine⟨⟨by simp[R.len],?_,λn a o h1 h2=>?_⟩,c⟩
 ·rw[c8];refine⟨R.nd,by simp,λa j b k e=>?_⟩;have:b=D:=by simpa using k
  exact hn<|by rw[<- this,<- e];exact j
 ·by_cases hs:n<S.length
  ·rw[bF<|by rw[R.len];exact hs]at h1;rw[bF hs]at h2;have:=R.at n a o h1 h2
   cases o with
   | lst ys=>obtain⟨d,e,q⟩:=this;exact⟨d,e,AVs.nM ex q⟩
   | dct _|pZ _|u9 _=>obtain⟨d,e,q⟩:=this;exact⟨d,e,q.nM ex⟩
   | ins _ _=>obtain⟨f,g,e⟩:=this;exact⟨f,g,e⟩
  ·have e:n=S.length:=by
    have:=(aN.mp h2).1;simp at this
    lia
   subst e;rw[c]at h1
   cases h1
   simp at h2;subst h2;exact⟨vs,hD,AVs.nM ex r⟩
def SR.set{τ:ae}{σ:St}{a:A}{v:V}(s:SR K ρ H τ σ)(h:AV K ρ H a v):SR K ρ H (τ.set i a) (σ.set i<|some v):=by
 refine⟨by simp[s.len],λj b e=>?_⟩;by_cases c:j=i
 ·subst c;have d:j<τ.length:=by
   have:=(aN.mp e).1;simpa using this
  rw[bJ d]at e
  cases e
  exact .inr ⟨v,bJ<|by rw[<- s.len];exact d,h⟩
 ·rw[bP<|c9 c]at e;rw[bP<|c9 c];exact s.at j b e
end
end Am
namespace Am
open PySem PySem.Spec PyProof.Rows L2
abbrev XE (X:Cx)(ρ:bd)(H:Hp):Str->jV->Prop:=λc d=>∀(C:ak) (ρ':bd) (H':Hp),ClN X.K c C->Ext ρ ρ' H H'->Rel X.K ρ' H' d->EX X (.ref C) none H'
def XE.ext{X:Cx}{H H':Hp}{c:Str}(h:XE X ρ H c S)(e:Ext ρ ρ' H H'):XE X ρ' H' c S:=λC ρ2 H2 n e2=>h C ρ2 H2 n<|e.trans e2
abbrev CG (X:Cx)(ρ:bd)(H:Hp)(Q:VK):A->jV->Prop:=λa c=>∀ρ' H' v,Ext ρ ρ' H H'->Rel X.K ρ' H' c->AV X.K ρ' H' a v->Q v H'
abbrev okB (X:Cx)(ρ:bd)(H:Hp)(Q:Bool->Hp->Prop):Bool->jV->Prop:=λb c=>∀ρ' H',Ext ρ ρ' H H'->Rel X.K ρ' H' c->Q b H'
abbrev okL (X:Cx)(ρ:bd)(H:Hp)(Q:List V->Hp->Prop):ae->jV->Prop:=λas d=>∀ρ' H' c,Ext ρ ρ' H H'->Rel X.K ρ' H' d->AVs X.K ρ' H' as c->Q c H'
def CG.ext{X:Cx}{H H':Hp}{Q:VK}{a:A}(h:CG X ρ H Q a S)(e:Ext ρ ρ' H H'):CG X ρ' H' Q a S:=λρ2 H2 v e2=>h ρ2 H2 v<|e.trans e2
def okB.ext{X:Cx}{H H':Hp}{Q:Bool->Hp->Prop}{a:Bool}(h:okB X ρ H Q a S)(e:Ext ρ ρ' H H'):okB X ρ' H' Q a S:=λρ2 H2 e2=>h ρ2 H2<|e.trans e2
def jX{α:Type}{X:Cx}{H H':Hp}{r:R α}{P P':α->jV->Prop}(h:r.post P<|XE X ρ H)(e:Ext ρ ρ' H H')(hp:∀a S,P a S->P' a S):r.post P' (XE X ρ' H'):=Oc h hp λ_ _ z=>z.ext e
abbrev tE (X:Cx)(c:Ex):TE:=λσ H Q=>∃ρ S τ,Rel X.K ρ H S/\SR X.K ρ H τ σ/\(c τ S).post (CG X ρ H Q) (XE X ρ H)
abbrev tT (X:Cx)(c:Te):TT:=λσ H Q=>∃ρ S τ,Rel X.K ρ H S/\SR X.K ρ H τ σ/\(c τ S).post (okB X ρ H Q) (XE X ρ H)
abbrev tL (X:Cx)(c:tH):TA:=λσ H Q=>∃ρ S τ,Rel X.K ρ H S/\SR X.K ρ H τ σ/\(c τ S).post (okL X ρ H Q) (XE X ρ H)
abbrev AE (X:Cx)(e:aE)(c:Ex):Prop:=PE X e<|tE X c
abbrev AT (X:Cx)(e:aE)(c:Te):Prop:=PT X e<|tT X c
abbrev AW (X:Cx)(e:aE)(c:Te):Prop:=PW X e<|tT X c
abbrev AL (X:Cx)(es:List aE)(c:tH):Prop:=PA X es<|tL X c
def PE.imp{X:Cx}{e:aE}{t t':TE}(h:PE X e t)(i:∀σ H Q,t' σ H Q->t σ H Q):PE X e t':=λpins s σ H Q I q=>h pins s σ H Q I<|i σ H Q q
def PT.imp{X:Cx}{e:aE}{t t':TT}(h:PT X e t)(i:∀σ H Q,t' σ H Q->t σ H Q):PT X e t':=λpins s σ H Q I q=>h pins s σ H Q I<|i σ H Q q
def PW.imp{X:Cx}{e:aE}{t t':TT}(h:PW X e t)(i:∀σ H Q,t' σ H Q->t σ H Q):PW X e t':=λw pins s σ H Q I q=>h w pins s σ H Q I<|i σ H Q q
def PA.imp{X:Cx}{e:List aE}{t t':TA}(h:PA X e t)(i:∀σ H Q,t' σ H Q->t σ H Q):PA X e t':=λp pins s σ H Q I q=>h p pins s σ H Q I<|i σ H Q q
def AW.at{X:Cx}{e:aE}{c:Te}(h:AW X e c):AT X e c:=h _
abbrev A.pY:A->Bool
 | .unb=>true
 | _=>false
abbrev jS (i:Nat):Ex:=λτ S=>if (τ.getD i .unb).pY then .no else .ok (τ.getD i .unb) S
abbrev eC (a:A):Ex:=λ_ S=>.ok a S
section
variable {X:Cx}{pos:Pos}{a b:aE}
def jQ(i:Nat){x:Str}(hN:X.N[i]?=some x<|>ι)(hv:Vis X.env.scope x:=by first|exact Or.inl rfl|exact Or.inr (Or.inl rfl)|exact Or.inr<|Or.inr rfl)(hd:(x == ("__debug__" : Str))=false:=by decide)
  (hcd:(x == ("__classdict__" : Str))=false:=by decide):AE X (.Name x pos) (jS i):=PE.imp (OE hN hv hd hcd) λσ H Q h9=>by
 z_go;unfold jS at h
 cases hi:τ[i]? with
 | none=>
  rw[aL,hi]at h;exact h.elim
 | some x=>
  rw[aL,hi]at h
  rcases r.at i x hi with z|⟨v,e,q⟩
  ·subst z;exact h.elim
  ·refine⟨v,e,?_⟩
   cases x<;>first|(exact h ρ H v .refl R q)|exact h.elim
def j0{i:Int}{j pos}:AE X (.Constant (.int i) j pos) (eC<|.int i):=PE.imp Y8 λσ H Q ⟨ρ,S,τ,R,r,h⟩=>h ρ H _ .refl R<|.int i
def XU{j pos}:AE X (.Constant (.bool i) j pos) (eC<|.bl i):=PE.imp ab1 λσ H Q ⟨ρ,S,τ,R,r,h⟩=>h ρ H _ .refl R<|.bl i
def PR{j pos}:AE X (.Constant .none j pos) (eC .non):=PE.imp aab λσ H Q ⟨ρ,S,τ,R,r,h⟩=>h ρ H _ .refl R .non
def BS{x:Str}{i:Int}{t:Tok}(hm:X.mg x=some (.int i t))(hg:Gl X x<|>ι)(hd:(x == ("__debug__" : Str))=false<|>θ):AE X (.Name x pos) (eC<|.int i):=
 PE.imp (L1 (v:=.int i) hg hm ⟨t,rfl⟩ hd) λσ H Q ⟨ρ,S,τ,R,r,h⟩=>h ρ H _ .refl R<|.int i
abbrev j7 (f:A->A->jV->R A)(ca cb:Ex):Ex:=λτ S=>(ca τ S).bind λa S1=>(cb τ S1).bind λb S2=>f a b S2
abbrev r2 (X:Cx)(f:A->A->jV->R A):R2:=λx y H Q=>∃ρ S a b,Rel X.K ρ H S/\AV X.K ρ H a x/\AV X.K ρ H b y/\(f a b S).post (CG X ρ H Q) (XE X ρ H)
abbrev r1 (X:Cx)(f:A->jV->R A):V->Hp->VK->Prop:=λx H Q=>∃ρ S a,Rel X.K ρ H S/\AV X.K ρ H a x/\(f a S).post (CG X ρ H Q) (XE X ρ H)
abbrev rN (X:Cx)(f:ae->jV->R A):List V->Hp->VK->Prop:=λxs H Q=>∃ρ S as,Rel X.K ρ H S/\AVs X.K ρ H as xs/\(f as S).post (CG X ρ H Q) (XE X ρ H)
def pH.imp{f:af->af->Sem af}{r r':R2}(h:pH X f r)(i:∀x y H Q,r' x y H Q->r x y H Q):pH X f r':=λpins s σ H x y v u Q I rx ry q=>h pins s σ H x y v u Q I rx ry<|i _ _ _ _ q
def kO.imp{f:af}{r r':List V->Hp->VK->Prop}(h:kO X f r)(i:∀x H Q,r' x H Q->r x H Q):kO X f r':=λpins s σ H x v Q I rx q=>h pins s σ H x v Q I rx<|i _ _ _ q
def uI{f:A->A->jV->R A}{ca cb:Ex}{H:Hp}{Q:VK}(h:tE X (j7 f ca cb) σ H Q):tOp (r2 X f) (tE X ca) (tE X cb) σ H Q:=by
 obtain⟨ρ,S,τ,R,r,h⟩:=h;refine⟨ρ,S,τ,R,r,jX (j4 h) .refl λa S1 h1 ρ1 H1 x e1 R1 v1=>⟨ρ1,S1,τ,R1,r.ext e1,jX (j4 h1) e1 λb S2 h2 ρ2 H2 y e2 R2 v2=>?_⟩⟩;exact⟨ρ2,S2,a,b,R2,v1.ext e2,v2,jX h2 (e1.trans e2) λc S3 h3=>h3.ext<|e1.trans e2⟩
def kj{f:A->A->jV->R A}{ca cb:Ex}(ho:pH X (binaryOp op)<|r2 X f)(ha:AE X a ca)(hb:AE X b cb):AE X (.BinOp a op b pos) (j7 f ca cb):=
 PE.imp (ab8 ho ha hb) λσ H Q h=>uI h
def IB{op:CmpOp}{f:A->A->jV->R A}{ca cb:Ex}(ho:pH X (compareOp op)<|r2 X f)(ha:AE X a ca)(hb:AE X b cb)(hm:behindInMarks op b=false:=by first|exact OU _|with_unfolding_all rfl):AE X (.Compare a [op] [b] pos) (j7 f ca cb):=
 PE.imp (U4 ho ha hb hm) λσ H Q h=>uI h
abbrev A.Xh:A->jV->bn
 | .non,_=>some false
 | .bl b,_=>some b
 | .int i,_=>some (i != 0)
 | .str x,_=>if x.length<=sizeLine then some ((x.length:Int) != 0)else none
 | .tup xs,_=>some (!xs.isEmpty)
 | .frz xs,_=>some (!xs.isEmpty)
 | .ref n,S=>(jU S n).map λxs=>!xs.isEmpty
 | _,_=>none
abbrev CN (c:Ex):Te:=λτ S=>(c τ S).bind λa S1=>opt (a.Xh S1) λb=>.ok b S1
abbrev vX (c:Ex):Te:=λτ S=>(c τ S).bind λa S1=>match a with
 | .bl b=>.ok b S1
 | _=>.no
def DO{K:au}{H:Hp}{b:Bool}{v:V}(h:AV K ρ H (.bl b) v):v=.bl b:=by cases h;rfl
def mE{op:CmpOp}{f:A->A->jV->R A}{ca cb:Ex}(ho:pH X (compareOp op)<|r2 X f)(ha:AE X a ca)(hb:AE X b cb)(hm:behindInMarks op b=false:=by first|exact OU _|with_unfolding_all rfl):AT X (.Compare a [op] [b] pos) (vX<|j7 f ca cb):=
 PT.imp (W9 ho ha hb hm) λσ H Q h9=>by
  z_go;refine uI ⟨ρ,S,τ,R,r,jX (j4 h) .refl λc S1 h1 ρ1 H1 x e1 R1 v1=>?_⟩
  cases c with
  | bl k=>cases DO v1;exact⟨k,rfl,h1 ρ1 H1 e1 R1⟩
  | _=>exact h1.elim
def aau{K:au}{H:Hp}{x:A}{v:V}{b:Bool}(R:Rel K ρ H S)(h:AV K ρ H x v)(e:x.Xh S=some b):aa4 K v H b:=by
 have c:∀{xs:ae} {d:List V},AVs K ρ H xs d->(!xs.isEmpty)=!d.isEmpty:=λr=>by cases r<;>rfl
 cases h with
 | non=>exact(aZ e).symm
 | bl b=>exact(aZ e).symm
 | int i=>exact(aZ e).symm
 | str x=>
  by_cases f:x.length<=sizeLine
  ·exact⟨f,by have:=(aM f).symm.trans e;exact(aZ this).symm⟩
  ·have:=(aJ f).symm.trans e;cases this
 | tup h r=>exact .inr (.inl ⟨_,oF.of h,by rw[<- c r];exact(aZ e).symm⟩)
 | frz h r=>exact .inl ⟨_,h.UK,by rw[<- c r];exact(aZ e).symm⟩
 | rng h=>cases e
 | ty n=>cases e
 | exn n h x=>cases e
 | ktu h r=>cases e
 | @ref a n h=>
  have e:(jU S n).map (λxs=>!xs.isEmpty)=some b:=e;obtain⟨xs,hn,e⟩:=bg.mp e;obtain⟨d,h1,h2⟩:=R.lst h<|kg hn;exact .inl ⟨d,qj.of h1,by rw[<- c h2];exact e.symm⟩
def xO{ca:Ex}(ha:AE X a ca)(he:(∀whole,isTrue a X.env whole=(do let v <- whole;standAt a.pos;holding [v] (truthy v)))<|>ν):AT X a (CN ca):=
 PT.imp (Qj ha he) λσ H Q ⟨ρ,S,τ,R,r,h⟩=>⟨ρ,S,τ,R,r,jX (j4 h) .refl λc S1 h1 ρ1 H1 x e1 R1 v1=>by
  obtain⟨b,d,h1⟩:=j5 h1;exact⟨b,aau R1 v1 d,h1 ρ1 H1 e1 R1⟩⟩
abbrev V4 (c:Te):Te:=λτ S=>(c τ S).bind λb S1=>.ok (!b) S1
abbrev OJ (c d:Te):Te:=λτ S=>(c τ S).bind λb S1=>match b with|true=>d τ S1|false=>.ok false S1
abbrev bOr (c d:Te):Te:=λτ S=>(c τ S).bind λb S1=>match b with|true=>.ok true S1|false=>d τ S1
def Q0{c:Te}(h:AT X a c):AT X (.UnaryOp .Not a pos) (V4 c):=PT.imp (YG h) λσ H Q ⟨ρ,S,τ,R,r,h⟩=>⟨ρ,S,τ,R,r,jX (j4 h) .refl λb S1 h1=>h1⟩
def and_imp{c d:Te}{H:Hp}{Q:Bool->Hp->Prop}(h:tT X (OJ c d) σ H Q):abq (tT X c) (tT X d) σ H Q:=by
 obtain⟨ρ,S,τ,R,r,h⟩:=h;refine⟨ρ,S,τ,R,r,jX (j4 h) .refl λb S1 h1 ρ1 H1 e1 R1=>?_⟩
 cases b with
 | true=>
  rw[aM rfl];exact⟨ρ1,S1,τ,R1,r.ext e1,jX h1 e1 λ_ _ z=>z.ext e1⟩
 | false=>
  rw[aJ bR];exact h1 ρ1 H1 e1 R1
variable {rest:List aE}
def KW{c:Te}(h:AT X a c):AW X (.BoolOp .And [a] pos) c:=UN h
def Pg{c d:Te}(h:AT X a c)(h2:AW X (.BoolOp .And (b::rest) pos) d):AW X (.BoolOp .And (a::b::rest) pos) (OJ c d):=PW.imp (aa2 h h2) λ_ _ _ q=>and_imp q
abbrev Ql (c d:Ex):Ex:=λτ S=>(c τ S).bind λa S1=>match a with | .bl true=>d τ S1 | .bl false=>.ok (.bl false) S1|_=>.no
abbrev eOr (c d:Ex):Ex:=λτ S=>(c τ S).bind λa S1=>match a with | .bl true=>.ok (.bl true) S1 | .bl false=>d τ S1|_=>.no
abbrev aan (c:Ex):Ex:=λτ S=>(c τ S).bind λa S1=>match a with | .bl b=>.ok (.bl !b) S1|_=>.no
def PM{op}{c:Ex}(h:AE X a c):AE X (.BoolOp op [a] pos) c:=aaM h
def OA{c d:Ex}(h:AE X a c)(h2:AE X (.BoolOp .And (b::rest) pos) d):AE X (.BoolOp .And (a::b::rest) pos) (Ql c d):=PE.imp (ZY h h2) λσ H Q h9=>by
 z_go;refine⟨ρ,S,τ,R,r,jX (j4 h) .refl λb S1 h1 ρ1 H1 x e1 R1 v1=>?_⟩
 cases b with
 | bl k=>
  cases DO v1
  refine⟨k,rfl,?_⟩
  cases k with
  | true=>
   rw[aM rfl];exact⟨ρ1,S1,τ,R1,r.ext e1,jX h1 e1 λ_ _ z=>z.ext e1⟩
  | false=>
   rw[aJ bR];exact h1 ρ1 H1 _ e1 R1<|.bl false
 | _=>exact h1.elim
def YE{c:Ex}(h:AE X a c):AE X (.UnaryOp .Not a pos) (aan c):=PE.imp (YN h) λσ H Q h9=>by
 z_go;refine⟨ρ,S,τ,R,r,jX (j4 h) .refl λb S1 h1 ρ1 H1 x e1 R1 v1=>?_⟩
 cases b with
 | bl k=>
  cases DO v1
  exact⟨k,rfl,h1 ρ1 H1 _ e1 R1<|.bl _⟩
 | _=>exact h1.elim
abbrev eIf (t:Te)(c d:Ex):Ex:=λτ S=>(t τ S).bind λb S1=>match b with|true=>c τ S1|false=>d τ S1
abbrev j6:tH:=λ_ S=>.ok [] S
abbrev jR (c:Ex)(d:tH):tH:=λτ S=>(c τ S).bind λa S1=>(d τ S1).bind λas S2=>.ok (a::as) S2
def jZ:AL X [] j6:=PA.imp xN λσ H Q ⟨ρ,S,τ,R,r,h⟩=>h ρ H _ .refl R .nil
def jT{e:aE}{c:Ex}{d:tH}(ha:AE X e c)(hr:AL X es d)(hs:starEach (e::es) X.env=(false,eval e X.env)::starEach es X.env<|>ι):AL X (e::es) (jR c d):=
 PA.imp (qk ha hr hs) λσ H Q h9=>by
  z_go;refine⟨ρ,S,τ,R,r,jX (j4 h) .refl λa S1 h1 ρ1 H1 x e1 R1 v1=>⟨ρ1,S1,τ,R1,r.ext e1,jX (j4 h1) e1 λas S2 h2 ρ2 H2 xs e2 R2 v2=>?_⟩⟩;exact h2 ρ2 H2 _ (e1.trans e2) R2<|.cons (v1.ext e2) v2
abbrev qM (d:tH):Ex:=λτ S=>(d τ S).bind λas S1=>gd (as.length<=sizeLine)<|.ok (.tup as) S1
abbrev newL (as:ae)(S:jV):R A:=gd (as.length<=sizeLine)<|.ok (.ref S.length)<|S++[.lst as]
abbrev qN (d:tH):Ex:=λτ S=>(d τ S).bind λas S1=>newL as S1
def uH{H H0:Hp}{Q:VK}(R:Rel X.K ρ H S)(r:AVs X.K ρ H as vs)(e:Ext ρ0 ρ H0 H)(h:CG X ρ0 H0 Q (.tup as) S):∀p,H p=none->Q (.ref p) (upd H p<|.tup vs):=λp d=>by
 obtain⟨ex,c⟩:=R.im (u:=.tup vs) d;exact h ρ _ _ (e.trans ex) c<|.tup lE<|r.ext ex
def pV{H H0:Hp}{S:jV}{Q:VK}(R:Rel X.K ρ H S)(r:AVs X.K ρ H as vs)(e:Ext ρ0 ρ H0 H)(h:CG X ρ0 H0 Q (.ref S.length)<|S++[.lst as]):∀p,H p=none->Q (.ref p) (upd H p<|.lst vs):=λp d=>by
 obtain⟨ex,c,g⟩:=R.lay d r;exact h _ _ _ (e.trans ex) c<|.ref g
def VE{H H0:Hp}{vs:List V}{Q:VK}(R:Rel X.K ρ H S)(r:AVs X.K ρ H as vs)(e:Ext ρ0 ρ H0 H)(h:(newL as S).post (CG X ρ0 H0 Q)<|XE X ρ0 H0):vs.length<=sizeLine/\∀p,H p=none->Q (.ref p) (upd H p<|.lst vs):=by
 obtain⟨c,h⟩:=kF h;exact⟨by rw[<- r.length];exact c,pV R r e h⟩
def mY{d:tH}{x1}(h:AL X es d):AE X (.Tuple es x1 pos) (qM d):=PE.imp (aaJ h) λσ H Q h9=>by
 z_go;refine⟨ρ,S,τ,R,r,jX (j4 h) .refl λas S1 h1 ρ1 H1 xs e1 R1 v1=>?_⟩;obtain⟨c,h1⟩:=kF h1;exact⟨by rw[<- v1.length];exact c,uH R1 v1 e1 h1⟩
def mQ{d:tH}(h:AL X es d):AE X (.List es pos) (qN d):=PE.imp (Zx h) λσ H Q ⟨ρ,S,τ,R,r,h⟩=>
 ⟨ρ,S,τ,R,r,jX (j4 h) .refl λas S1 h1 ρ1 H1 xs e1 R1 v1=>VE R1 v1 e1 h1⟩
end
section
variable {X:Cx}{pos:Pos}{a b:aE}
abbrev aSub (a b:A)(S:jV):R A:=match a,b with
 | .int i,.int j=>.ok (.int<|i-j) S
 | _,_=>.no
def z0:pH X (binaryOp .Sub) (r2 X aSub):=pH.imp aaZ λx y H Q h9=>by
 x_go
 cases va<;>first|exact h.elim|(cases vb<;>first|exact h.elim|exact⟨_,_,rfl,rfl,h _ _ _ .refl R<|.int _⟩)
abbrev Ly (i j:Int):Bool:=(decide (-(2 ^ 64)<i) && decide (i<2 ^ 64)) || (decide (-(2 ^ 64)<j) && decide (j<2 ^ 64))
def mulOk_of{i j:Int}(h:Ly i j=true):VO i j:=by
 unfold Ly at h;dsimp[Bool.or_eq_true,fR,eN]at h;exact h
abbrev za (a b:A)(S:jV):R A:=match a,b with
 | .int i,.int j=>gd (Ly i j) (.ok (.int<|i * j) S)
 | .ref n,.int k=>opt (jU S n) λxs=>gd (-(2 ^ 63)<=k/\k<2 ^ 63/\xs.length * k.toNat<=sizeLine) (.ok (.ref S.length)<|S++[.lst (List.replicate k.toNat xs).flatten])
 | _,_=>.no
theorem AVs.rep{K:au}{H:Hp}(r:AVs K ρ H xs vs):∀k:Nat,AVs K ρ H (List.replicate k xs).flatten (List.replicate k vs).flatten
 | 0=>.nil
 | k+1=>by rw[dG,dG,eK,eK];exact r.append<|AVs.rep r k
def Cf:pH X (binaryOp .Mult) (r2 X za):=λpins s σ H x y v u Q I rx ry h9=>by
 x_go
 cases va with
 | int i=>
  cases vb with
  | int j=>
   obtain⟨c,h⟩:=kF h;exact aaX pins s σ H _ _ v u Q I rx ry ⟨i,j,rfl,rfl,mulOk_of c,h _ _ _ .refl R<|.int _⟩
  | _=>exact h.elim
 | @ref p n d=>
  cases vb with
  | int k=>
   kcj_m;obtain⟨hc,h⟩:=kF h;obtain⟨e,h1,h2⟩:=R.lst d<|kg hn;exact aaj pins s σ H _ _ v u Q I rx ry ⟨p,k,e,rfl,rfl,h1,hc.1,hc.2.1,by rw[<- h2.length];exact hc.2.2,pV R (h2.rep _) .refl h⟩
  | _=>exact h.elim
 | _=>exact h.elim
abbrev J1 (a b:A)(S:jV):R A:=match a,b with
 | .int i,.int j=>gd (0<j/\j<18446744073709551616) (.ok (.int<|i / j) S)
 | _,_=>.no
def SG:pH X (binaryOp .FloorDiv) (r2 X J1):=pH.imp Tq λx y H Q h9=>by
 x_go
 cases va<;>first|exact h.elim|(cases vb<;>first|exact h.elim|exact⟨_,_,rfl,rfl,(kF h).1,(kF h).2 _ _ _ .refl R<|.int _⟩)
abbrev Ah (a b:A)(S:jV):R A:=match a,b with
 | .int i,.int j=>gd (0<j) (.ok (.int<|i % j) S)
 | _,_=>.no
def DU:pH X (binaryOp .Mod) (r2 X Ah):=pH.imp ZJ λx y H Q h9=>by
 x_go
 cases va<;>first|exact h.elim|(cases vb<;>first|exact h.elim|exact⟨_,_,rfl,rfl,(kF h).1,(kF h).2 _ _ _ .refl R<|.int _⟩)
abbrev W0 (a b:A)(S:jV):R A:=match a,b with
 | .int i,.int j=>gd (0<=j/\j<=1000000/\i.natAbs<2 ^ 64) (.ok (.int<|i ^ j.toNat) S)
 | _,_=>.no
def ab_:pH X (binaryOp .Pow) (r2 X W0):=pH.imp ZK λx y H Q h9=>by
 x_go
 cases va<;>first|exact h.elim|(cases vb<;>first|exact h.elim|exact⟨_,_,rfl,rfl,(kF h).1,(kF h).2 _ _ _ .refl R<|.int _⟩)
abbrev mF (a b:A)(S:jV):R A:=match a,b with
 | .int i,.int j=>.ok (.int<|i+j) S
 | .tup xs,.tup ys=>gd (xs.length+ys.length<=sizeLine) (.ok (.tup<|xs++ys) S)
 | .str x,.str y=>gd (x.length+y.length<=sizeLine) (.ok (.str<|x++y) S)
 | .ref n,.ref m=>opt (jU S n) λxs=>opt (jU S m) λys=>gd (xs.length+ys.length<=sizeLine) (.ok (.ref S.length)<|S++[.lst<|xs++ys])
 | _,_=>.no
def AVs.nil_inv{K:au}{H:Hp}(r:AVs K ρ H xs vs):xs=[] ↔ vs=[]:=by cases r<;>simp
def mG:pH X (binaryOp .Add) (r2 X mF):=λpins s σ H x y v u Q I rx ry h9=>by
 x_go
 cases va with
 | int i=>
  cases vb with
  | int j=>exact aa1 pins s σ H _ _ v u Q I rx ry ⟨i,j,rfl,rfl,h _ _ _ .refl R<|.int _⟩
  | _=>exact h.elim
 | str x=>
  cases vb with
  | str y=>
   obtain⟨hc,h⟩:=kF h;exact Jj pins s σ H _ _ v u Q I rx ry ⟨x,y,rfl,rfl,hc,h _ _ _ .refl R<|.str _⟩
  | _=>exact h.elim
 | @tup p xs d h1 r1=>
  cases vb with
  | @tup q ys c h2 r2=>
   obtain⟨hc,h⟩:=kF h;by_cases hv:d=[]
   ·have F:=r1.nil_inv.mpr hv;subst hv F;exact RU pins s σ H _ _ v u Q I rx ry ⟨p,q,c,rfl,rfl,oF.of h1,oF.of h2,h _ _ _ .refl R<|.tup h2 r2⟩
   ·refine W3 pins s σ H _ _ v u Q I rx ry ⟨p,q,d,c,rfl,rfl,oF.of h1,oF.of h2,hv,by rw[<- r1.length,<- r2.length];exact hc,λe=>?_,λ_=>uH R (r1.append r2) .refl h⟩;have C:=r2.nil_inv.mpr e;subst C;rw[cZ]at h;exact h _ _ _ .refl R<|.tup h1 r1
  | _=>exact h.elim
 | @ref p n k=>
  cases vb with
  | @ref q m B=>
   kcj_m;obtain⟨ys,g,h⟩:=j5 h;obtain⟨hc,h⟩:=kF h;obtain⟨d,h1,h2⟩:=R.lst k<|kg hn;obtain⟨c,h3,f⟩:=R.lst B<|kg g;exact aaT pins s σ H _ _ v u Q I rx ry ⟨p,q,d,c,rfl,rfl,h1,h3,by rw[<- h2.length,<- f.length];exact hc,pV R (h2.append f) .refl h⟩
  | _=>exact h.elim
 | _=>exact h.elim
abbrev A.ints:ae->Option (ag)
 | []=>some []
 | .int i::xs=>(A.ints xs).map (i::·)
 | _=>none
def aaH{x:A}{bs:ag}(e:A.ints (x::xs)=some bs):∃b cs,x=.int b/\A.ints xs=some cs/\bs=b::cs:=by
 unfold A.ints at e;split at e
 ·rename_i z;cases z
 ·rename_i i ys z
  cases z
  obtain⟨cs,h1,h2⟩:=bg.mp e;exact⟨i,cs,rfl,h1,h2.symm⟩
 ·cases e
def wD{K:au}{H:Hp}:∀{xs:ae}{vs:List V}{bs:ag},AVs K ρ H xs vs->A.ints xs=some bs->vs=bs.map V.int:=by
 intro xs
 induction xs with
 | nil=>
  intro vs bs h e
  cases h
  cases e
  rfl
 | cons x xs c=>
  intro vs bs h e;obtain⟨b,d,rfl,e1,rfl⟩:=aaH e
  cases h with
  | cons h t=>
   cases h
   rw[c t e1];rfl
abbrev VB (a b:A)(S:jV):R A:=match a,b with
 | .int i,.int j=>.ok (.bl<|decide<|i<j) S
 | _,_=>.no
def UZ(hu:X.A.units+64<cLine):pH X (compareOp .Lt) (r2 X VB):=λpins s σ H x y v u Q I rx ry h9=>by
 x_go
 cases va with
 | int i=>
  cases vb with
  | int j=>exact acU pins s σ H _ _ v u Q I rx ry ⟨i,j,rfl,rfl,h _ _ _ .refl R<|.bl _⟩
  | _=>exact h.elim
 | _=>exact h.elim
abbrev Y0 (a b:A)(S:jV):R A:=match a,b with
 | .int i,.int j=>.ok (.bl<|decide<|i<=j) S
 | _,_=>.no
def U6:pH X (compareOp .LtE) (r2 X Y0):=pH.imp acp λx y H Q h9=>by
 x_go
 cases va<;>first|exact h.elim|(cases vb<;>first|exact h.elim|exact⟨_,_,rfl,rfl,h _ _ _ .refl R<|.bl _⟩)
abbrev WW (a b:A)(S:jV):R A:=match a,b with
 | .int i,.int j=>.ok (.bl<|decide<|j<i) S
 | _,_=>.no
def Nj(hu:X.A.units+64<cLine):pH X (compareOp .Gt) (r2 X WW):=λpins s σ H x y v u Q I rx ry h9=>by
 x_go
 cases va with
 | int i=>
  cases vb with
  | int j=>exact abD pins s σ H _ _ v u Q I rx ry ⟨i,j,rfl,rfl,h _ _ _ .refl R<|.bl _⟩
  | _=>exact h.elim
 | _=>exact h.elim
abbrev aGe (a b:A)(S:jV):R A:=match a,b with
 | .int i,.int j=>.ok (.bl<|decide<|j<=i) S
 | _,_=>.no
def aeF:pH X (compareOp .GtE) (r2 X aGe):=pH.imp abm λx y H Q h9=>by
 x_go
 cases va<;>first|exact h.elim|(cases vb<;>first|exact h.elim|exact⟨_,_,rfl,rfl,h _ _ _ .refl R<|.bl _⟩)
abbrev N3 (neg:Bool)(a b:A)(S:jV):R A:=match a,b with
 | .bl i,.bl j=>.ok (.bl<|if neg then i != j else i == j) S
 | .non,.non=>.ok (.bl<|!neg) S
 | .unb,.non=>.no
 | .exn _,.non=>.no
 | _,.non=>.ok (.bl neg) S
 | _,_=>.no
def ZT{n:Bool}{a b:A}(h1:b≠.non)(h2:∀j,b≠.bl j):N3 n a b S=.no:=by
 unfold N3;split<;>first|rfl|exact absurd rfl h1|exact absurd rfl<|h2 _
def aaS{n:Bool}{a b:A}{F:A->jV->Prop}{G:Str->jV->Prop}(h:(N3 n a b S).post F G)(h1:b≠.non)(h2:∀j,b≠.bl j):False:=by
 rw[ZT h1 h2]at h;exact h
def aea:pH X (compareOp .Is) (r2 X<|N3 false):=λpins s σ H x y v u Q I rx ry h9=>by
 x_go
 cases vb with
 | non=>
  refine aaw pins s σ H _ _ v u Q I rx ry ⟨rfl,?_⟩
  cases va<;>first|exact h _ _ _ .refl R (.bl _)|exact h.elim
 | bl j=>
  cases va with
  | bl i=>exact Zk pins s σ H _ _ v u Q I rx ry ⟨i,j,rfl,rfl,h _ _ _ .refl R<|.bl _⟩
  | _=>exact h.elim
 | _=>
  exact(aaS h (λz=>nomatch z) nofun).elim
abbrev N5 (f:A->jV->R A)(c:Ex):Ex:=λτ S=>(c τ S).bind λa S1=>f a S1
abbrev zq (a:A)(S:jV):R A:=match a with
 | .int i=>.ok (.int<|-i) S
 | _=>.no
def acC:UnR X (unaryOp .USub) (r1 X zq):=λpins s σ H x v Q I rx h9=>by
 obtain⟨ρ,S,a,R,va,h⟩:=h9
 cases va with
 | int i=>exact Zz pins s σ H _ v Q I rx ⟨i,rfl,h _ _ _ .refl R<|.int _⟩
 | _=>exact h.elim
def aaW{f:A->jV->R A}{c:Ex}{H:Hp}{Q:VK}(h:tE X (N5 f c) σ H Q):tUn (r1 X f) (tE X c) σ H Q:=by
 obtain⟨ρ,S,τ,R,r,h⟩:=h;exact⟨ρ,S,τ,R,r,jX (j4 h) .refl λa S1 h1 ρ1 H1 x e1 R1 v1=>⟨ρ1,S1,a,R1,v1,jX h1 e1 λc S3 h3=>h3.ext e1⟩⟩
def zB{c:Ex}(h:AE X a c):AE X (.UnaryOp .USub a pos) (N5 zq c):=PE.imp (acM acC h) λ_ _ _ q=>aaW q
abbrev tZ (a b:A)(S:jV):R A:=match a,b with
 | .tup xs,.int i=>opt (sO xs i) λx=>.ok x S
 | .frz xs,.int i=>opt (sO xs i) λx=>.ok x S
 | .ref n,.int i=>opt (jU S n) λxs=>opt (sO xs i) λx=>.ok x S
 | .str z,.int i=>gd (z.length<=sizeLine) (opt (sO z.cps.toList i) λc=>.ok (.str ⟨#[c]⟩) S)
 | _,_=>.no
def AVs.sO{K:au}{H:Hp}{i:Int}{x:A}(r:AVs K ρ H xs vs)(h:L2.sO xs i=some x):∃v,L2.sO vs i=some v/\AV K ρ H x v:=by
 unfold L2.sO at h ⊢;rw[<- r.length]
 cases c:CZ xs.length i with
 | none=>rw[c]at h;cases h
 | some j=>
  rw[c]at h;exact r.get h
def abO:UD X (r2 X tZ):=λvalue slice pins s σ H x y v u Q I rx ry ⟨ρ,S,a,b,R,va,vb,h⟩ hs=>by
 cases va with
 | @tup p xs d h1 r1=>
  cases vb with
  | int i=>
   obtain⟨x,f,h⟩:=j5 h;obtain⟨z,e,q⟩:=r1.sO f;exact YR value slice pins s σ H _ _ v u Q I rx ry ⟨p,d,i,z,rfl,rfl,oF.of h1,e,h _ _ _ .refl R q⟩ hs
  | _=>exact h.elim
 | @frz p xs d h1 r1=>
  cases vb with
  | int i=>
   obtain⟨x,f,h⟩:=j5 h;obtain⟨z,e,q⟩:=r1.sO f;exact Kq value slice pins s σ H _ _ v u Q I rx ry ⟨p,d,i,z,rfl,rfl,h1.UK,e,h _ _ _ .refl R q⟩ hs
  | _=>exact h.elim
 | @ref p n g=>
  cases vb with
  | int i=>
   kcj_m;obtain⟨x,f,h⟩:=j5 h;obtain⟨d,h1,r1⟩:=R.lst g<|kg hn;obtain⟨z,e,q⟩:=r1.sO f;exact Kq value slice pins s σ H _ _ v u Q I rx ry ⟨p,d,i,z,rfl,rfl,qj.of h1,e,h _ _ _ .refl R q⟩ hs
  | _=>exact h.elim
 | str z=>
  cases vb with
  | int i=>
   obtain⟨j,h⟩:=kF h;obtain⟨c,hc,h⟩:=j5 h;exact YM value slice pins s σ H _ _ v u Q I rx ry ⟨z,i,c,rfl,rfl,j,hc,h _ _ _ .refl R<|.str _⟩ hs
  | _=>exact h.elim
 | _=>exact h.elim
def lZ{ca cb:Ex}(ha:AE X a ca)(hb:AE X b cb)(hs:yF b<|>ο):AE X (.Subscript a b pos) (j7 tZ ca cb):=PE.imp (KL abO ha hb hs) λσ H Q h=>uI h
end
abbrev vI (f:A->A->bn):ae->ae->bn
 | [],[]=>some true
 | x::xs,y::ys=>(f x y).bind λp=>(vI f xs ys).map λq=>p && q
 | _,_=>some false
inductive Sh
 | non
 | bl (b:Bool)
 | int (i:Int)
 | str (x:Str)
 | tup (xs:ae)
 | lst
abbrev shA (S:jV):A->Option Sh
 | .non=>some .non
 | .bl b=>some (.bl b)
 | .int i=>some (.int i)
 | .str x=>some (.str x)
 | .tup xs=>some (.tup xs)
 | .ref i=>(jU S i).map λ_=>.lst
 | _=>none
abbrev VR (f:A->A->bn):Sh->Sh->bn
 | .non,.non=>some true
 | .bl x,.bl y=>some (x == y)
 | .bl x,.int y=>some ((if x then 1 else 0) == y)
 | .int x,.bl y=>some (x == (if y then 1 else 0))
 | .int x,.int y=>some (x == y)
 | .str x,.str y=>some (x == y)
 | .tup xs,.tup ys=>vI f xs ys
 | .lst,.lst=>none
 | _,_=>some false
abbrev xV (S:jV):Nat->A->A->bn
 | 0,_,_=>none
 | n+1,a,b=>match a,b with
  | .ref i,.ref j=>(jU S i).bind λxs=>(jU S j).bind λys=>vI (xV S n) xs ys
  | _,_=>(shA S a).bind λx=>(shA S b).bind λy=>VR (xV S n) x y
section
variable {X:Cx}{pins:bp}{σ:L2.St}{H:Hp}{s:aC}{ρ:bd}{S:jV}
inductive KdV (s:aC):Sh->af->Prop
 | non:KdV s .non .none
 | bl (b:Bool):KdV s (.bl b) (.bool b)
 | int (i:Int) (t:Tok):KdV s (.int i) (.int i t)
 | str (x:Str) (t:Tok):KdV s (.str x) (.str x t)
 | tup {p:ak} {us:bb} (xs:ae) (h:s.heap.IsTuple p us.toArray):KdV s (.tup xs) (.ref p)
 | lst {p:ak} {us:bb} (h:s.heap.IsList p us.toArray):KdV s .lst<|.ref p
def MI{p:ak}(h:s.heap.IsTuple p us)(h':s.heap.IsList p ws):False:=by
 obtain⟨o,e,c,_⟩:=h;obtain⟨o',d,f,_⟩:=h';rw[e]at d
 cases d
 exact absurd (c.symm.trans f) ⋯
def LX(I:Inv X pins σ H s)(R:Rel X.K ρ H S){a:A}{x:V}(ha:AV X.K ρ H a x)(r:RelV x u)(e:shA S a=some h):KdV s h u:=by
 cases ha with
 | non=>cases e;cases(show u=Value.none from r);exact .non
 | bl b=>cases e;cases(show u=Value.bool b from r);exact .bl b
 | int i=>cases e;obtain⟨t,rfl⟩:∃t,u=Value.int i t:=r;exact .int i t
 | str i=>cases e;obtain⟨t,rfl⟩:∃t,u=Value.str i t:=r;exact .str i t
 | tup h1 r1=>cases e;cases(show u=Value.ref _ from r);obtain⟨us,_,p,_⟩:=I.tuple<|oF.of h1;exact .tup _ p
 | ref h1=>
  obtain⟨xs,e1,rfl⟩:=bg.mp e
  cases(show u=Value.ref _ from r)
  obtain⟨c,h3,r1⟩:=R.lst h1<|kg e1;obtain⟨us,_,p,_⟩:=I.list<|qj.of h3;exact .lst p.isList
 | _=>cases e
abbrev Al (B:aA)(s:aC)(u v:af)(k:Bool):Prop:=SeqAt.RcAt B s u v k/\SeqAt.EqAt B s u v k/\SeqAt.RcNeAt B s u v (!k)
def acw{B:aA}(hu:B.units<cLine){f:A->A->bn}{v:af}{k:Bool}(d:KdV s h u)(d':KdV s h' v)(nt:∀xs ys,h=.tup xs->h'≠.tup ys)(e:VR f h h'=some k):Al B s u v k:=by
 cases d with
 | non=>cases d' with
  | non=>cases e;exact⟨.none_none,.same _,.none_none⟩
  | bl b=>cases e;exact⟨.none_bool _,.none_bool _,.none_bool _⟩
  | int i t=>cases e;exact⟨.none_int _ _,.none_int _ _,.none_int _ _⟩
  | str x t=>cases e;exact⟨.none_str _ _,.none_str _ _,.none_str _ _⟩
  | tup xs p=>cases e;exact⟨.none_tuple p hu,.none_tuple p hu,.none_tuple p hu⟩
  | lst p=>cases e;exact⟨.none_list p hu,.none_list p hu,.none_list p hu⟩
 | bl c=>cases d' with
  | non=>cases e;exact⟨.bool_none _,.bool_none _,.bool_none _⟩
  | bl b=>cases e;exact⟨.bool_bool _ _,.bool_bool _ _,.bool_bool _ _⟩
  | int i t=>cases e;exact⟨.bool_int _ _ _,.bool_int _ _ _,.bool_int _ _ _⟩
  | str x t=>cases e;exact⟨.bool_str _ _ _,.bool_str _ _ _,.bool_str _ _ _⟩
  | tup xs p=>cases e;exact⟨.bool_tuple _ p hu,.bool_tuple _ p hu,.bool_tuple _ p hu⟩
  | lst p=>cases e;exact⟨.bool_list _ p hu,.bool_list _ p hu,.bool_list _ p hu⟩
 | int c j=>cases d' with
  | non=>cases e;exact⟨.int_none _ _,.int_none _ _,.int_none _ _⟩
  | bl b=>cases e;exact⟨.int_bool _ _ _,.int_bool _ _ _,.int_bool _ _ _⟩
  | int i t=>cases e;exact⟨.int_int _ _ _ _,.int_int _ _ _ _,.int_int _ _ _ _⟩
  | str x t=>cases e;exact⟨.int_str _ _ _ _,.int_str _ _ _ _,.int_str _ _ _ _⟩
  | tup xs p=>cases e;exact⟨.int_tuple _ _ p hu,.int_tuple _ _ p hu,.int_tuple _ _ p hu⟩
  | lst p=>cases e;exact⟨.int_list _ _ p hu,.int_list _ _ p hu,.int_list _ _ p hu⟩
 | str c j=>cases d' with
  | non=>cases e;exact⟨.str_none _ _,.str_none _ _,.str_none _ _⟩
  | bl b=>cases e;exact⟨.str_bool _ _ _,.str_bool _ _ _,.str_bool _ _ _⟩
  | int i t=>cases e;exact⟨.str_int _ _ _ _,.str_int _ _ _ _,.str_int _ _ _ _⟩
  | str x t=>cases e;exact⟨.str_str _ _ _ _,.str_str _ _ _ _,.str_str _ _ _ _⟩
  | tup xs p=>cases e;exact⟨.str_tuple _ _ p hu,.str_tuple _ _ p hu,.str_tuple _ _ p hu⟩
  | lst p=>cases e;exact⟨.str_list _ _ p hu,.str_list _ _ p hu,.str_list _ _ p hu⟩
 | tup zs g=>cases d' with
  | non=>cases e;exact⟨.tuple_none g hu,.tuple_none g hu,.tuple_none g hu⟩
  | bl b=>cases e;exact⟨.tuple_bool _ g hu,.tuple_bool _ g hu,.tuple_bool _ g hu⟩
  | int i t=>cases e;exact⟨.tuple_int _ _ g hu,.tuple_int _ _ g hu,.tuple_int _ _ g hu⟩
  | str x t=>cases e;exact⟨.tuple_str _ _ g hu,.tuple_str _ _ g hu,.tuple_str _ _ g hu⟩
  | tup xs p=>exact absurd rfl (nt _ _ rfl)
  | lst p=>cases e;exact⟨.tuple_list g p hu,.of_refs (λz=>by subst z;exact MI g p)<|.tuple_list g p hu,.tuple_list g p hu⟩
 | lst g=>cases d' with
  | non=>cases e;exact⟨.list_none g hu,.list_none g hu,.list_none g hu⟩
  | bl b=>cases e;exact⟨.list_bool _ g hu,.list_bool _ g hu,.list_bool _ g hu⟩
  | int i t=>cases e;exact⟨.list_int _ _ g hu,.list_int _ _ g hu,.list_int _ _ g hu⟩
  | str x t=>cases e;exact⟨.list_str _ _ g hu,.list_str _ _ g hu,.list_str _ _ g hu⟩
  | tup xs p=>cases e;exact⟨.list_tuple g p hu,.of_refs (λz=>by subst z;exact MI p g)<|.list_tuple g p hu,.list_tuple g p hu⟩
  | lst p=>cases e
def Ew{a:A}{x:V}(h:AV X.K ρ H a x)(e:shA S a=some (.tup xs)):a=.tup xs/\∃p vs,x=.ref p/\H p=some (.tup vs)/\AVs X.K ρ H xs vs:=by
 cases h with
 | tup h r=>cases e;exact⟨rfl,_,_,rfl,h,r⟩
 | ref h=>obtain⟨_,_,z⟩:=bg.mp e;cases z
 | _=>cases e
def Fc{i:Nat}{x:V}(h:AV X.K ρ H (.ref i) x):∃p,x=.ref p/\ρ[i]?=some p:=by
 cases h with
 | ref h=>exact⟨_,rfl,h⟩
def RH{a:A}(e:shA S a=some .lst):∃i,a=.ref i:=by
 cases a with
 | ref i=>exact⟨i,rfl⟩
 | _=>cases e
def Qw{n:Nat}{a:A}{k:Bool}(e:xV S (n+1) a b=some k):(∃i j xs ys,a=.ref i/\b=.ref j/\jU S i=some xs/\jU S j=some ys/\vI (xV S n) xs ys=some k)\/(∃h h',shA S a=some h/\shA S b=some h'/\VR (xV S n) h h'=some k/\(h=.lst->h'≠.lst)):=by
 unfold xV at e;split at e
 ·obtain⟨xs,e1,e⟩:=ck.mp e;obtain⟨ys,e2,e⟩:=ck.mp e;exact .inl ⟨_,_,xs,ys,rfl,rfl,e1,e2,e⟩
 ·rename_i c;obtain⟨h,e1,e⟩:=ck.mp e;obtain⟨h',e2,e⟩:=ck.mp e;refine .inr ⟨h,h',e1,e2,e,λf d=>?_⟩;subst f d;obtain⟨i,rfl⟩:=RH e1;obtain⟨j,rfl⟩:=RH e2;exact c i j rfl rfl
def Wo{f:A->A->bn}{k:Bool}(d:KdV s h u)(d':KdV s h' u)(nt:∀xs ys,h=.tup xs->h'≠.tup ys)(e:VR f h h'=some k):k=true:=by
 cases d with
 | non=>cases d';exact(aZ e).symm
 | bl b=>cases d';exact(aZ e).symm.trans (bS b)
 | int b=>cases d';exact(aZ e).symm.trans (bS b)
 | str b=>cases d';exact(aZ e).symm.trans (bS b)
 | tup xs p=>cases d' with
  | tup=>exact absurd rfl (nt _ _ rfl)
  | lst q=>exact(MI p q).elim
 | lst p=>cases d' with
  | tup _ q=>exact(MI q p).elim
  | lst q=>cases e
def HB{f:A->A->bn}(hf:∀a b x u k,AV X.K ρ H a x->AV X.K ρ H b x->RelV x u->f a b=some k->k=true):∀{xs ys:ae}{vs:List V}{us:bb}{k:Bool},AVs X.K ρ H xs vs->AVs X.K ρ H ys vs->Vals vs us->vI f xs ys=some k->k=true:=by
 intro xs ys vs us k h1 h2 q e
 induction q generalizing xs ys k with
 | nil=>cases h1;cases h2;exact(aZ e).symm
 | cons g _ c=>
  cases h1 with
  | cons h t=>cases h2 with
   | cons h' d=>
    obtain⟨p,e1,e⟩:=ck.mp e;obtain⟨q,e2,e3⟩:=bg.mp e;rw[<- e3,hf _ _ _ _ p h h' g e1,c t d e2];rfl
def Lz(h h':Sh):(∃xs ys,h=.tup xs/\h'=.tup ys)\/(∀xs ys,h=.tup xs->h'≠.tup ys):=by
 cases h with
 | tup xs=>cases h' with
  | tup ys=>exact .inl ⟨xs,ys,rfl,rfl⟩
  | _=>exact .inr λ_ _ _ z=>nomatch z
 | _=>exact .inr λ_ _ z=>nomatch z
theorem FL(I:Inv X pins σ H s)(R:Rel X.K ρ H S):∀(n:Nat) (a b:A) (x:V) (u:af) (k:Bool),AV X.K ρ H a x->AV X.K ρ H b x->RelV x u->xV S n a b=some k->k=true
 | 0,_,_,_,_,_,_,_,_,e=>nomatch e
 | n+1,a,b,x,u,k,ha,hb,ru,e=>by
  rcases Qw e with⟨i,j,xs,ys,rfl,rfl,e1,e2,e⟩|⟨h,h',e1,e2,e,_⟩
  ·obtain⟨p,rfl,h1⟩:=Fc ha;obtain⟨q,z,h2⟩:=Fc hb
   cases z
   obtain⟨f,h3,r1⟩:=R.lst h1<|kg e1;obtain⟨d,c,r2⟩:=R.lst h2<|kg e2;rw[h3]at c
   cases c
   obtain⟨us,q,_⟩:=I.list<|qj.of h3;exact HB (λa b x u k=>FL I R n a b x u k) r1 r2 q e
  ·rcases Lz h h' with⟨xs,ys,rfl,rfl⟩|g
   ·obtain⟨rfl,p,f,rfl,h3,r1⟩:=Ew ha e1;obtain⟨rfl,q,d,z,c,r2⟩:=Ew hb e2
    cases z
    have:=I.zd (oF.of h3)<|oF.of c;subst this;obtain⟨us,q,_⟩:=I.tuple<|oF.of h3;exact HB (λa b x u k=>FL I R n a b x u k) r1 r2 q e
   ·exact Wo (LX I R ha ru e1) (LX I R hb ru e2) g e
abbrev CS (f:A->A->bn)(xs ys:ae)(j:Nat):Bool:=match xs[j]?,ys[j]? with
 | some x,some y=>(f x y).getD true
 | _,_=>true
theorem AX{f:A->A->bn}:∀{xs ys:ae}{k:Bool},vI f xs ys=some k->k=((List.range<|min xs.length ys.length).all (CS f xs ys) && xs.length == ys.length)/\∀j x y,xs[j]?=some x->ys[j]?=some y->f x y=some (CS f xs ys j)
 | [],[],k,e=>⟨(aZ e).symm,λj x y h=>by simp at h⟩
 | [],_::_,k,e=>⟨(aZ e).symm,λj x y h=>by simp at h⟩
 | _::_,[],k,e=>⟨(aZ e).symm,λj x y _ h=>by simp at h⟩
 | x::xs,y::ys,k,e=>by
  unfold vI at e
  cases e1:f x y with
  | none=>rw[e1]at e;cases e
  | some p=>
   rw[e1]at e;obtain⟨q,e2,e3⟩:=bg.mp e;obtain⟨h1,h2⟩:=AX e2;have g:CS f (x::xs) (y::ys) 0=p:=by simp[CS,e1]
   have ps:∀j,CS f (x::xs) (y::ys) (j+1)=CS f xs ys j:=λj=>by simp[CS]
   refine⟨?_,λj a b c d=>?_⟩
   ·rw[<- e3,h1,bu,bu,Nat.succ_min_succ,List.range_succ_eq_map,List.all_cons,all_map,g];have:(CS f (x::xs) (y::ys) ∘ Nat.succ)=CS f xs ys:=funext ps;rw[this,Bool.and_assoc];simp
   ·cases j with
    | zero=>
     simp at c d;subst c d;rw[g];exact e1
    | succ j=>rw[ps];exact h2 j a b (by simpa using c)<|by simpa using d
def A4{f:A->A->bn}{B:aA}(hf:∀a b x y u v k,AV X.K ρ H a x->AV X.K ρ H b y->RelV x u->RelV y v->f a b=some k->SeqAt.EqAt B s u v k){us ts:bb}{k:Bool}
  (r1:AVs X.K ρ H xs vs) (r2:AVs X.K ρ H ys ws) (q1:Vals vs us) (q2:Vals ws ts) (e:vI f xs ys=some k):∀j (h1:j<us.toArray.size) (h2:j<ts.toArray.size),SeqAt.EqAt B s us.toArray[j] ts.toArray[j] (CS f xs ys j):=by
 intro j h1 h2;have M:=r1.length;have N:=r2.length;have O:=q1.length;have L:=q2.length;have m:j<xs.length:=by simp at h1;lia
 have d:j<ys.length:=by simp at h2;lia
 have e1:xs[j]?=some xs[j]:=aH m;have e2:ys[j]?=some ys[j]:=aH d;obtain⟨x,ex,p⟩:=r1.get e1;obtain⟨y,g,c⟩:=r2.get e2;obtain⟨u,q,C⟩:=q1.get ex;obtain⟨t,G,rt⟩:=q2.get g;have J:us.toArray[j]=u:=by
  have:us[j]?=some us.toArray[j]:=by simp at h1;simp[h1]
  rw[q]at this;exact(aZ this).symm
 have F:ts.toArray[j]=t:=by
  have:ts[j]?=some ts.toArray[j]:=by simp at h2;simp[h2]
  rw[G]at this;exact(aZ this).symm
 rw[J,F];exact hf _ _ x y u t _ p c C rt<|(AX e).2 j _ _ e1 e2
def in1_units(B:aA):B.in1.units=B.units+1:=rfl
theorem MU(I:Inv X pins σ H s)(R:Rel X.K ρ H S):∀(n:Nat) (B:aA) (a b:A) (x y:V) (u v:af) (k:Bool),B.units+n<cLine->AV X.K ρ H a x->AV X.K ρ H b y->RelV x u->RelV y v->xV S n a b=some k->Al B s u v k
 | 0,_,_,_,_,_,_,_,_,_,_,_,_,_,e=>nomatch e
 | n+1,B,a,b,x,y,u,v,k,hu,ha,hb,rx,ry,e=>by
  have d:B.units<cLine:=()
  have c:∀a b x y u v k,AV X.K ρ H a x->AV X.K ρ H b y->RelV x u->RelV y v->xV S n a b=some k->SeqAt.EqAt B.in1 s u v k:=λa b x y u v k h1 h2 h3 L W=>(MU I R n B.in1 a b x y u v k (by rw[in1_units];lia) h1 h2 h3 L W).2.1;have same:=λ(z:y=x)=>FL I R (n+1) a b x u k ha (z ▸ hb) rx e;have g:∀{p q:ak},x=.ref p->y=.ref q->u=.ref p->v=.ref q->SeqAt.RcAt B s u v k->SeqAt.EqAt B s u v k:=λ{p q} f m z3 z4 h=>by
   subst z3 z4;by_cases N:p=q
   ·subst N;rw[same<|m.trans f.symm];exact .same _
   ·exact .of_refs N h
  rcases Qw e with⟨i,j,xs,ys,rfl,rfl,e1,e2,e⟩|⟨h,h',e1,e2,e,_⟩
  ·obtain⟨p,rfl,h1⟩:=Fc ha;obtain⟨q,rfl,h2⟩:=Fc hb;obtain⟨T,h3,r1⟩:=R.lst h1<|kg e1;obtain⟨P,L,r2⟩:=R.lst h2<|kg e2;obtain⟨us,F,p1,_⟩:=I.list<|qj.of h3;obtain⟨ts,C,p2,_⟩:=I.list<|qj.of L;have M:=g rfl rfl rx ry
   cases(show u=Value.ref p from rx)
   cases(show v=Value.ref q from ry)
   have U:=r1.length;have l2:=r2.length;have Z:=F.length;have l4:=C.length;have G:=(AX e).1;by_cases O:xs.length=ys.length
   ·rw[<- O,Nat.min_self,bS,Bool.and_true]at G;have J:us.toArray.size=ts.toArray.size:=by simp;lia
    have f:=SeqAt.RcAt.lists p1.isList p2.isList J d<|A4 c r1 r2 F C e;have m:=SeqAt.RcNeAt.lists p1.isList p2.isList J d<|A4 c r1 r2 F C e;rw[br,<- Z,<- U,<- G]at f m;exact⟨f,M f,m⟩
   ·have:(xs.length == ys.length)=false:=by simpa using O
    rw[this,jM]at G;subst G;have J:(us.toArray.size != ts.toArray.size)=true:=by simp;lia
    have f:=SeqAt.RcAt.lists_lengths p1.isList p2.isList J d;exact⟨f,M f,SeqAt.RcNeAt.lists_lengths p1.isList p2.isList J d⟩
  ·rcases Lz h h' with⟨xs,ys,rfl,rfl⟩|Y
   ·obtain⟨rfl,p,T,rfl,h3,r1⟩:=Ew ha e1;obtain⟨rfl,q,P,rfl,L,r2⟩:=Ew hb e2;have M:=g rfl rfl rx ry
    cases(show u=Value.ref p from rx)
    cases(show v=Value.ref q from ry)
    obtain⟨us,F,p1,_⟩:=I.tuple<|oF.of h3;obtain⟨ts,C,p2,_⟩:=I.tuple<|oF.of L;have G:=(AX e).1;have f:=SeqAt.RcAt.tuples p1 p2 d<|A4 c r1 r2 F C e;have m:=SeqAt.RcNeAt.tuples p1 p2 d<|A4 c r1 r2 F C e;rw[br,br,<- F.length,<- C.length,<- r1.length,<- r2.length,<- G]at f m;exact⟨f,M f,m⟩
   ·exact acw d (LX I R ha rx e1) (LX I R hb ry e2) Y e
end
section
variable {X:Cx}
abbrev yS (neg:Bool)(a b:A)(S:jV):R A:=opt (xV S 12 a b) λk=>.ok (.bl<|if neg then !k else k) S
def Wa(hu:X.A.units+64<cLine):pH X (compareOp .Eq) (r2 X<|yS false):=λpins s σ H x y v u Q I rx ry h9=>by
 x_go;obtain⟨k,e,h⟩:=j5 h;exact(MU I R 12 X.A a b x y v u k (by omega) va vb rx ry e).1 _ _ _ _ ⟨.bl _,H,I,rfl,h _ _ _ .refl R<|.bl _⟩
def P8(hu:X.A.units+64<cLine):pH X (compareOp .NotEq) (r2 X<|yS true):=λpins s σ H x y v u Q I rx ry h9=>by
 x_go;obtain⟨k,e,h⟩:=j5 h;exact(MU I R 12 X.A a b x y v u k (by omega) va vb rx ry e).2.2 _ _ _ _ ⟨.bl _,H,I,rfl,h _ _ _ .refl R<|.bl _⟩
end
section
variable {X:Cx}{pos:Pos}{a b:aE}
meta abbrev Pt:=ae->jV->R (bj)
abbrev LK:Pt:=λ_ S=>.ok none S
abbrev wY (c:Ex):Pt:=λτ S=>(c τ S).bind λa S1=>match a with
 | .int i=>.ok (some i) S1
 | _=>.no
abbrev tO (X:Cx)(c:Pt):TO:=λσ H Q=>∃ρ S τ,Rel X.K ρ H S/\SR X.K ρ H τ σ/\(c τ S).post (λo d=>∀ρ' H',Ext ρ ρ' H H'->Rel X.K ρ' H' d->Q o H') (XE X ρ H)
abbrev AO (X:Cx)(e:Option aE)(c:Pt):Prop:=PO X e<|tO X c
def Kg:AO X none LK:=λpins s σ H Q I ⟨ρ,S,τ,R,r,h⟩=>WX pins s σ H Q I<|h ρ H .refl R
def wL{c:Ex}(ha:AE X a c):AO X (some a) (wY c):=λpins s σ H Q I ⟨ρ,S,τ,R,r,h⟩=>Ww ha pins s σ H Q I ⟨ρ,S,τ,R,r,jX (j4 h) .refl λx S1 h1 ρ1 H1 v e1 R1 v1=>by
 cases v1<;>first|exact h1.elim|exact⟨_,rfl,h1 ρ1 H1 e1 R1⟩⟩
abbrev yU (xs:ae)(lo hi:bj):ae:=(xs.drop<|HT.oK xs.length 0 lo).take<|HT.oK xs.length xs.length hi-HT.oK xs.length 0 lo
def AVs.cut{K:au}{H:Hp}(r:AVs K ρ H xs vs)(lo hi:bj):AVs K ρ H (yU xs lo hi) (F7 vs lo hi):=by
 unfold yU F7;rw[r.length];exact(r.drop _).take _
abbrev Jt (a:A)(lo hi:bj)(S:jV):R A:=match a with
 | .ref n=>opt (jU S n) λxs=>.ok (.ref S.length) (S++[.lst<|yU xs lo hi])
 | .frz xs=>.ok (.ref S.length) (S++[.lst<|yU xs lo hi])
 | .tup xs=>gd (¬(HT.oK xs.length 0 lo=0/\HT.oK xs.length xs.length hi=xs.length)) (.ok (.tup<|yU xs lo hi) S)
 | _=>.no
abbrev Zg (c:Ex)(lo hi:Pt):Ex:=λτ S=>(c τ S).bind λa S1=>(lo τ S1).bind λl S2=>(hi τ S2).bind λu S3=>Jt a l u S3
abbrev rS (X:Cx):V->bj->bj->Hp->VK->Prop:=λx lo hi H Q=>∃ρ S a,Rel X.K ρ H S/\AV X.K ρ H a x/\(Jt a lo hi S).post (CG X ρ H Q) (XE X ρ H)
def Zt:SlR X (rS X):=λpins s σ H x v f e lo hi d Q I rx hs pl g h9=>by
 obtain⟨ρ,S,a,R,va,h⟩:=h9
 cases va with
 | @tup p xs c h1 r1=>
  obtain⟨hc,h⟩:=kF h;exact YO pins s σ H _ v f e lo hi d Q I rx hs pl g ⟨p,c,rfl,(oF.of h1),by rw[<- r1.length];exact hc,uH R (r1.cut lo hi) .refl h⟩
 | @frz p xs c h1 r1=>exact MB pins s σ H _ v f e lo hi d Q I rx hs pl g ⟨p,c,rfl,h1.UK,pV R (r1.cut lo hi) .refl h⟩
 | @ref p n j=>
  kcj_m;obtain⟨c,h1,r1⟩:=R.lst j<|kg hn;exact MB pins s σ H _ v f e lo hi d Q I rx hs pl g ⟨p,c,rfl,qj.of h1,pV R (r1.cut lo hi) .refl h⟩
 | _=>exact h.elim
def LO{e:aE}{lo:Option aE}{c:Ex}{cl ch:Pt}(he:AE X e c)(hl:AO X lo cl)(hh:AO X hi ch):AE X (.Subscript e (.Slice lo hi none p2) pos) (Zg c cl ch):=PE.imp (OW Zt he hl hh) λσ H Q h9=>by
 z_go;refine⟨ρ,S,τ,R,r,jX (j4 h) .refl λa S1 h1 ρ1 H1 x e1 R1 v1=>⟨ρ1,S1,τ,R1,r.ext e1,jX (j4 h1) e1 λl S2 h2 ρ2 H2 e2 R2=>⟨ρ2,S2,τ,R2,r.ext<|e1.trans e2,jX (j4 h2) (e1.trans e2) λu S3 h3 ρ3 H3 e3 R3=>?_⟩⟩⟩;exact⟨ρ3,S3,a,R3,v1.ext<|e2.trans e3,jX h3 (e1.trans<|e2.trans e3) λ_ _ z=>z.ext<|e1.trans<|e2.trans e3⟩
abbrev ach (a:A)(S:jV):R A:=match a with
 | .ref n=>opt (jU S n) λxs=>.ok (.ref S.length) (S++[.lst xs.reverse])
 | .tup xs=>.ok (.tup xs.reverse) S
 | _=>.no
abbrev kZ (f:ae->jV->R A)(d:tH):Ex:=λτ S=>(d τ S).bind λas S1=>f as S1
def HX{f:ae->jV->R A}{d:tH}{H:Hp}{Q:VK}(h:tE X (kZ f d) σ H Q):tCB (rN X f) (tL X d) σ H Q:=by
 obtain⟨ρ,S,τ,R,r,h⟩:=h;exact⟨ρ,S,τ,R,r,jX (j4 h) .refl λas S1 h1 ρ1 H1 c e1 R1 v1=>⟨ρ1,S1,as,R1,v1,jX h1 e1 λ_ _ z=>z.ext e1⟩⟩
variable {x:Str}{p:Pos}{e:aE}{es:List aE}{id T:String}{f:ae->jV->R A}{d:tH}
def kN(hc:kO X (.builtin id)<|rN X f)(hm:X.mg x=none)(hv:bootBuiltins x=some (.builtin id))(ha:AL X (e::es) d)(hg:Gl X x<|>ι)(hn:x ≠ "__name__"<|>θ)(hdb:(x == ("__debug__" : Str))=false<|>θ)
  (he:starEach (e::es) X.env=(false,eval e X.env)::starEach es X.env<|>ι) (hpl:((backTo pos<|starEach es X.env).any (·.1)=false)<|>ι):AE X (.Call (.Name x p) (e::es) [] pos) (kZ f d):=
 PE.imp (PD hc hg hm hv ha hn hdb he hpl) λ_ _ _ h=>HX h
def m5(hc:kO X (.type T)<|rN X f)(hm:X.mg x=none)(hv:bootBuiltins x=some (.type T))(ha:AL X (e::es) d)(hg:Gl X x<|>ι)(hn:x ≠ "__name__"<|>θ)(hdb:(x == ("__debug__" : Str))=false<|>θ)
  (he:starEach (e::es) X.env=(false,eval e X.env)::starEach es X.env<|>ι) (hpl:((backTo pos<|starEach es X.env).any (·.1)=false)<|>ι):AE X (.Call (.Name x p) (e::es) [] pos) (kZ f d):=
 PE.imp (zN hc hg hm hv ha hn hdb he hpl) λ_ _ _ h=>HX h
def Yv(hm:X.mg x=none)(hv:bootBuiltins x=some (.type T))(hg:Gl X x<|>ι)(hn:x ≠ "__name__"<|>θ)(hdb:(x == ("__debug__" : Str))=false<|>θ):AE X (.Name x pos) (eC<|.ty T):=
 PE.imp (V2 (v:=.ty T) hg hm hv rfl hn hdb) λσ H Q ⟨ρ,S,τ,R,r,h⟩=>h ρ H _ .refl R<|.ty T
abbrev A.seq (S:jV):A->Option (ae)
 | .tup xs=>some xs
 | .frz xs=>some xs
 | .ref n=>jU S n
 | _=>none
def Zb{K:au}{H:Hp}{x:A}{v:V}(R:Rel K ρ H S)(h:AV K ρ H x v)(e:x.seq S=some xs):∃p vs,v=.ref p/\(qj K H p vs\/oF K H p vs)/\AVs K ρ H xs vs:=by
 cases h with
 | tup h r=>cases aZ e;exact⟨_,_,rfl,.inr<|oF.of h,r⟩
 | frz h r=>cases aZ e;exact⟨_,_,rfl,.inl h.UK,r⟩
 | ref h=>
  obtain⟨vs,h1,r1⟩:=R.lst h<|kg e;exact⟨_,vs,rfl,.inl<|qj.of h1,r1⟩
 | _=>cases e
def WC{K:au}{H:Hp}{x:A}(h:AVs K ρ H [x] vs):∃v,vs=[v]/\AV K ρ H x v:=by
 cases h with
 | cons h t=>cases t;exact⟨_,rfl,h⟩
def VV{K:au}{H:Hp}{x:A}(h:AVs K ρ H [x,y] vs):∃v w,vs=[v,w]/\AV K ρ H x v/\AV K ρ H y w:=by
 cases h with
 | cons h t=>obtain⟨w,rfl,h'⟩:=WC t;exact⟨_,_,rfl,h,h'⟩
abbrev f1 (g:A->jV->R A):ae->jV->R A:=λas S=>match as with
 | [x]=>g x S
 | _=>.no
abbrev f2 (g:A->A->jV->R A):ae->jV->R A:=λas S=>match as with
 | [x,y]=>g x y S
 | _=>.no
def V6{g:A->jV->R A}{P:A->jV->Prop}{E:Str->jV->Prop}(h:(f1 g as S).post P E):∃x,as=[x]/\(g x S).post P E:=by
 match as,h with
 | [],h=>exact h.elim
 | [x],h=>exact⟨x,rfl,h⟩
 | _::_::_,h=>exact h.elim
def VY{g:A->A->jV->R A}{P:A->jV->Prop}{E:Str->jV->Prop}(h:(f2 g as S).post P E):∃x y,as=[x,y]/\(g x y S).post P E:=by
 match as,h with
 | [],h=>exact h.elim
 | [_],h=>exact h.elim
 | [x,y],h=>exact⟨x,y,rfl,h⟩
 | _::_::_::_,h=>exact h.elim
def VD{g:A->jV->R A}{H:Hp}{Q:VK}(h:rN X (f1 g) vs H Q):∃v,vs=[v]/\∃ρ S x,Rel X.K ρ H S/\AV X.K ρ H x v/\(g x S).post (CG X ρ H Q) (XE X ρ H):=by
 obtain⟨ρ,S,as,R,v,h⟩:=h;obtain⟨x,rfl,h⟩:=V6 h;obtain⟨w,rfl,hv⟩:=WC v;exact⟨w,rfl,ρ,S,x,R,hv,h⟩
def rn2{g:A->A->jV->R A}{H:Hp}{Q:VK}(h:rN X (f2 g) vs H Q):∃v w,vs=[v,w]/\∃ρ S x y,Rel X.K ρ H S/\AV X.K ρ H x v/\AV X.K ρ H y w/\(g x y S).post (CG X ρ H Q) (XE X ρ H):=by
 obtain⟨ρ,S,as,R,v,h⟩:=h;obtain⟨x,y,rfl,h⟩:=VY h;obtain⟨w,d,rfl,hv,c⟩:=VV v;exact⟨w,d,rfl,ρ,S,x,y,R,hv,c,h⟩
abbrev sR (x:A)(S:jV):R A:=match x with
 | .str x=>gd (x.length<=sizeLine) (.ok (.int x.length) S)
 | .tup xs=>.ok (.int xs.length) S
 | .frz xs=>.ok (.int xs.length) S
 | .ref n=>opt (jU S n) λxs=>.ok (.int xs.length) S
 | _=>.no
def qO:kO X (.builtin "len") (rN X<|f1 sR):=kO.imp Ui λe H Q h0=>by
 kcf_m;clear h0
 cases hv with
 | str z=>
  obtain⟨d,h⟩:=kF h;exact⟨_,_,rfl,⟨d,rfl⟩,h _ _ _ .refl R<|.int _⟩
 | @tup p xs us h1 r=>exact⟨_,us.length,rfl,.inr ⟨us,(oF.of h1),rfl⟩,by rw[<- r.length];exact h _ _ _ .refl R<|.int _⟩
 | @frz p xs us h1 r=>exact⟨_,us.length,rfl,.inl ⟨us,h1.UK,rfl⟩,by rw[<- r.length];exact h _ _ _ .refl R<|.int _⟩
 | ref c=>
  kcj_m;obtain⟨us,h1,r⟩:=R.lst c<|kg hn;exact⟨_,us.length,rfl,.inl ⟨us,qj.of h1,rfl⟩,by rw[<- r.length];exact h _ _ _ .refl R<|.int _⟩
 | _=>exact h.elim
abbrev aek (x:A)(S:jV):R A:=match x with
 | .int i=>.ok (.int<|if i<0 then -i else i) S
 | _=>.no
abbrev Sd (x y:A)(S:jV):R A:=match x,y with
 | .int i,.int j=>.ok (.int<|if j>i then j else i) S
 | _,_=>.no
def aaz(hc:X.calm=true):kO X (.builtin "max") (rN X<|f2 Sd):=kO.imp (NX hc) λe H Q h0=>by
 obtain⟨w,d,rfl,ρ,S,x,y,R,hv,c,h⟩:=rn2 h0;clear h0
 cases hv<;>first|exact h.elim|(cases c<;>first|exact h.elim|exact⟨_,_,rfl,h _ _ _ .refl R<|.int _⟩)
abbrev UA (x y:A)(S:jV):R A:=match x,y with
 | .int i,.int j=>.ok (.int<|if j<i then j else i) S
 | _,_=>.no
def aad(hc:X.calm=true):kO X (.builtin "min") (rN X<|f2 UA):=kO.imp (NH hc) λe H Q h0=>by
 obtain⟨w,d,rfl,ρ,S,x,y,R,hv,c,h⟩:=rn2 h0;clear h0
 cases hv<;>first|exact h.elim|(cases c<;>first|exact h.elim|exact⟨_,_,rfl,h _ _ _ .refl R<|.int _⟩)
abbrev F1 (x:A)(S:jV):R A:=match x with
 | .int i=>.ok (.int i) S
 | .bl k=>.ok (.int<|if k then 1 else 0) S
 | .str y=>opt (PySem.intText? y) λn=>gd (y.length<=640) (.ok (.int n) S)
 | _=>.no
def Uu:kO X (.type "int") (rN X<|f1 F1):=λpins s σ H xs us Q I c h0=>by
 kcf_m;clear h0
 cases hv with
 | int i=>exact DC pins s σ H _ us Q I c (.inl ⟨i,rfl,h _ _ _ .refl R<|.int _⟩)
 | bl k=>exact DC pins s σ H _ us Q I c (.inr ⟨k,rfl,h _ _ _ .refl R<|.int _⟩)
 | str y=>
  obtain⟨n,hn,h⟩:=j5 h;obtain⟨d,h⟩:=kF h;exact Nt pins s σ H _ us Q I c ⟨y,n,rfl,d,hn,h _ _ _ .refl R<|.int _⟩
 | _=>exact h.elim
abbrev Ez (x y:A)(S:jV):R A:=match x,y with
 | .int i,.int j=>.ok (.rng i j) S
 | _,_=>.no
def Rk:kO X (.type "range") (rN X<|f2 Ez):=kO.imp FU λg H Q h0=>by
 obtain⟨w,f,rfl,ρ,S,x,y,R,hv,c,h⟩:=rn2 h0;clear h0
 cases hv with
 | int i=>
  cases c with
  | int j=>
   refine⟨i,j,rfl,λp d=>?_⟩;obtain⟨ex,e⟩:=R.im (u:=.rng i j) d;exact h ρ _ _ ex e<|.rng lE
  | _=>exact h.elim
 | _=>exact h.elim
abbrev DB (i j:Int):Prop:=(-(2 ^ 62)<=i/\i<2 ^ 62/\-(2 ^ 62)<=j/\j<2 ^ 62)/\(j-i).toNat<=1000
instance (i j:Int):Decidable (DB i j):=by unfold DB;infer_instance
abbrev yO (x:A)(S:jV):R A:=match x with
 | .rng i j=>gd (DB i j) (.ok (.ref S.length)<|S++[.lst<|(lA i j).map .int])
 | .tup xs=>.ok (.ref S.length) (S++[.lst xs])
 | .frz xs=>.ok (.ref S.length) (S++[.lst xs])
 | .ref n=>opt (jU S n) λxs=>.ok (.ref S.length) (S++[.lst xs])
 | _=>.no
def E6(hc:X.calm=true):kO X (.type "list") (rN X<|f1 yO):=λpins s σ H c us Q I rx h0=>by
 kcf_m;clear h0
 cases hv with
 | @rng p i j e=>
  obtain⟨d,h⟩:=kF h;exact CP hc pins s σ H _ us Q I rx ⟨p,i,j,rfl,e,d.1,d.2,pV R (um _) .refl h⟩
 | @tup p xs c h1 r=>exact uz pins s σ H _ us Q I rx ⟨p,c,rfl,.inr<|oF.of h1,pV R r .refl h⟩
 | @frz p xs c h1 r=>exact uz pins s σ H _ us Q I rx ⟨p,c,rfl,.inl h1.UK,pV R r .refl h⟩
 | @ref p n e=>
  kcj_m;obtain⟨c,h1,r⟩:=R.lst e<|kg hn;exact uz pins s σ H _ us Q I rx ⟨p,c,rfl,.inl<|qj.of h1,pV R r .refl h⟩
 | _=>exact h.elim
abbrev xq (x:A)(S:jV):R A:=match x with
 | .rng i j=>gd (DB i j) (.ok (.tup<|(lA i j).map .int) S)
 | .tup xs=>.ok (.tup xs) S
 | .frz xs=>.ok (.tup xs) S
 | .ref n=>opt (jU S n) λxs=>.ok (.tup xs) S
 | _=>.no
def Fg(hc:X.calm=true):kO X (.type "tuple") (rN X<|f1 xq):=λpins s σ H c us Q I rx h0=>by
 kcf_m;clear h0
 cases hv with
 | @rng p i j e=>
  obtain⟨d,h⟩:=kF h;exact Cp hc pins s σ H _ us Q I rx ⟨p,i,j,rfl,e,d.1,d.2,uH R (um _) .refl h⟩
 | @tup p xs c h1 r=>exact tP pins s σ H _ us Q I rx ⟨p,c,rfl,.inr ⟨(oF.of h1),h _ _ _ .refl R<|.tup h1 r⟩⟩
 | @frz p xs c h1 r=>exact tP pins s σ H _ us Q I rx ⟨p,c,rfl,.inl ⟨h1.UK,uH R r .refl h⟩⟩
 | @ref p n e=>
  kcj_m;obtain⟨c,h1,r⟩:=R.lst e<|kg hn;exact tP pins s σ H _ us Q I rx ⟨p,c,rfl,.inl ⟨qj.of h1,uH R r .refl h⟩⟩
 | _=>exact h.elim
abbrev A.bls:ae->Option (List Bool)
 | []=>some []
 | .bl b::xs=>(A.bls xs).map (b::·)
 | _=>none
abbrev maxOf:ag->bj
 | []=>none
 | [x]=>some x
 | x::xs=>(maxOf xs).map λm=>if m>x then m else x
theorem CD:∀{ns:ag}{m:Int},maxOf ns=some m->m∈ns/\∀a∈ns,a<=m
 | [],_,e=>nomatch e
 | [x],m,e=>by cases e;exact⟨aK,λa h=>by rw[aS]at h;lia⟩
 | x::y::xs,m,e=>by
  obtain⟨d,e1,rfl⟩:=bg.mp<|show(maxOf (y::xs)).map (λm=>if m>x then m else x)=some m from e;obtain⟨h1,h2⟩:=CD e1;by_cases c:d>x
  ·rw[aM c];exact⟨aO _ h1,λa h=>(bB.mp h).elim (λz=>())<|h2 a⟩
  ·rw[aJ c];exact⟨aK,λa h=>(bB.mp h).elim (λz=>()) λz=>by have:=h2 a z;lia⟩
abbrev Qt (x:A)(S:jV):R A:=match x with
 | .ref n=>opt (jU S n) λxs=>opt (A.ints xs) λc=>opt (maxOf c) λm=>.ok (.int m) S
 | _=>.no
def Za(hc:X.calm=true):kO X (.builtin "max") (rN X<|f1 Qt):=kO.imp (Nc hc) λg H Q h0=>by
 kcf_m;clear h0
 cases hv with
 | @ref p n f=>
  kcj_m;obtain⟨q,j,h⟩:=j5 h;obtain⟨m,d,h⟩:=j5 h;obtain⟨g,h1,r⟩:=R.lst f<|kg hn;rw[wD r j]at h1;obtain⟨c,e⟩:=CD d;refine⟨p,q,rfl,qj.of h1,List.length_pos_of_mem c,λM k B=>?_⟩;have:M=m:=ja (e M k)<|B m c;rw[this];exact h _ _ _ .refl R<|.int _
 | _=>exact h.elim
abbrev insI (x:Int):ag->ag
 | []=>[x]
 | y::ys=>if x<=y then x::y::ys else y::insI x ys
abbrev sortI:ag->ag
 | []=>[]
 | x::xs=>insI x<|sortI xs
theorem insI_perm(x:Int):∀ys:ag,(insI x ys).Perm (x::ys)
 | []=>ff _
 | y::ys=>by
  unfold insI;by_cases h:x<=y
  ·rw[aM h]
  ·rw[aJ h];exact((insI_perm x ys).cons y).trans (List.Perm.swap x y ys)
theorem sortI_perm:∀xs:ag,(sortI xs).Perm xs
 | []=>ff _
 | x::xs=>(insI_perm x<|sortI xs).trans<|(sortI_perm xs).cons x
theorem MR(x:Int):∀ys:ag,ys.Pairwise (·<=·)->(insI x ys).Pairwise (·<=·)
 | [],_=>cg _ _
 | y::ys,h=>by
  unfold insI;obtain⟨h1,h2⟩:=bV.mp h;by_cases d:x<=y
  ·rw[aM d];exact bV.mpr ⟨λz c=>(bB.mp c).elim (λe=>e ▸ d) λc=>Int.le_trans d<|h1 z c,h⟩
  ·rw[aJ d];refine bV.mpr ⟨λz c=>?_,MR x ys h2⟩
   rcases bB.mp ((insI_perm x ys).mem_iff.mp c)with e|c
   ·subst e;lia
   ·exact h1 z c
theorem Bf:∀xs:ag,(sortI xs).Pairwise (·<=·)
 | []=>List.Pairwise.nil
 | x::xs=>MR x _<|Bf xs
abbrev A.kd:A->jV->Option Kd
 | .non,_=>some .non
 | .bl _,_=>some .bl
 | .int _,_=>some .int
 | .str _,_=>some .str
 | .tup _,_=>some .tup
 | .ref n,S=>(jU S n).map λ_=>.lst
 | _,_=>none
def WA{K:au}(k:Kd):PySem.W.kitOne K k.ty (.type "str")=some (decide<|k=.str):=by cases k<;>rfl
abbrev Ob (k:Kd)(c:String):bn:=if c = "int" then some (decide<|k=.int\/k=.bl)else if c = "bool" then some (decide<|k=.bl)else if c = "tuple" then some (decide<|k=.tup)else if c = "list" then some (decide<|k=.lst)else if c = "str" then some (decide<|k=.str)else none
def Ku{K:au}{k:Kd}{c:String}{b:Bool}(h:Ob k c=some b):PySem.W.kitOne K k.ty (.type c)=some b:=by
 unfold Ob at h;split at h
 ·rename_i e;subst e;rw[<- h];exact Wb k
 ·split at h
  ·rename_i e;subst e;rw[<- h];exact RZ k
  ·split at h
   ·rename_i e;subst e;rw[<- h];exact kit_tuple k
   ·split at h
    ·rename_i e;subst e;rw[<- h];exact Rm k
    ·split at h
     ·rename_i e;subst e;rw[<- h];exact WA k
     ·cases h
abbrev W4 (x y:A)(S:jV):R A:=match y with
 | .ty c=>opt (x.kd S) λk=>opt (Ob k c) λb=>.ok (.bl b) S
 | _=>.no
def abo{K:au}{H:Hp}{x:A}{v:V}{k:Kd}(R:Rel K ρ H S)(h:AV K ρ H x v)(e:x.kd S=some k):(∃p vs,v=.ref p/\oF K H p vs/\k=.tup)\/ZI H v k:=by
 cases h with
 | non=>cases e;exact .inr rfl
 | bl b=>cases e;exact .inr ⟨b,rfl⟩
 | int i=>cases e;exact .inr ⟨i,rfl⟩
 | str i=>cases e;exact .inr ⟨i,rfl⟩
 | tup h r=>cases e;exact .inl ⟨_,_,rfl,(oF.of h),rfl⟩
 | ref h=>
  obtain⟨xs,e1,e2⟩:=bg.mp e;obtain⟨vs,h1,_⟩:=R.lst h (kg e1)
  cases e2
  exact .inr ⟨_,vs,rfl,h1⟩
 | _=>cases e
def Yo:kO X (.builtin "isinstance") (rN X<|f2 W4):=λpins s σ H m us Q I rx h0=>by
 obtain⟨w,F,rfl,ρ,S,x,y,R,hv,e,h⟩:=rn2 h0;clear h0
 cases e with
 | ty c=>
  obtain⟨k,j,h⟩:=j5 h;obtain⟨b,f,d⟩:=j5 h;have d:CG X ρ H Q (.bl b) S:=d;clear h
  rcases abo R hv j with⟨p,m,rfl,C,rfl⟩|B
  ·obtain⟨G,K,rfl,r1,r2⟩:=vals2 rx;obtain⟨g,q,⟨o,h1,h2,_⟩,_⟩:=I.tuple C
   cases(show _=Value.ref p from r1)
   cases(show _=Value.type c from r2)
   exact dh PySem.W.kitx_tuple I.FZ ⟨o,h1,h2⟩ (Ku f) (λz=>nomatch z) λJ=>⟨.bl b,H,I.tok _,rfl,d _ _ _ .refl R<|.bl _⟩
  ·exact Gj (c:=c) pins s σ H _ us Q I rx ⟨w,_,b,rfl,B.adV,Ku f,d _ _ _ .refl R<|.bl _⟩
 | _=>exact h.elim
end
abbrev FG (x:ag):List (ag)->List (ag)
 | []=>[x]
 | y::ys=>if HT.lexLt y x=true then y::FG x ys else x::y::ys
abbrev m7:List (ag)->List (ag)
 | []=>[]
 | x::xs=>FG x<|m7 xs
abbrev E3 (a b:ag):Prop:=HT.lexLt b a=false
def E3.trans{a c:ag}(h1:E3 a b)(h2:E3 b c):E3 a c:=by
 unfold E3 at *
 cases e:HT.lexLt c a with
 | false=>rfl
 | true=>
  rcases Sx.MW (b:=b) e with z|z
  ·rw[h2]at z;cases z
  ·rw[h1]at z;cases z
theorem zo(x:ag):∀ys:List<|ag,(FG x ys).Perm (x::ys)
 | []=>ff _
 | y::ys=>by
  unfold FG;by_cases h:HT.lexLt y x=true
  ·rw[aM h];exact((zo x ys).cons y).trans (List.Perm.swap x y ys)
  ·rw[aJ h]
theorem kP:∀xs:List<|ag,(m7 xs).Perm xs
 | []=>ff _
 | x::xs=>(zo x<|m7 xs).trans<|(kP xs).cons x
theorem LF(x:ag):∀ys:List<|ag,ys.Pairwise E3->(FG x ys).Pairwise E3
 | [],_=>cg _ _
 | y::ys,h=>by
  unfold FG;obtain⟨h1,h2⟩:=bV.mp h;by_cases f:HT.lexLt y x=true
  ·rw[aM f];refine bV.mpr ⟨λz c=>?_,LF x ys h2⟩
   rcases bB.mp ((zo x ys).mem_iff.mp c)with e|c
   ·subst e;unfold E3
    cases e:HT.lexLt z y with
    | false=>rfl
    | true=>have:=Sx.Ek f e;rw[Sx.AH]at this;cases this
   ·exact h1 z c
  ·rw[aJ f];have d:E3 x y:=by unfold E3;simpa using f
   exact bV.mpr ⟨λz c=>(bB.mp c).elim (λe=>e ▸ d) λc=>d.trans<|h1 z c,h⟩
theorem vt:∀xs:List<|ag,(m7 xs).Pairwise E3
 | []=>List.Pairwise.nil
 | x::xs=>LF x _<|vt xs
def IU{xs:List<|ag}(p:xs.Perm ys)(h:xs.Pairwise E3):xs=m7 ys:=
 eB (λa b _ _ h1 h2=>(Sx.yD h1 h2).symm) h (vt ys) (p.trans (kP ys).symm)
theorem pig:∀(N:Nat) (l:ar),l.Nodup->(∀x∈l,x<N)->l.length<=N
 | 0,l,_,h=>by
  cases l with
  | nil=>exact aP _
  | cons a l=>exact absurd (h a<|aK ..)<|eS _
 | N+1,l,nd,h=>by
  have h1:=pig N (l.erase N) (nd.erase N) λx c=>by
   have:=h x<|List.mem_of_mem_erase c;have:x≠N:=λz=>by
    subst z;exact(List.Nodup.not_mem_erase nd) c
   lia
  have:=List.le_length_erase (l:=l) (a:=N)
  lia
def xG{N:Nat}{g:Nat->Nat}(h:∀i,i<N->g i<N)(inj:∀i j,i<j->j<N->g i≠g j):((List.range N).map g).Perm (List.range N):=by
 have nd:((List.range N).map g).Nodup:=by
  unfold List.Nodup;rw[dF];intro i j hi f d;rw[aI,cI]at hi f;rw[di,di,ef,ef];exact inj i j d f
 have lt:∀x∈(List.range N).map g,x<N:=λx c=>by
  obtain⟨i,hi,rfl⟩:=bI.mp c;exact h i<|dP.mp hi
 refine(jt nd List.nodup_range).mpr λa=>⟨λe=>dP.mpr<|lt a e,λe=>?_⟩;refine Classical.byContradiction λhn=>?_;have:=pig N (a::(List.range N).map g) (c5.mpr ⟨hn,nd⟩) λx c=>by
  rcases bB.mp c with rfl|c
  ·exact dP.mp e
  ·exact lt x c
 rw[bu,aI,cI]at this
 lia
def range_getD{α:Type}(l:List α)(d:α):(List.range l.length).map (λi=>l.getD i d)=l:=by
 apply cJ;intro i;rw[aX];by_cases c:i<l.length
 ·rw[dH c];show some (l.getD i d)=_;rw[aL,aH c];rfl
 ·rw[bQ<|by rw[cI];lia,bQ ()];rfl
def Zj{kss:List<|ag}{g:Nat->Nat}(c:Sx.Cl g 0 kss.length)(so:Sx.So (Sx.Tu kss) g 0 kss.length):(List.range kss.length).map (λi=>kss.getD (g i) [])=m7 kss:=by
 refine IU ?_ ?_
 ·have p:=xG (N:=kss.length) (g:=g) (λi hi=>(c i (bY _) hi).2) λi j d e z=>by
   have:=so i j (bY _) d e;rw[z]at this;exact this.PJ
  have:=p.map λi=>kss.getD i [];rw[bK,range_getD]at this;exact this
 ·rw[dF];intro i j hi e d;rw[aI,cI]at hi e;rw[di,di,ef,ef];exact(so i j (bY _) d e).ge
theorem Jz{K:au}{H:Hp}{α:Type}{f:α->A}{h:α->V}:∀{l:List α},(∀a∈l,AV K ρ H (f a)<|h a)->AVs K ρ H (l.map f) (l.map h)
 | [],_=>.nil
 | a::l,e=>.cons (e a<|aK ..)<|Jz λb c=>e b<|aO _ c
abbrev RS.post (r:RS)(N:ae->jV->Prop)(T:A->jV->Prop)(B C:ae->jV->Prop)(E:Str->jV->Prop):Prop:=match r with
 | .nx τ S=>N τ S
 | .rt a S=>T a S
 | .bk τ S=>B τ S
 | .ct τ S=>C τ S
 | .ex c S=>E c S
 | .no=>False
abbrev RS.of {α:Type}(r:R α)(f:α->jV->RS):RS:=match r with
 | .ok a S=>f a S
 | .ex c S=>.ex c S
 | .no=>.no
def of_post{α:Type}{r:R α}{f:α->jV->RS}{N B C:ae->jV->Prop}{T:A->jV->Prop}{E:Str->jV->Prop}(h:(RS.of r f).post N T B C E):r.post (λa S=>(f a S).post N T B C E) E:=by
 cases r<;>exact h
def RS.mono{r:RS}{N B C N' B' C':ae->jV->Prop}{T T':A->jV->Prop}{E E':Str->jV->Prop}(h:r.post N T B C E)(hn:∀τ S,N τ S->N' τ S)(ht:∀a S,T a S->T' a S)(hb:∀τ S,B τ S->B' τ S)(hc:∀τ S,C τ S->C' τ S)(he:∀c S,E c S->E' c S):r.post N' T' B' C' E':=by
 cases r with
 | nx τ S=>exact hn _ _ h
 | rt a S=>exact ht _ _ h
 | bk τ S=>exact hb _ _ h
 | ct τ S=>exact hc _ _ h
 | ex c S=>exact he _ _ h
 | no=>exact h.elim
abbrev KH (X:Cx)(ρ:bd)(H:Hp)(N:L2.St->Hp->Prop):ae->jV->Prop:=λd e=>∀ρ' H' c,Ext ρ ρ' H H'->Rel X.K ρ' H' e->SR X.K ρ' H' d c->N c H'
def KH.ext{X:Cx}{H H':Hp}{N:L2.St->Hp->Prop}(h:KH X ρ H N τ S)(e:Ext ρ ρ' H H'):KH X ρ' H' N τ S:=λρ2 H2 c e2=>h ρ2 H2 c<|e.trans e2
abbrev DY (X:Cx)(ρ:bd)(H:Hp)(D:Ends)(r:RS):Prop:=r.post (KH X ρ H D.nx) (CG X ρ H D.rt) (KH X ρ H D.bk) (KH X ρ H D.ct)<|XE X ρ H
def DY.ext{X:Cx}{H H':Hp}{D:Ends}{r:RS}(h:DY X ρ H D r)(e:Ext ρ ρ' H H'):DY X ρ' H' D r:=RS.mono h (λ_ _ z=>z.ext e) (λ_ _ z=>z.ext e) (λ_ _ z=>z.ext e) (λ_ _ z=>z.ext e) λ_ _ z=>z.ext e
abbrev tS (X:Cx)(c:Sm):TS:=λD σ H=>∃ρ S τ,Rel X.K ρ H S/\SR X.K ρ H τ σ/\DY X ρ H D (c τ S)
abbrev AS (X:Cx)(st:aF)(c:Sm):Prop:=PS X st<|tS X c
abbrev UR (X:Cx)(sts:List aF)(c:Sm):Prop:=EN X sts<|tS X c
abbrev tG (X:Cx)(g:Tg):TG:=λv σ H Q=>∃ρ S τ a,Rel X.K ρ H S/\SR X.K ρ H τ σ/\AV X.K ρ H a v/\(g a τ S).post (KH X ρ H Q) (XE X ρ H)
abbrev AG (X:Cx)(e:aE)(g:Tg):Prop:=PG X e<|tG X g
meta abbrev UC:=ae->ae->jV->R (ae)
abbrev tGs (X:Cx)(g:UC):Xq:=λc σ H Q=>∃ρ S τ as,Rel X.K ρ H S/\SR X.K ρ H τ σ/\AVs X.K ρ H as c/\(g as τ S).post (KH X ρ H Q) (XE X ρ H)
abbrev AGs (X:Cx)(es:List aE)(g:UC):Prop:=PGs X es<|tGs X g
section
variable {X:Cx}{pos:Pos}{a b e:aE}{st:aF}{rest:List aF}{c d:Sm}
def PS.imp{t t':TS}(h:PS X st t)(i:∀D σ H,t' D σ H->t D σ H):PS X st t':=λpins s σ H D I q=>h pins s σ H D I<|i D σ H q
def EN.imp{t t':TS}(h:EN X rest t)(i:∀D σ H,t' D σ H->t D σ H):EN X rest t':=λpins s σ H D I q=>h pins s σ H D I<|i D σ H q
def PG.imp{t t':TG}(h:PG X e t)(i:∀v σ H Q,t' v σ H Q->t v σ H Q):PG X e t':=λpins s σ H v u Q I r q=>h pins s σ H v u Q I r<|i _ _ _ _ q
abbrev kR (i:Nat):Tg:=λa τ S=>.ok (τ.set i a) S
def ki{i:Nat}{x:Str}(hN:X.N.Nodup)(hi:X.N[i]?=some x<|>ι)(hx:Loc X.env.scope x:=by first|exact Or.inl rfl|exact Or.inr rfl)(hf:X.fn x=true\/X.env.scope.names.lookup x=some .local<|>η):AG X (.Name x pos) (kR i):=
 PG.imp (Wf hN hi hx hf) λv σ H Q ⟨ρ,S,τ,a,R,r,va,h⟩=>h ρ H _ .refl R<|r.set va
abbrev Af:UC:=λas τ S=>match as with
 | []=>.ok τ S
 | _=>.no
abbrev qW (g:Tg)(gs:UC):UC:=λas τ S=>match as with
 | a::as=>(g a τ S).bind λc S1=>gs as c S1
 | []=>.no
def mS:AGs X [] Af:=λpins s σ H d us Q I r ⟨ρ,S,τ,as,R,c,va,h⟩=>UM pins s σ H d us Q I r (by
 cases va with
 | nil=>exact⟨rfl,h ρ H σ .refl R c⟩
 | cons _ _=>exact h.elim)
def ku{g:Tg}{gs:UC}(h1:AG X e g)(h2:AGs X es gs)(hs:(assignEach (e::es) X.env).map (·.2)=assign e X.env::(assignEach es X.env).map (·.2)<|>ι):AGs X (e::es) (qW g gs):=
 λpins s σ H p us Q I r ⟨ρ,S,τ,as,R,m,va,h⟩=>Ue h1 h2 hs pins s σ H p us Q I r (by
  cases va with
  | nil=>exact h.elim
  | cons k j=>exact⟨_,_,rfl,ρ,S,τ,_,R,m,k,jX (j4 h) .refl λc S1 h1 ρ1 H1 f e1 R1 d=>⟨ρ1,S1,c,_,R1,d,j.ext e1,jX h1 e1 λ_ _ z=>z.ext e1⟩⟩)
abbrev Ac (n:Nat)(gs:UC):Tg:=λa τ S=>match a with
 | .tup xs | .ktu xs=>gd (xs.length=n) (gs xs τ S)
 | _=>.no
def oh{k n:Nat}{gs:UC}(hc:X.calm=true)(h:AGs X es gs)(hn:(assignEach es X.env).length=n<|>ι)(hst:(assignEach es X.env).findIdx? (·.1)=none<|>ι):AG X (.Tuple es k pos) (Ac n gs):=
 PG.imp (YU hc h hn hst) λv σ H Q h9=>by
  obtain⟨ρ,S,τ,a,R,r,va,h⟩:=h9
  cases va with
  | tup h1 r1=>
   obtain⟨c,h⟩:=kF h;exact⟨_,_,rfl,oF.of h1,by rw[<- r1.length];exact c,ρ,S,τ,_,R,r,r1,h⟩
  | ktu h1 r1=>
   obtain⟨c,h⟩:=kF h;exact⟨_,_,rfl,.inr h1,by rw[<- r1.length];exact c,ρ,S,τ,_,R,r,r1,h⟩
  | _=>exact h.elim
abbrev G9 (o i v:A)(S:jV):R Unit:=match o,i with
 | .ref n,.int k=>opt (jU S n) λxs=>opt (CZ xs.length k) λj=>.ok Unit.unit (S.set n<|.lst<|xs.set j v)
 | _,_=>.no
abbrev rSt (X:Cx):Fo:=λo i v H Q=>∃ρ S e d c,Rel X.K ρ H S/\AV X.K ρ H e o/\AV X.K ρ H d i/\AV X.K ρ H c v/\(G9 e d c S).post (λ_ f=>∀ρ' H',Ext ρ ρ' H H'->Rel X.K ρ' H' f->Q H') (XE X ρ H)
def K5:EA X (rSt X):=λpins s σ H o i v ov iv u Q I m d B h9=>by
 obtain⟨ρ,S,G,F,C,R,h1,h2,h3,h⟩:=h9
 cases h1 with
 | @ref p n c=>
  cases h2 with
  | int k=>
   kcj_m;obtain⟨j,f,h⟩:=j5 h;obtain⟨g,e,r⟩:=R.lst c<|kg hn;obtain⟨ex,q⟩:=R.put c (kg hn)<|r.set h3 j;exact set_list pins s σ H _ _ v ov iv u Q I m d B ⟨p,g,k,j,rfl,rfl,e,by rw[<- r.length];exact f,h _ _ ex q⟩
  | _=>exact h.elim
 | _=>exact h.elim
abbrev Zf (co ci:Ex):Tg:=λa τ S=>(co τ S).bind λo S1=>(ci τ S1).bind λi S2=>(G9 o i a S2).bind λ_ S3=>.ok τ S3
def B3{co ci:Ex}(ho:AE X o co)(hi:AE X i ci)
  (ha:(∀v,assign (.Subscript o i pos) X.env v=(do
   let ov <- holding [v] (eval o X.env)
   let iv <- holding [v,ov] (eval i X.env)
   standAt pos
   holding [v,ov,iv] (setItem ov iv v)
   release [v,ov,iv] []))<|>ν):AG X (.Subscript o i pos) (Zf co ci):=PG.imp (EC ho hi K5 ha) λv σ H Q h9=>by
 obtain⟨ρ,S,τ,a,R,r,va,h⟩:=h9;refine⟨ρ,S,τ,R,r,jX (j4 h) .refl λo S1 h1 ρ1 H1 x e1 R1 v1=>⟨ρ1,S1,τ,R1,r.ext e1,jX (j4 h1) e1 λi S2 h2 ρ2 H2 y e2 R2 v2=>?_⟩⟩;refine⟨ρ2,S2,o,i,a,R2,v1.ext e2,v2,va.ext (e1.trans e2),jX (j4 h2) (e1.trans e2) λ_ S3 h3 ρ3 H3 e3 R3=>?_⟩;kpf_c
abbrev qU:Sm:=λτ S=>.nx τ S
abbrev kC (c d:Sm):Sm:=λτ S=>match c τ S with
 | .nx e f=>d e f
 | r=>r
def mK:UR X [] qU:=EN.imp Xd λD σ H ⟨ρ,S,τ,R,r,h⟩=>h ρ H σ .refl R r
def Wk{D:Ends}{H:Hp}(h:tS X (kC c d) D σ H):abg (tS X c) (tS X d) D σ H:=by
 obtain⟨ρ,S,τ,R,r,h⟩:=h;refine⟨ρ,S,τ,R,r,?_⟩;unfold kC at h
 cases hc:c τ S with
 | nx e S1=>
  rw[hc]at h;exact λρ1 H1 f e1 R1 r1=>⟨ρ1,S1,e,R1,r1,DY.ext h e1⟩
 | rt a S1=>rw[hc]at h;exact h
 | bk e S1=>rw[hc]at h;exact h
 | ct e S1=>rw[hc]at h;exact h
 | ex x S1=>rw[hc]at h;exact h
 | no=>rw[hc]at h;exact h
def jW(h1:AS X st c)(h2:UR X rest d):UR X (st::rest) (kC c d):=EN.imp (Rr h1 h2) λD σ H h=>Wk h
def jY(h1:AS X st c):UR X [st] c:=Wv h1
abbrev aaI:Sm:=λτ S=>.bk τ S
abbrev acV:Sm:=λτ S=>.ct τ S
abbrev pX (e:Ex):Sm:=λτ S=>.of (e τ S) λ_ S1=>.nx τ S1
def nB{f:Ex}(he:AE X e f)(hs:swapsWith e none pos.line X.env=pure false<|>ι):AS X (.Expr e pos) (pX f):=PS.imp (WM he hs) λD σ H ⟨ρ,S,τ,R,r,h⟩=>
 ⟨ρ,S,τ,R,r,jX (of_post h) .refl λa S1 h1 ρ1 H1 x e1 R1 v1=>h1 ρ1 H1 σ e1 R1<|r.ext e1⟩
abbrev mw (e:Ex):Sm:=λτ S=>.of (e τ S) λa S1=>.rt a S1
def kI{f:Ex}(he:AE X e f):AS X (.Return (some e) pos) (mw f):=PS.imp (Zr he) λD σ H ⟨ρ,S,τ,R,r,h⟩=>⟨ρ,S,τ,R,r,jX (of_post h) .refl λa S1 h1=>h1⟩
abbrev T_:Sm:=λτ S=>.rt .non S
def UO:AS X (.Return none pos) T_:=PS.imp W7 λD σ H ⟨ρ,S,τ,R,r,h⟩=>h ρ H _ .refl R .non
abbrev yV (t:Te)(c d:Sm):Sm:=λτ S=>.of (t τ S) λb S1=>match b with|true=>c τ S1|false=>d τ S1
def pD{t:Te}(ht:AT X e t)(ha:UR X ca c)(hb:UR X cb d):AS X (.If e ca cb pos) (yV t c d):=PS.imp (abx ht ha hb) λD σ H h9=>by
 z_go;refine⟨ρ,S,τ,R,r,jX (of_post h) .refl λb S1 h1 ρ1 H1 e1 R1=>?_⟩
 cases b with
 | true=>rw[aM rfl];exact⟨ρ1,S1,τ,R1,r.ext e1,DY.ext h1 e1⟩
 | false=>rw[aJ bR];exact⟨ρ1,S1,τ,R1,r.ext e1,DY.ext h1 e1⟩
abbrev kL (e:Ex)(g:Tg):Sm:=λτ S=>.of (e τ S) λa S1=>.of (g a τ S1) λc S2=>.nx c S2
def W6{f:Ex}{g:Tg}{D:Ends}{H:Hp}(h:tS X (kL f g) D σ H):aaD (tE X f) (tG X g) D σ H:=by
 obtain⟨ρ,S,τ,R,r,h⟩:=h;exact⟨ρ,S,τ,R,r,jX (of_post h) .refl λa S1 h1 ρ1 H1 x e1 R1 v1=>⟨ρ1,S1,τ,a,R1,r.ext e1,v1,jX (of_post h1) e1 λc S2 h2=>KH.ext h2 e1⟩⟩
def oV{tg:aE}{f:Ex}{g:Tg}(he:AE X e f)(hg:AG X tg g)(hs:swapsWithSole [tg] e pos.line X.env=pure false<|>ι)(hw:swappedStores [tg] e X.env=pure none<|>ι)
  (h1:(assignEach [tg] X.env).map (·.2)=[assign tg X.env]<|>ι):AS X (.Assign [tg] e pos) (kL f g):=PS.imp (aaF he hg hs hw h1) λD σ H h=>W6 h
def kB{i:Nat}{x:Str}{f:Ex}(hN:X.N.Nodup)(he:AE X e f)(hi:X.N[i]?=some x<|>ι)(hx:Loc X.env.scope x:=by first|exact Or.inl rfl|exact Or.inr rfl)(hs:(swapsWith e (some<|.Name x pos') pos.line X.env=pure false)<|>ι)(hf:X.fn x=true\/X.env.scope.names.lookup x=some .local<|>η) :
  AS X (.Assign [.Name x pos'] e pos) (kL f<|kR i):=PS.imp (YV hN hi hx he hs hf) λD σ H ⟨ρ,S,τ,R,r,h⟩=>
 ⟨ρ,S,τ,R,r,jX (of_post h) .refl λa S1 h1 ρ1 H1 x e1 R1 v1=>h1 ρ1 H1 _ e1 R1<|(r.ext e1).set v1⟩
abbrev adJ (i j:Nat)(c:tH):Sm:=λτ S=>.of (c τ S) λas S1=>match as with
 | [a,b]=>.nx ((τ.set i a).set j b) S1
 | _=>.no
abbrev ip (X:Cx)(f:A->A->jV->R A):Z3:=λx y H Q=>∃ρ S a b,Rel X.K ρ H S/\AV X.K ρ H a x/\AV X.K ρ H b y/\(f a b S).post (CG X ρ H Q) (XE X ρ H)
abbrev Nl (a b:A)(S:jV):R A:=match a,b with
 | .int i,.int j=>.ok (.int<|i+j) S
 | _,_=>.no
def Kc:Xi X .Add (ip X Nl):=λpins s σ H x y v u Q I r1 r2 h9=>by
 x_go
 cases va with
 | int i=>
  cases vb with
  | int j=>exact aaN pins s σ H _ _ v u Q I r1 r2 ⟨i,j,rfl,rfl,h _ _ _ .refl R<|.int _⟩
  | _=>exact h.elim
 | _=>exact h.elim
def WS:Xi X .Sub (ip X aSub):=λpins s σ H x y v u Q I r1 r2 h9=>by
 x_go
 cases va with
 | int i=>
  cases vb with
  | int j=>exact ZN pins s σ H _ _ v u Q I r1 r2 ⟨i,j,rfl,rfl,h _ _ _ .refl R<|.int _⟩
  | _=>exact h.elim
 | _=>exact h.elim
abbrev Ua (i:Nat)(f:A->A->jV->R A)(e:Ex):Sm:=λτ S=>if (τ.getD i .unb).pY then .no else .of (e τ S) λb S1=>.of (f (τ.getD i .unb) b S1) λc S2=>.nx (τ.set i c) S2
def Y9{i:Nat}{x:Str}{c:Ex}{f:A->A->jV->R A}(hN:X.N.Nodup)(he:AE X e c)(ho:Xi X op<|ip X f)(hi:X.N[i]?=some x<|>ι)(hx:Loc X.env.scope x:=by first|exact Or.inl rfl|exact Or.inr rfl)(hf:X.fn x=true\/X.env.scope.names.lookup x=some .local<|>η) :
  AS X (.AugAssign (.Name x pos') op e pos) (Ua i f c):=PS.imp (YF hN hi hx he ho hf) λD σ H h9=>by
 z_go;have d:∀x,τ[i]?=some x->x.pY=false->(RS.of (c τ S) λb S1=>.of (f x b S1) λc S2=>.nx (τ.set i c) S2).post (KH X ρ H D.nx) (CG X ρ H D.rt) (KH X ρ H D.bk) (KH X ρ H D.ct) (XE X ρ H) ->
   ∃x,σ[i]?=some (some x)/\tE X c σ H λy H1=>ip X f x y H1 λz H2=>D.nx (σ.set i<|some z) H2:=by
  intro x hi hx h
  rcases r.at i x hi with z|⟨v,e,q⟩
  ·subst z;cases hx
  ·refine⟨v,e,ρ,S,τ,R,r,jX (of_post h) .refl λb S1 h1 ρ1 H1 y e1 R1 v1=>⟨ρ1,S1,x,b,R1,q.ext e1,v1,jX (of_post h1) e1 λw S2 h2 ρ2 H2 z e2 R2 v2=>?_⟩⟩;exact h2 ρ2 H2 _ (e1.trans e2) R2<|(r.ext<|e1.trans e2).set v2
 unfold Ua DY at h;rw[aL]at h
 cases hi:τ[i]? with
 | none=>rw[hi]at h;exact h.elim
 | some x=>
  rw[hi]at h
  cases hx:x.pY with
  | true=>rw[show(some x).getD .unb=x from rfl,hx]at h;exact h.elim
  | false=>rw[show(some x).getD .unb=x from rfl,hx]at h;exact d x hi hx h
abbrev Ry (a b:A)(S:jV):R A:=match a,b with
 | .ref n,.int i=>opt (jU S n) λxs=>gd (0<=i) (opt (xs[i.toNat]?) λx=>.ok x S)
 | _,_=>.no
def Xb:YK X (r2 X Ry):=λpins s σ H o i ov iv Q I c f h9=>by
 x_go
 cases va with
 | @ref p n g=>
  cases vb with
  | int k=>
   kcj_m;obtain⟨h0,h⟩:=kF h;obtain⟨x,d,h⟩:=j5 h;obtain⟨j,h1,r1⟩:=R.lst g<|kg hn;obtain⟨z,e,q⟩:=r1.get d;exact Ti pins s σ H _ _ ov iv Q I c f ⟨p,j,k,z,rfl,rfl,qj.of h1,h0,e,h _ _ _ .refl R q⟩
  | _=>exact h.elim
 | _=>exact h.elim
abbrev Ca (co ci ce:Ex)(f:A->A->jV->R A):Sm:=λτ S=>.of (co τ S) λo S1=>.of (ci τ S1) λi S2=>.of (Ry o i S2) λx S3=>.of (ce τ S3) λy d=>.of (f x y d) λz e=>.of (G9 o i z e) λ_ c=>.nx τ c
def LC{co ci ce:Ex}{f:A->A->jV->R A}(ho:AE X o co)(hi:AE X i ci)(he:AE X e ce)(hp:Xi X op<|ip X f)
  (ha:∀ov iv new,augStore i ov iv new=(do holding [new,ov,iv] (setItem ov iv new);release [new,ov,iv] [];pure .next):=by intros;rfl):AS X (.AugAssign (.Subscript o i tpos) op e pos) (Ca co ci ce f):=
 PS.imp (Vu ho hi Xb he hp K5 ha) λD σ H h9=>by
  z_go;refine⟨ρ,S,τ,R,r,jX (of_post h) .refl λC S1 h1 ρ1 H1 vo e1 R1 v1=>⟨ρ1,S1,τ,R1,r.ext e1,jX (of_post h1) e1 λB S2 h2 ρ2 H2 vi e2 R2 v2=>?_⟩⟩;refine⟨ρ2,S2,C,B,R2,v1.ext e2,v2,jX (of_post h2) (e1.trans e2) λV S3 h3 ρ3 H3 vx e3 R3 L=>?_⟩;have c:=(e1.trans e2).trans e3;refine⟨ρ3,S3,τ,R3,r.ext c,jX (of_post h3) c λM O Y p H4 vy j J Z=>?_⟩;refine⟨p,O,V,M,J,L.ext j,Z,jX (of_post Y) (c.trans j) λT S5 K q H5 vz m N W=>?_⟩;have d:=(e3.trans j).trans m;refine⟨q,S5,C,B,T,N,v1.ext<|e2.trans d,v2.ext d,W,jX (of_post K) ((c.trans j).trans m) λ_ S6 U k P F G=>?_⟩;have g:=((c.trans j).trans m).trans F;exact U k P σ g G<|r.ext g
abbrev oz (t:Te)(c:Sm):Nat->Sm
 | 0=>λ_ _=>.no
 | n+1=>λτ S=>.of (t τ S) λb S1=>match b with
  | false=>.nx τ S1
  | true=>match c τ S1 with
   | .nx d e=>oz t c n d e
   | .ct d e=>oz t c n d e
   | .bk d e=>.nx d e
   | r=>r
def Co(n:Nat){t:Te}(hp:PassesOwn (model X.prog X.w) X.A X.env X.xe)(ht:AT X e t)(hb:UR X body c):AS X (.While e body [] pos) (oz t c n):=PS.imp (QI hp ht hb) λD σ H h9=>by
 z_go;refine⟨λm j H'=>∃ρ' f d,Ext ρ ρ' H H'/\Rel X.K ρ' H' f/\SR X.K ρ' H' d j/\DY X ρ' H' D (oz t c m d f),⟨n,ρ,S,τ,.refl,R,r,h⟩,?_⟩;rintro m p H1 ⟨ρ1,S1,g,e1,R1,r1,h1⟩
 cases m with
 | zero=>exact h1.elim
 | succ m=>
  refine⟨ρ1,S1,g,R1,r1,jX (of_post h1) .refl λb S2 h2 ρ2 H2 e2 R2=>?_⟩
  cases b with
  | false=>rw[aJ bR];exact h2 ρ2 H2 p e2 R2 (r1.ext e2)
  | true=>
   rw[aM rfl];refine⟨λj H'=>∃ρ' f d,Ext ρ ρ' H H'/\Rel X.K ρ' H' f/\SR X.K ρ' H' d j/\DY X ρ' H' D (oz t c m d f),λj H' z=>⟨m,eW _,z⟩,ρ2,S2,g,R2,r1.ext e2,?_⟩;have h2:DY X ρ1 H1 D (match c g S2 with
    | .nx d f=>oz t c m d f
    | .ct d f=>oz t c m d f
    | .bk d f=>.nx d f
    | r=>r):=h2
   cases hc:c g S2 with
   | nx k S3=>rw[hc]at h2;exact λρ3 H3 B e3 R3 q=>⟨ρ3,S3,k,(e1.trans e2).trans e3,R3,q,DY.ext h2<|e2.trans e3⟩
   | ct k S3=>rw[hc]at h2;exact λρ3 H3 B e3 R3 q=>⟨ρ3,S3,k,(e1.trans e2).trans e3,R3,q,DY.ext h2<|e2.trans e3⟩
   | bk k S3=>rw[hc]at h2;exact KH.ext h2 e2
   | rt a S3=>rw[hc]at h2;exact CG.ext h2 e2
   | ex x S3=>rw[hc]at h2;exact XE.ext h2 e2
   | no=>rw[hc]at h2;exact h2
end
structure Src where
 k:Nat
 get:Nat->jV->Option A
 fin:jV->Bool
structure JR (K:au)(s:Src)(J:It)(ρ0:bd)(H0:Hp):Prop where
 go:∀(i:Nat) (S:jV) (H:Hp) (ρ:bd) (x:A),Ext0 ρ0 ρ H0 H->Rel K ρ H S->s.get i S=some x->J.go i H/\∀v H',J.yld i H v H'->Ext ρ ρ H H'/\Rel K ρ H' S/\AV K ρ H' x v
 stop:∀(S:jV) (H:Hp) (ρ:bd),Ext0 ρ0 ρ H0 H->Rel K ρ H S->s.fin S=true->J.stop s.k H
meta abbrev Ic:=ae->jV->R Src
abbrev tI (X:Cx)(c:Ic):TI:=λσ H Q=>∃ρ S τ,Rel X.K ρ H S/\SR X.K ρ H τ σ/\(c τ S).post (λs d=>∀ρ' H' J,Ext ρ ρ' H H'->Rel X.K ρ' H' d->JR X.K s J ρ' H'->Q J H') (XE X ρ H)
abbrev AI (X:Cx)(tg iter:aE)(c:Ic):Prop:=PI X tg iter<|tI X c
abbrev vE (xs:ae):Src:=⟨xs.length,λi _=>xs[i]?,λ_=>true⟩
abbrev om (n k:Nat):Src:=⟨k,λi S=>(jU S n).bind (·[i]?),λS=>match jU S n with
 | some ys=>decide (ys.length<=k)
 | none=>false⟩
abbrev uy (lo hi:Int):Src:=⟨(hi-lo).toNat,λi _=>if i<(hi-lo).toNat then some (.int<|lo+i)else none,λ_=>true⟩
abbrev pI (c:Ex):Ic:=λτ S=>(c τ S).bind λa S1=>match a with
 | .tup xs=>.ok (vE xs) S1
 | .frz xs=>.ok (vE xs) S1
 | .ref n=>opt (jU S1 n) λxs=>.ok (om n xs.length) S1
 | .str x=>gd (x.cps.all (· < 128)=true) (.ok (vE<|x.cps.toList.map λc=>.str ⟨#[c]⟩) S1)
 | _=>.no
section
variable {X:Cx}{pos:Pos}{tg e a b:aE}
def Zq{K:au}{H0:Hp}{p:ak}(h:oF K H0 p vs)(r:AVs K ρ0 H0 xs vs):JR K (vE xs) (Itt K p) ρ0 H0 where
 go:=λi S H ρ x e R g=>by
  obtain⟨v,c,d⟩:=(AVs.nM e r).get g;have hs:=e.sqT h;refine⟨⟨vs,v,hs,c⟩,λw H' ⟨e1,y⟩=>?_⟩;subst e1;have:=y vs hs;rw[c]at this
  cases this
  exact⟨.refl,R,d⟩
 stop:=λS H ρ e R _=>⟨vs,e.sqT h,by rw[<- r.length];exact aP _⟩
def aaK{K:au}{H0:Hp}{p:ak}(h:Fz K H0 p vs)(r:AVs K ρ0 H0 xs vs):JR K (vE xs) (Itl K p) ρ0 H0 where
 go:=λi S H ρ x e R g=>by
  obtain⟨v,c,d⟩:=(AVs.nM e r).get g;have hs:=(e.fz h).UK;refine⟨⟨vs,v,hs,c⟩,λw H' ⟨e1,y⟩=>?_⟩;subst e1;have:=y vs hs;rw[c]at this
  cases this
  exact⟨.refl,R,d⟩
 stop:=λS H ρ e R _=>⟨vs,(e.fz h).UK,by rw[<- r.length];exact aP _⟩
def Z2{K:au}{ρ0:bd}{H0:Hp}{p:ak}{n k:Nat}(h:ρ0[n]?=some p):JR K (om n k) (Itl K p) ρ0 H0 where
 go:=λi S H ρ x e R g=>by
  obtain⟨ys,hn,j⟩:=ck.mp<|show(jU S n).bind (·[i]?)=some x from g;obtain⟨c,h1,r⟩:=R.lst (e.get h)<|kg hn;obtain⟨v,d,f⟩:=r.get j;refine⟨⟨c,v,qj.of h1,d⟩,λw H' ⟨e1,y⟩=>?_⟩;subst e1;have:=y c<|qj.of h1;rw[d]at this
  cases this
  exact⟨.refl,R,f⟩
 stop:=λS H ρ e R g=>by
  have g:(match jU S n with
   | some ys=>decide (ys.length<=k)
   | none=>false)=true:=g
  cases hn:jU S n with
  | none=>rw[hn]at g;cases g
  | some ys=>
   rw[hn]at g;obtain⟨c,h1,r⟩:=R.lst (e.get h)<|kg hn;exact⟨c,qj.of h1,by rw[<- r.length];exact bN g⟩
def Py{K:au}{H0:Hp}{lo hi:Int}:JR K (uy lo hi) (Itr lo (hi-lo).toNat) ρ0 H0 where
 go:=λi S H ρ x e R g=>by
  have g:(if i<(hi-lo).toNat then some (A.int<|lo+i)else none)=some x:=g;by_cases c:i<(hi-lo).toNat
  ·rw[aM c]at g
   cases g
   refine⟨c,λw H' ⟨e1,y⟩=>?_⟩;subst e1 y;exact⟨.refl,R,.int _⟩
  ·rw[aJ c]at g;cases g
 stop:=λS H ρ e R _=>aP _
def ZV{K:au}{H0:Hp}{x:Str}:JR K (vE<|x.cps.toList.map λc=>A.str ⟨#[c]⟩) (Its x) ρ0 H0 where
 go:=λi S H ρ y e R g=>by
  have g:(x.cps.toList.map λc=>A.str ⟨#[c]⟩)[i]?=some y:=g;rw[aX]at g;obtain⟨c,hc,rfl⟩:=bg.mp g;rw[d7]at hc;refine⟨(Array.getElem?_eq_some_iff.mp hc).1,λw H' ⟨e1,j,d,f⟩=>?_⟩;rw[hc]at d
  cases d
  subst e1 f;exact⟨.refl,R,.str _⟩
 stop:=λS H ρ e R _=>by
  show(x.cps.toList.map λc=>A.str ⟨#[c]⟩).length=x.cps.size;rw[aI,cW]
def n_{c:Ex}(he:AE X e c):AI X tg e (pI c):=λpins s σ H Q I h9=>by
 z_go;have d:=j4 h
 cases hc:c τ S with
 | no=>rw[hc]at d;exact d.elim
 | ex x S1=>
  rw[hc]at d;exact TY he pins s σ H Q I ⟨ρ,S,τ,R,r,by rw[hc];exact d⟩
 | ok a S1=>
  rw[hc]at d
  cases a with
  | tup xs=>
   refine TY he pins s σ H Q I ⟨ρ,S,τ,R,r,?_⟩;rw[hc];intro ρ1 H1 x e1 R1 v1
   cases v1 with
   | tup h1 r1=>exact⟨_,rfl,⟨_,(oF.of h1)⟩,d ρ1 H1 _ e1 R1<|Zq (oF.of h1) r1⟩
  | frz xs=>
   refine LG he pins s σ H Q I ⟨ρ,S,τ,R,r,?_⟩;rw[hc];intro ρ1 H1 x e1 R1 v1
   cases v1 with
   | frz h1 r1=>exact⟨_,rfl,⟨_,h1.UK⟩,d ρ1 H1 _ e1 R1<|aaK h1 r1⟩
  | ref n=>
   obtain⟨xs,hn,d⟩:=j5 d;refine LG he pins s σ H Q I ⟨ρ,S,τ,R,r,?_⟩;rw[hc];intro ρ1 H1 x e1 R1 v1
   cases v1 with
   | ref f=>
    obtain⟨j,h1,r1⟩:=R1.lst f<|kg hn;exact⟨_,rfl,⟨_,qj.of h1⟩,d ρ1 H1 _ e1 R1<|Z2 f⟩
  | str x=>
   obtain⟨g,d⟩:=kF d;refine aaU he pins s σ H Q I ⟨ρ,S,τ,R,r,?_⟩;rw[hc];intro ρ1 H1 v e1 R1 v1
   cases v1 with
   | str=>exact⟨x,rfl,g,d ρ1 H1 _ e1 R1 ZV⟩
  | _=>exact d.elim
abbrev bnd (i:Int):Prop:=-(2 ^ 62)<=i/\i<2 ^ 62
instance (i:Int):Decidable (bnd i):=by unfold bnd;infer_instance
abbrev ug (c:Ex):Ic:=λτ S=>(c τ S).bind λa S1=>match a with
 | .int j=>gd (bnd j) (.ok (uy 0 j) S1)
 | _=>.no
abbrev zX (c d:Ex):Ic:=λτ S=>(c τ S).bind λa S1=>(d τ S1).bind λb S2=>match a,b with
 | .int i,.int j=>gd (bnd i/\bnd j) (.ok (uy i j) S2)
 | _,_=>.no
def o_{p:Pos}{c:Ex}(hm:X.mg "range" = none)(ha:AE X a c)(hg:Gl X "range"<|>ι)(hs:starEach [a] X.env=[(false,eval a X.env)]<|>ι):AI X tg (.Call (.Name "range" p) [a] [] pos) (ug c):=λpins s σ H Q I h9=>by
 z_go;refine NW hg hm (qk ha xN hs) hs pins s σ H Q I ⟨ρ,S,τ,R,r,jX (j4 h) .refl λx S1 h1 ρ1 H1 v e1 R1 v1=>?_⟩
 cases v1 with
 | int j=>
  obtain⟨d,h1⟩:=kF h1;exact⟨_,rfl,d.1,d.2,by have:=h1 ρ1 H1 _ e1 R1 Py;rwa [Int.sub_zero]at this⟩
 | _=>exact h1.elim
def Dh{p:Pos}{c d:Ex}(hm:X.mg "range" = none)(ha:AE X a c)(hb:AE X b d)(hg:Gl X "range"<|>ι)(hs:starEach [a,b] X.env=[(false,eval a X.env),(false,eval b X.env)]<|>ι)(hs2:starEach [b] X.env=[(false,eval b X.env)]<|>ι):AI X tg (.Call (.Name "range" p) [a,b] [] pos) (zX c d):=λpins s σ H Q I h9=>by
 z_go;refine Of hg hm (qk ha (qk hb xN hs2)<|by rw[hs,hs2]) hs hs2 pins s σ H Q I ⟨ρ,S,τ,R,r,jX (j4 h) .refl λx S1 h1 ρ1 H1 v e1 R1 v1=>⟨ρ1,S1,τ,R1,r.ext e1,jX (j4 h1) e1 λy S2 h2 ρ2 H2 w e2 R2 v2=>?_⟩⟩
 cases v1 with
 | int i=>
  cases v2 with
  | int j=>
   obtain⟨hb,h2⟩:=kF h2;exact⟨_,_,rfl,⟨hb.1.1,hb.1.2,hb.2.1,hb.2.2⟩,h2 ρ2 H2 _ (e1.trans e2) R2 Py⟩
  | _=>exact h2.elim
 | _=>exact h2.elim
abbrev Gq (xs:ae):Src:=⟨xs.length,λi _=>(xs[i]?).map λx=>.tup [.int i,x],λ_=>true⟩
abbrev U_ (c:Ex):Ic:=λτ S=>(c τ S).bind λa S1=>match a with
 | .tup xs=>.ok (Gq xs) S1
 | _=>.no
def aa3{K:au}{H0:Hp}{p:ak}(h:oF K H0 p vs)(r:AVs K ρ0 H0 xs vs):JR K (Gq xs) (Ite K p) ρ0 H0 where
 go:=λi S H ρ x e R g=>by
  obtain⟨y,m,rfl⟩:=bg.mp<|show(xs[i]?).map (λx=>A.tup [.int i,x])=some x from g;obtain⟨v,d,j⟩:=(AVs.nM e r).get m;have hs:=e.sqT h;refine⟨⟨vs,v,hs,d⟩,λw H' q=>?_⟩;obtain⟨C,f,rfl,k⟩:=q;have c:=k vs v hs d;subst c;obtain⟨ex,B⟩:=R.im (u:=.tup [.int i,v]) f;exact⟨ex,B,.tup lE<|.cons (.int _)<|.cons (j.ext ex) .nil⟩
 stop:=λS H ρ e R _=>⟨vs,e.sqT h,by rw[<- r.length];rfl⟩
def ZH{p:Pos}{c:Ex}(hm:X.mg "enumerate" = none)(ha:AE X a c)(hg:Gl X "enumerate"<|>ι)(hs:starEach [a] X.env=[(false,eval a X.env)]<|>ι):AI X (.Tuple elts x1 tpos) (.Call (.Name "enumerate" p) [a] [] pos) (U_ c):=λpins s σ H Q I h9=>by
 z_go;refine T5 hg hm (qk ha xN hs) hs pins s σ H Q I ⟨ρ,S,τ,R,r,jX (j4 h) .refl λx S1 h1 ρ1 H1 v e1 R1 v1=>?_⟩
 cases v1 with
 | tup h2 r2=>exact⟨_,_,rfl,(oF.of h2),h1 ρ1 H1 _ e1 R1<|aa3 (oF.of h2) r2⟩
 | _=>exact h1.elim
abbrev sA (s:Src)(g:Tg)(c:Sm):Nat->Nat->Sm
 | 0,_=>λτ S=>if s.fin S then .nx τ S else .no
 | k+1,i=>λτ S=>match s.get i S with
  | none=>.no
  | some x=>.of (g x τ S) λf S1=>match c f S1 with
   | .nx d e=>sA s g c k (i+1) d e
   | .ct d e=>sA s g c k (i+1) d e
   | .bk d e=>.nx d e
   | r=>r
abbrev lN (src:Ic)(g:Tg)(c:Sm):Sm:=λτ S=>.of (src τ S) λs S1=>sA s g c s.k 0 τ S1
def mD{iter:aE}{src:Ic}{g:Tg}{c:Sm}(hp:PassesOwn (model X.prog X.w) X.A X.env X.xe)(hc:X.calm=true)(hi:AI X tg iter src)(hg:AG X tg g)(hb:UR X body c)
  (hs:(∀x,foldedSetIterable iter X.env x=pure x)<|>ν):AS X (.For tg iter body [] pos) (lN src g c):=PS.imp (ZQ hp hc hi hg hb hs) λD σ H h9=>by
 z_go;refine⟨ρ,S,τ,R,r,jX (of_post h) .refl λs S1 h1 ρ1 H1 J e1 R1 Z=>?_⟩;refine⟨λi m B H'=>m+i=s.k/\∃ρ' p d,Ext ρ1 ρ' H1 H'/\Rel X.K ρ' H' p/\SR X.K ρ' H' d B/\DY X ρ' H' D (sA s g c m i d p),⟨s.k,rfl,ρ1,S1,τ,.refl,R1,r.ext e1,DY.ext h1 e1⟩,?_⟩;rintro i m Y H2 ⟨hm,ρ2,S2,C,e2,R2,r2,h2⟩
 cases m with
 | zero=>
  left;have h2:DY X ρ2 H2 D (if s.fin S2 then .nx C S2 else .no):=h2
  cases hf:s.fin S2 with
  | false=>rw[hf]at h2;exact h2.elim
  | true=>
   rw[hf]at h2;refine⟨by rw[show i=s.k by lia];exact Z.stop S2 H2 ρ2 e2.toExt0 R2 hf,h2 ρ2 H2 Y .refl R2 r2⟩
 | succ m=>
  right;have h2:DY X ρ2 H2 D (match s.get i S2 with
   | none=>.no
   | some x=>.of (g x C S2) λT S1=>match c T S1 with
    | .nx d p=>sA s g c m (i+1) d p
    | .ct d p=>sA s g c m (i+1) d p
    | .bk d p=>.nx d p
    | r=>r):=h2
  cases O:s.get i S2 with
  | none=>rw[O]at h2;exact h2.elim
  | some x=>
   rw[O]at h2;obtain⟨N,hy⟩:=Z.go i S2 H2 ρ2 x e2.toExt0 R2 O;refine⟨N,λB H'=>m+(i+1)=s.k/\∃ρ' p d,Ext ρ1 ρ' H1 H'/\Rel X.K ρ' H' p/\SR X.K ρ' H' d B/\DY X ρ' H' D (sA s g c m (i+1) d p),λB H' z=>⟨m,eW _,z⟩,λv H3 y=>?_⟩;obtain⟨e3,R3,v3⟩:=hy v H3 y;refine⟨ρ2,S2,C,x,R3,r2.ext e3,v3,jX (of_post h2) e3 λM S4 j P H4 σ4 e4 R4 r4=>⟨P,S4,M,R4,r4,?_⟩⟩;have e:=e3.trans e4
   cases f:c M S4 with
   | nx q G=>rw[f]at j;exact λF H5 W L V U=>⟨(),F,G,q,(e2.trans e).trans L,V,U,DY.ext j<|e.trans L⟩
   | ct q G=>rw[f]at j;exact λF H5 W L V U=>⟨(),F,G,q,(e2.trans e).trans L,V,U,DY.ext j<|e.trans L⟩
   | bk q G=>rw[f]at j;exact KH.ext j e
   | rt x5 G=>rw[f]at j;exact CG.ext j e
   | ex x5 G=>rw[f]at j;exact XE.ext j e
   | no=>rw[f]at j;exact j
end
abbrev R.yz {α β:Type}(r:R α)(f:α->jV->R β):R β:=match r with
 | .ok a S=>f a S
 | _=>.no
def yj{α β:Type}{r:R α}{f:α->jV->R β}{b:β}(h:r.yz f=.ok b S2):∃a S,r=.ok a S/\f a S=.ok b S2:=by
 cases r with
 | ok a S=>exact⟨a,S,rfl,h⟩
 | ex _ _=>cases h
 | no=>cases h
def Jx{α β:Type}{r:R α}{f:α->jV->R β}{P:β->jV->Prop}{E:Str->jV->Prop}(h:(r.yz f).post P E):∃a S,r=.ok a S/\(f a S).post P E:=by
 cases r with
 | ok a S=>exact⟨a,S,rfl,h⟩
 | ex _ _=>exact h.elim
 | no=>exact h.elim
def ZD{α β:Type}{o:Option β}{f:β->R α}{a:α}(h:opt o f=.ok a S):∃b,o=some b/\f b=.ok a S:=by
 cases o with
 | none=>cases h
 | some b=>exact⟨b,rfl,h⟩
abbrev rX (s:Src)(g:Tg)(t:Te)(e:Ex):Nat->Nat->ae->jV->R (ae)
 | 0,_=>λ_ S=>if s.fin S then .ok [] S else .no
 | k+1,i=>λτ S=>opt (s.get i S) λx=>(g x τ S).yz λc S1=>(t c S1).yz λb S2=>match b with
  | true=>(e c S2).yz λy S3=>(rX s g t e k (i+1) c S3).yz λys d=>.ok (y::ys) d
  | false=>rX s g t e k (i+1) c S2
abbrev ni (cap:List<|bo)(τ:ae):ae:=cap.map λo=>match o with
 | some j=>τ.getD j .unb
 | none=>.unb
abbrev nc (cap:List<|bo)(src:Ic)(g:Tg)(t:Te)(e:Ex):Ex:=λτ S=>(src τ S).bind λs S1=>(rX s g t e s.k 0 (ni cap τ) S1).yz λys S2=>newL ys S2
abbrev Np:Te:=λ_ S=>.ok true S
def G0{s:Src}{g:Tg}{t:Te}{e:Ex}{k:Nat}{T:Prop}(h:rX s g t e (k+1) i τ S=.ok zs S')
  (q:∀x τ1 S1 b S2,s.get i S=some x->g x τ S=.ok τ1 S1->t τ1 S1=.ok b S2->(b=true->∃y S3 ws,e τ1 S2=.ok y S3/\rX s g t e k (i+1) τ1 S3=.ok ws S'/\zs=y::ws)->(b=false->rX s g t e k (i+1) τ1 S2=.ok zs S')->T):T:=by
 obtain⟨x,d,h⟩:=ZD h;obtain⟨τ1,S1,h1,h⟩:=yj h;obtain⟨b,S2,h2,h⟩:=yj h;refine q x τ1 S1 b S2 d h1 h2 (λc=>?_) λc=>?_
 ·subst c;obtain⟨y,S3,h3,h⟩:=yj h;obtain⟨ws,j,f,h⟩:=yj h
  cases h
  exact⟨y,S3,ws,h3,f,rfl⟩
 ·subst c;exact h
structure Out (ρ1:bd)(H1:Hp)(D:ak)(accV:List V)(ρ:bd)(H:Hp):Prop where
 e0:Ext0 ρ1 ρ H1 H
 fr:∀a u,a≠D->H1 a=some u->a∉ρ1->H a=some u
 nw:∀a∈ρ,a∈ρ1\/H1 a=none
 nD:D∉ρ
 hD:H D=some (.lst accV)
def Out.stay{H1 H3 H7:Hp}{D:ak}(o:Out ρ1 H1 D accV ρ3 H3)(hD1:H1 D=none)(e7:Ext ρ3 ρ7 H3 H7):Out ρ1 H1 D accV ρ7 H7:=by
 refine⟨⟨o.e0.pre.trans e7.pre,λa u i h=>e7.im a u i<|o.e0.im a u i h⟩,λa u na c e=>e7.fr a u (o.fr a u na c e) λz=>(o.nw a z).elim e λz=>by(rw[z]at c;cases c),λa f=>?_,λz=>(e7.nw D z).elim o.nD λz=>by(rw[o.hD]at z;cases z),e7.fr D _ o.hD o.nD⟩;by_cases d:a∈ρ1
 ·exact .inl d
 ·right
  cases q:H1 a with
  | none=>rfl
  | some u=>
   have g:a≠D:=ko q hD1
   rcases e7.nw a f with z|z
   ·exact((o.nw a z).elim d λz=>by(rw[z]at q;cases q)).elim
   ·rw[o.fr a u g q d]at z;cases z
def Out.put{H1 H:Hp}{D:ak}(o:Out ρ1 H1 D accV ρ H)(ex:Ext0 ρ ρ H<|upd H D<|.lst vs):Out ρ1 H1 D vs ρ (upd H D<|.lst vs):=
 ⟨⟨o.e0.pre,λa u i h=>ex.im a u i<|o.e0.im a u i h⟩,λa u na d c=>by rw[j8 na];exact o.fr a u na d c,o.nw,o.nD,lE⟩
def Out.end{H1 H:Hp}{D:ak}(o:Out ρ1 H1 D accV ρ H)(hD:H1 D=none):Ext ρ1 (ρ++[D]) H1 H:=by
 refine⟨⟨o.e0.pre.trans<|e_ _ _,o.e0.im⟩,λa u c na=>o.fr a u (ko c hD) c na,λa d=>?_⟩
 rcases bG.mp d with z|z
 ·exact o.nw a z
 ·have:a=D:=by simpa using z
  rw[this];exact .inr hD
abbrev Cq (K:au)(ρ1:bd)(H1:Hp)(D:ak)(ys:ae)(k:Nat)(E:bd->Hp->Prop)(P:Nat->Nat->ae->jV->ae->Prop)(i m:Nat)(σ:L2.St)(H:Hp):Prop:=
 m+i=k/\∃ρ S τ acc zs accV,Out ρ1 H1 D accV ρ H/\E ρ H/\Rel K ρ H S/\SR K ρ H τ σ/\AVs K ρ H acc accV/\P m i τ S zs/\acc++zs=ys
section
variable {K:au}{ρ1 ρ:bd}{H1 H:Hp}{D:ak}{ys acc zs:ae}{accV:List V}{k i m:Nat}{E:bd->Hp->Prop}{P:Nat->Nat->ae->jV->ae->Prop}{σ:L2.St}{S:jV}{τ:ae}
def Cq.el{T:Prop}(h:Cq K ρ1 H1 D ys k E P i m σ H)(q:∀ρ S τ acc zs accV,m+i=k->Out ρ1 H1 D accV ρ H->E ρ H->Rel K ρ H S->SR K ρ H τ σ->AVs K ρ H acc accV->P m i τ S zs->acc++zs=ys->T):T:=by
 obtain⟨e,ρ,S,τ,acc,zs,accV,h1,h2,h3,g,f,c,d⟩:=h;exact q ρ S τ acc zs accV e h1 h2 h3 g f c d
def Cq.of(hm:m+i=k)(o:Out ρ1 H1 D accV ρ H)(e:E ρ H)(R:Rel K ρ H S)(r:SR K ρ H τ σ)(v:AVs K ρ H acc accV)(p:P m i τ S zs)(q:acc++zs=ys):Cq K ρ1 H1 D ys k E P i m σ H:=⟨hm,ρ,S,τ,acc,zs,accV,o,e,R,r,v,p,q⟩
end
abbrev tE0 (K:au)(c:Ex):TE:=λσ H Q=>∃ρ S τ a d,Rel K ρ H S/\SR K ρ H τ σ/\c τ S=.ok a d/\∀ρ' H' v,Ext ρ ρ' H H'->Rel K ρ' H' d->AV K ρ' H' a v->Q v H'
abbrev tT0 (K:au)(c:Te):TT:=λσ H Q=>∃ρ S τ a d,Rel K ρ H S/\SR K ρ H τ σ/\c τ S=.ok a d/\∀ρ' H',Ext ρ ρ' H H'->Rel K ρ' H' d->Q a H'
abbrev tG0 (K:au)(g:Tg):TG:=λv σ H Q=>∃ρ S τ a c e,Rel K ρ H S/\SR K ρ H τ σ/\AV K ρ H a v/\g a τ S=.ok c e/\∀ρ' H' d,Ext ρ ρ' H H'->Rel K ρ' H' e->SR K ρ' H' c d->Q d H'
section
variable {X:Cx}{pos:Pos}{tg iter elt e:aE}{ifs:List aE}{scope:Scope}{N:ba}{cap:List (bo)}{src:Ic}{g:Tg}{t:Te}{c:Ex}
def AE.e0{K:au}(hK:X.K=K)(h:AE X e c):PE X e (tE0 K c):=PE.imp h λσ H Q ⟨ρ,S,τ,a,g,R,r,hc,q⟩=>⟨ρ,S,τ,by rw[hK];exact R,by rw[hK];exact r,by rw[hc];exact λρ' H' v e f d=>q ρ' H' v e (by rw[<- hK];exact f)<|by rw[<- hK];exact d⟩
def AT.t0{K:au}(hK:X.K=K)(h:AT X e t):PT X e (tT0 K t):=PT.imp h λσ H Q ⟨ρ,S,τ,a,d,R,r,hc,q⟩=>⟨ρ,S,τ,by rw[hK];exact R,by rw[hK];exact r,by rw[hc];exact λρ' H' e c=>q ρ' H' e<|by rw[<- hK];exact c⟩
def AG.g0{K:au}(hK:X.K=K)(h:AG X e g):PG X e (tG0 K g):=by
 subst hK;refine PG.imp h λv σ H Q h9=>?_;obtain⟨ρ,S,τ,a,c,d,R,r,va,hc,q⟩:=h9;exact⟨ρ,S,τ,a,R,r,va,by rw[hc];exact q⟩
abbrev ATs (X:Cx)(ifs:List aE)(t:Te):Prop:=PTs X ifs<|tT0 X.K t
def Vc:ATs X [] Np:=λpins s σ H Q I ⟨ρ,S,τ,a,c,R,r,hc,q⟩=>VM pins s σ H Q I<|by cases hc;exact q ρ H .refl R
def yk(h:AT X e t):ATs X [e] t:=UX<|h.t0 rfl
def acY{K:au}{H:Hp}(r:SR K ρ H τ σ)(cap:List<|bo):SR K ρ H (ni cap τ) (cap.map<|Z5 σ):=by
 refine⟨by simp[ni],λi a h=>?_⟩;unfold ni at h;rw[aX]at h;obtain⟨o,d,e⟩:=bg.mp h
 cases o with
 | none=>exact .inl e.symm
 | some j=>
  have e:τ.getD j .unb=a:=e
  cases c:τ[j]? with
  | none=>rw[aL,c]at e;exact .inl e.symm
  | some b=>
   rw[aL,c]at e;have e:b=a:=e;subst e
   rcases r.at j b c with z|⟨v,h1,h2⟩
   ·exact .inl z
   ·exact .inr ⟨v,by rw[aX,d];show some ((σ[j]?).getD none)=_;rw[h1];rfl,h2⟩
def Rel.MZ{K:au}{H:Hp}{p:ak}(R:Rel K ρ H S)(hp:H p=none):p∉ρ:=λd=>by
 obtain⟨n,hn,e⟩:=i7.mp d;have g:n<S.length:=by rw[<- R.len];exact hn
 have:=R.at n p S[n] (by rw[aH hn,e]) (aH g)
 cases c:S[n]with
 | lst xs=>rw[c]at this;obtain⟨f,h,_⟩:=this;rw[hp]at h;cases h
 | dct _|pZ _|u9 _=>rw[c]at this;obtain⟨f,h,_⟩:=this;rw[hp]at h;cases h
 | ins _ _=>rw[c]at this;obtain⟨_,_,h⟩:=this;rw[hp]at h;cases h
def RL(σ:L2.St)(H:Hp)(Q:VK)(h:tE X (nc cap src g t c) σ H Q):tLC cap (tI X src) (tG0 X.K g) (tT0 X.K t) (tE0 X.K c) σ H Q:=by
 obtain⟨ρ,S,τ,R,r,h⟩:=h;refine⟨ρ,S,τ,R,r,jX (j4 h) .refl λs S1 h1 ρ1 H1 J e1 R1 jr D hD=>?_⟩;obtain⟨ys,S2,W,h1⟩:=Jx h1;obtain⟨C,h1⟩:=kF h1;have h1:CG X ρ H Q (.ref S2.length) (S2++[.lst ys]):=h1;obtain⟨eD,RD⟩:=R1.im (u:=.lst []) hD;refine⟨Cq X.K ρ1 H1 D ys s.k (λ_ _=>True) λm i τ S zs=>rX s g t c m i τ S=.ok zs S2,⟨s.k,.of rfl ⟨eD.toExt0,λa u na hu _=>by rw[j8 na];exact hu,λa ha=>.inl ha,R1.MZ hD,lE⟩ trivial RD (acY ((r.ext e1).ext eD) cap) .nil W rfl⟩,?_⟩;intro i m σ3 H3 hw;refine hw.el λρ3 S3 T acc zs accV hm B _ R3 r3 f d e=>?_;clear hw
 cases m with
 | zero=>
  left;have d:(if s.fin S3 then Am.R.ok [] S3 else .no)=.ok zs S2:=d
  cases hf:s.fin S3 with
  | false=>rw[hf]at d;cases d
  | true=>
   rw[hf]at d
   cases d
   rw[cZ]at e;subst e;refine⟨by rw[show i=s.k by lia];exact jr.stop _ H3 ρ3 B.e0 R3 hf,?_⟩;obtain⟨RT,gt⟩:=R3.take B.hD B.nD f;exact h1 (ρ3++[D]) H3 _ (e1.trans<|B.end hD) RT<|.ref gt
 | succ m=>
  right;refine G0 d λx q S4 b S5 hx N U hT hF=>?_;have jg:=jr.go i S3 H3 ρ3 x B.e0 R3 hx;refine⟨jg.1,λv H4 y=>?_⟩;obtain⟨e4,R4,v4⟩:=jg.2 v H4 y;refine⟨ρ3,S3,T,x,q,S4,R4,r3.ext e4,v4,N,λZ H5 σ5 e5 R5 M=>⟨Z,S4,q,b,S5,R5,M,U,λP H6 G R6=>?_⟩⟩;have j:=(e4.trans e5).trans G
  cases b with
  | false=>
   dsimp only;rw[aJ bR];exact⟨m,eW _,.of () (B.stay hD j) trivial R6 (M.ext G) (f.ext j) (hF rfl) e⟩
  | true=>
   dsimp only;rw[aM rfl];obtain⟨y,S6,ws,O,Y,F⟩:=hT rfl;refine⟨P,S5,q,y,S6,R6,M.ext G,O,λρ7 H7 w V R7 v7=>?_⟩;have L:=B.stay hD<|j.trans V;obtain⟨p,R8⟩:=R7.out (ws:=accV++[w]) L.hD L.nD;have l1:=f.length;refine⟨accV,L.hD,?_,m,eW _,.of () (L.put p) trivial R8 ((M.ext<|G.trans V).nM p) (AVs.nM p<|(f.ext<|j.trans V).append<|.one v7) Y ?_⟩
   ·have:(acc++zs).length<=sizeLine:=by rw[e];exact C
    rw[F,aV,bu]at this
    lia
   ·rw[bM,<- e,F];rfl
def wo(hc:X.calm=true)(Sc:CpScope X scope N cap)(hi:AI X tg iter src)(hg:∀C s₀ H₀ ex,AG (sj X scope N C s₀ H₀ ex) tg g)(ht:∀C s₀ H₀ ex,ATs (sj X scope N C s₀ H₀ ex) ifs t)(he:∀C s₀ H₀ ex,AE (sj X scope N C s₀ H₀ ex) elt c)
  (hs:(∀x,foldedSetIterable iter X.env x=pure x)<|>ν):AE X (.ListComp elt [⟨tg,iter,ifs,0⟩] scope pos) (nc cap src g t c):=
 PE.imp (abX hc Sc hi (g:=tG0 X.K g) (tc:=tT0 X.K t) (te:=tE0 X.K c) (λC s₀ H₀ ex=>(hg C s₀ H₀ ex).g0 rfl) (λC s₀ H₀ ex=>ht C s₀ H₀ ex) (λC s₀ H₀ ex=>(he C s₀ H₀ ex).e0 rfl) hs) RL
end
abbrev A.lst? (S:jV):A->Option (ae)
 | .ref n=>jU S n
 | _=>none
abbrev eMe (f:A->ae->jV->R A)(co:Ex)(d:tH):Ex:=λτ S=>(co τ S).bind λo S1=>opt (o.lst? S1) λ_=>(d τ S1).bind λas S2=>f o as S2
abbrev ad1 (f:A->ae->jV->R A)(co:Ex):Ex:=λτ S=>(co τ S).bind λo S1=>opt (o.lst? S1) λ_=>f o [] S1
abbrev rM (X:Cx)(f:A->ae->jV->R A):V->List V->Hp->VK->Prop:=λx c H Q=>∃ρ S o as,Rel X.K ρ H S/\AV X.K ρ H o x/\AVs X.K ρ H as c/\(f o as S).post (CG X ρ H Q) (XE X ρ H)
section
variable {X:Cx}{apos cpos:Pos}{o e:aE}{es:List aE}{name:Str}{id:String}{f:A->ae->jV->R A}{co:Ex}{d:tH}
def lst?_ty{K:au}{H:Hp}{x:A}{v:V}(R:Rel K ρ H S)(h:AV K ρ H x v)(e:x.lst? S=some xs):tyV K "list" v H:=by
 cases h with
 | ref h=>
  obtain⟨c,h1,_⟩:=R.lst h<|kg e;exact .inl ⟨rfl,c,qj.of h1⟩
 | _=>cases e
def JV(slot:Slot "list" name id)(hty:typeOf (.builtin id)=pure (.type "method_descriptor"))(hm:Xu X id<|rM X f)(ho:AE X o co)(ha:AL X (e::es) d)
  (hbase:attributeBase o name X.env (eval o X.env)=eval o X.env<|>ι)
  (hfew:(((backTo cpos<|starEach (e::es) X.env).all (λx=>!x.1) && (backToKw cpos<|keywordEach [] X.env).all (λx=>x.1.isSome)
   && decide ((e::es).length+([]:List Keyword).length+(if ([]:List Keyword).isEmpty then 0 else 1)<30))=true)<|>ι)
  (hline:(apos.endLine == cpos.line)=true<|>ι) (hs:starEach (e::es) X.env=(false,eval e X.env)::starEach es X.env<|>ι) (hplain:((backTo cpos<|starEach es X.env).any (·.1)=false)<|>ι) :
  AE X (.Call (.Attribute o name apos) (e::es) [] cpos) (eMe f co d):=PE.imp (Ss PySem.F.plainAttrs_list slot hty hm ho ha hbase hfew hline hs hplain) λσ H Q h9=>by
 z_go;refine⟨ρ,S,τ,R,r,jX (j4 h) .refl λx S1 h1 ρ1 H1 v e1 R1 v1=>?_⟩;obtain⟨xs,c,h1⟩:=j5 h1;refine⟨lst?_ty R1 v1 c,ρ1,S1,τ,R1,r.ext e1,jX (j4 h1) e1 λas S2 h2 ρ2 H2 g e2 R2 v2=>?_⟩;exact⟨ρ2,S2,x,as,R2,v1.ext e2,v2,jX h2 (e1.trans e2) λ_ _ z=>z.ext (e1.trans e2)⟩
abbrev ya (o:A)(as:ae)(S:jV):R A:=match o,as with
 | .ref n,[x]=>opt (jU S n) λxs=>gd (xs.length<sizeLine) (.ok .non<|S.set n<|.lst<|xs++[x])
 | _,_=>.no
def Bs:Xu X "list.append" (rM X ya):=λpins s σ H x k v us Q I rx j h9=>by
 obtain⟨ρ,S,o,as,R,f,va,h⟩:=h9
 cases f with
 | @ref p n c=>
  match as,va,h with
  | [],_,h=>exact h.elim
  | _::_::_,_,h=>exact h.elim
  | [y],va,h=>
   obtain⟨w,rfl,hw⟩:=WC va;kcj_m;obtain⟨d,h⟩:=kF h;obtain⟨e,h1,r⟩:=R.lst c<|kg hn;obtain⟨ex,g⟩:=R.put c (kg hn)<|r.append<|.one hw;exact Di pins s σ H _ _ v us Q I rx j ⟨p,e,w,rfl,rfl,h1,by rw[<- r.length];exact d,h _ _ _ ex g .non⟩
 | _=>exact h.elim
abbrev JT (o:A)(as:ae)(S:jV):R A:=match o,as with
 | .ref n,[.int i]=>opt (jU S n) λxs=>gd (-(2 ^ 63)<=i/\i<2 ^ 63) (opt (seqIndex? i xs.length) λk=>opt (xs[k]?) λx=>.ok x<|S.set n<|.lst<|xs.eraseIdx k)
 | _,_=>.no
def Wx:Xu X "list.pop" (rM X JT):=λpins s σ H x q v us Q I rx m h9=>by
 obtain⟨ρ,S,o,as,R,g,va,h⟩:=h9
 cases g with
 | @ref p n c=>
  match as,va,h with
  | [],_,h=>exact h.elim
  | y::_::_,_,h=>exact(by cases y<;>exact h.elim)
  | [y],va,h=>
   obtain⟨w,rfl,hw⟩:=WC va
   cases hw with
   | int i=>
    kcj_m;obtain⟨hi,h⟩:=kF h;obtain⟨k,d,h⟩:=j5 h;obtain⟨y,f,h⟩:=j5 h;obtain⟨e,h1,r⟩:=R.lst c<|kg hn;obtain⟨w,hw,vw⟩:=r.get f;obtain⟨ex,j⟩:=R.put c (kg hn)<|r.eraseIdx k;exact Rp pins s σ H _ _ v us Q I rx m ⟨p,e,i,k,w,rfl,rfl,h1,hi.1,hi.2,by rw[<- r.length];exact d,hw,h _ _ _ ex j<|vw.ext ex⟩
   | _=>exact h.elim
 | _=>exact h.elim
end
abbrev lB (N:ba)(m:Sm)(as:ae)(S:jV):R A:=match m (as++List.replicate (N.length-as.length) .unb) S with
 | .rt a d=>.ok a d
 | .nx _ d=>.ok .non d
 | .ex c d=>.ex c d
 | _=>.no
abbrev qP (K:au)(n:Nat)(F:ae->jV->R A):Sp:=λd H Q _=>d.length=n/\∃ρ S as a c,Rel K ρ H S/\AVs K ρ H as d/\F as S=.ok a c/\∀ρ' H' v,Ext ρ ρ' H H'->Rel K ρ' H' c->AV K ρ' H' a v->Q v H'
def Xa{K:au}{H:Hp}{as:ae}(r:AVs K ρ H as vs)(N:ba):SR K ρ H (as++List.replicate (N.length-as.length) .unb) (L2.start N vs):=by
 have d:=r.length;refine⟨by unfold L2.start;simp[d],λi a h=>?_⟩;by_cases hi:i<as.length
 ·rw[bF hi]at h;obtain⟨v,hv,c⟩:=r.get h;exact .inr ⟨v,by unfold L2.start;rw[bF<|by simp;lia,aX,hv];rfl,c⟩
 ·rw[c6 (),gY]at h;split at h
  ·exact .inl (aZ h).symm
  ·cases h
section
variable {P:aj}{w:ah}{K:au}{mg:Str->bi}{base:aq}
def u7{x:Str}{st:aF}{f:ak}{N ps:ba}{k:Nat}{m:Sm}(F:Fun K x qual st f fd)(Sc:FnScope N ps<|j9 st)
  (body:∀(cdv:af) (A:aA) (outer:List Env) (s:aC) (H:Hp) (E:XK),Room k (A.deeper<|envOfC qual (j9 st) s.heap.objs.size f cdv)->UR (I_ qi P w K mg base N qual (j9 st) f cdv A outer s H E).nox (sD st) m) :
  FnOk P w K mg base qi (k+1) f fd ps (qP K ps.length<|lB N m):=by
 refine F.ok Sc (λp H Q E h=>h.1) λcdv B outer s H p Q E j ⟨J,ρ,S,as,a,L,R,va,d,q⟩=>⟨_,body cdv B outer s H E j,ρ,S,_,R,Xa va N,?_⟩;unfold lB at d
 cases g:m (as++List.replicate (N.length-as.length) .unb) S with
 | rt b S2=>rw[g]at d;cases d;exact q
 | nx τ S2=>rw[g]at d;cases d;exact λρ' H' C e G _=>q ρ' H' _ e G .non
 | bk τ S2=>rw[g]at d;cases d
 | ct τ S2=>rw[g]at d;cases d
 | ex c S2=>rw[g]at d;cases d
 | no=>rw[g]at d;cases d
end
meta abbrev ng (P:aj)(w:ah)(K:au)(mg:Str->bi)(base:aq)(k:Nat)(x:Str)(ps:ba)(F:ae->jV->R A):Prop:=Kn P w K mg base k x ps<|qP K ps.length F
abbrev eFn (F:ae->jV->R A)(d:tH):Ex:=λτ S=>(d τ S).bind λas S1=>match F as S1 with
 | .ok a S2=>.ok a S2
 | _=>.no
section
variable {X:Cx}{pos p:Pos}{e:aE}{es:List aE}{x:Str}{ps:ba}{k:Nat}{F:ae->jV->R A}{d:tH}
def pB(G:ng X.prog X.w X.K X.mg X.base k x ps F)(hr:Room k X.A)(ha:AL X (e::es) d)(hl:∀τ S as S',d τ S=.ok as S'->as.length=ps.length)(hg:Gl X x<|>ι)(hdb:(x == ("__debug__" : Str))=false<|>θ)
  (hs:starEach (e::es) X.env=(false,eval e X.env)::starEach es X.env<|>ι) (hplain:((backTo pos<|starEach es X.env).any (·.1)=false)<|>ι):AE X (.Call (.Name x p) (e::es) [] pos) (eFn F d):=
 PE.imp (abh G hr ha hg hdb hs hplain) λσ H Q h9=>by
  z_go;refine⟨ρ,S,τ,R,r,?_⟩;have f:=j4 h
  cases g:d τ S with
  | no=>rw[g]at f;exact f
  | ex c S1=>rw[g]at f;exact f
  | ok as S1=>
   rw[g]at f;intro ρ1 H1 m e1 R1 v1;rw[cZ];refine⟨by rw[<- v1.length];exact hl τ S as S1 g,ρ1,S1,as,?_⟩;have f:Am.R.post (match F as S1 with
    | .ok a S2=>.ok a S2
    | _=>.no) (CG X ρ H Q) (XE X ρ H):=f
   cases j:F as S1 with
   | ok a S2=>rw[j]at f;exact⟨a,S2,R1,v1,rfl,λρ2 H2 v e2=>f ρ2 H2 v<|e1.trans e2⟩
   | ex c S2=>rw[j]at f;exact f.elim
   | no=>rw[j]at f;exact f.elim
def lI:∀τ S as S',j6 τ S=.ok as S'->as.length=0:=λτ S as S' h=>by cases h;rfl
def kc{c:Ex}{d:tH}{n:Nat}(h:∀τ S as S',d τ S=.ok as S'->as.length=n):∀τ S as S',jR c d τ S=.ok as S'->as.length=n+1:=λτ S as S' e=>by
 unfold jR at e
 cases hc:c τ S with
 | ok a S1=>
  rw[hc]at e
  cases f:d τ S1 with
  | ok bs S2=>
   have e:R.bind (d τ S1) (λas S2=>.ok (a::as) S2)=.ok as S':=e;rw[f]at e;cases e;rw[bu,h τ S1 bs _ f]
  | ex _ _=>
   have e:R.bind (d τ S1) (λas S2=>.ok (a::as) S2)=.ok as S':=e;rw[f]at e;cases e
  | no=>
   have e:R.bind (d τ S1) (λas S2=>.ok (a::as) S2)=.ok as S':=e;rw[f]at e;cases e
 | ex _ _=>rw[hc]at e;cases e
 | no=>rw[hc]at e;cases e
end
section
variable {X:Cx}{pos:Pos}{a b c:aE}
abbrev kCh (f':A->A->jV->R A)(cc:Ex)(τ:ae)(b k:A)(S:jV):R A:=match k with
 | .bl true=>(cc τ S).bind λc d=>f' b c d
 | .bl false=>.ok (.bl false) S
 | _=>.no
abbrev Ux (f f':A->A->jV->R A)(ca cb cc:Ex):Ex:=λτ S=>(ca τ S).bind λa S1=>(cb τ S1).bind λb S2=>(f a b S2).bind λk S3=>kCh f' cc τ b k S3
def P7{f f':A->A->jV->R A}{ca cb cc:Ex}{H:Hp}{Q:VK}(h:tE X (Ux f f' ca cb cc) σ H Q):Iu (r2 X f) (r2 X f') (tE X ca) (tE X cb) (tE X cc) σ H Q:=by
 obtain⟨ρ,S,τ,R,r,h⟩:=h;refine⟨ρ,S,τ,R,r,jX (j4 h) .refl λa S1 h1 ρ1 H1 x e1 R1 v1=>⟨ρ1,S1,τ,R1,r.ext e1,jX (j4 h1) e1 λb S2 h2 ρ2 H2 y e2 R2 v2=>?_⟩⟩;have e:=e1.trans e2;refine⟨ρ2,S2,a,b,R2,v1.ext e2,v2,jX (j4 h2) e λk S3 h3 ρ3 H3 z e3 R3 p=>?_⟩;have d:=e.trans e3
 cases k with
 | bl k=>
  cases DO p
  refine⟨k,rfl,?_⟩
  cases k with
  | true=>
   rw[aM rfl];exact⟨ρ3,S3,τ,R3,r.ext d,jX (j4 h3) d λc B C j G w g m F=>⟨j,B,b,c,m,v2.ext<|e3.trans g,F,jX C (d.trans g) λ_ _ q=>q.ext<|d.trans g⟩⟩
  | false=>
   rw[aJ bR];exact h3 ρ3 H3 _ d R3<|.bl false
 | _=>exact h3.elim
def acT{f f':A->A->jV->R A}{ca cb cc:Ex}(ho:pH X (compareOp op)<|r2 X f)(ho':pH X (compareOp op')<|r2 X f')(ha:AE X a ca)(hb:AE X b cb)(hc:AE X c cc)(hm:lastMarks [op,op'] [b,c]=false<|>ξ) :
  AE X (.Compare a [op,op'] [b,c] pos) (Ux f f' ca cb cc):=PE.imp (Qy ho ho' ha hb hc hm) λ_ _ _ h=>P7 h
def acD{f f':A->A->jV->R A}{ca cb cc:Ex}(ho:pH X (compareOp op)<|r2 X f)(ho':pH X (compareOp op')<|r2 X f')(ha:AE X a ca)(hb:AE X b cb)(hc:AE X c cc)(hm:lastMarks [op,op'] [b,c]=false<|>ξ) :
  AT X (.Compare a [op,op'] [b,c] pos) (vX<|Ux f f' ca cb cc):=PT.imp (O1 ho ho' ha hb hc hm) λσ H Q h9=>by
 z_go;refine P7 ⟨ρ,S,τ,R,r,jX (j4 h) .refl λc S1 h1 ρ1 H1 x e1 R1 v1=>?_⟩
 cases c with
 | bl k=>cases DO v1;exact⟨k,rfl,h1 ρ1 H1 e1 R1⟩
 | _=>exact h1.elim
abbrev inA (S:jV)(x:A):ae->bn
 | []=>some false
 | z::zs=>(xV S 12 z x).bind λp=>(inA S x zs).map λq=>p || q
abbrev aIn (neg:Bool)(x y:A)(S:jV):R A:=opt (y.seq S) λys=>opt (inA S x ys) λb=>.ok (.bl<|if neg then !b else b) S
def J9{H:Hp}{x:A}{v:af}(I:Inv X pins σ H s)(R:Rel X.K ρ H S)(hu:X.A.units+64<cLine)(hx:AV X.K ρ H x vx)(rx:RelV vx v) :
  ∀{ys:ae} {us:List V} {its:bb} {b:Bool},AVs X.K ρ H ys us->Vals us its->inA S x ys=some b->∃e:af->Bool,(∀w∈its,SeqAt.EqAt X.A.in1 s w v<|e w)/\its.any e=b:=by
 intro ys
 induction ys with
 | nil=>
  intro us its b h1 h2 h
  cases h1
  cases h2
  exact⟨λ_=>false,(λw hw=>by cases hw),aZ h⟩
 | cons z zs k=>
  intro us its b h1 h2 h
  cases h1 with
  | cons J B=>
   rename_i u us
   cases h2 with
   | cons r L=>
    rename_i f its
    classical
    obtain⟨p,F,h⟩:=ck.mp h;obtain⟨q,G,h⟩:=bg.mp h;obtain⟨e,g,m⟩:=k B L G;have h0:=(MU I R 12 X.A.in1 z x u vx f v p (by rw[in1_units];omega) J hx r rx F).2.1;subst h
    cases p with
    | true=>
     refine⟨λw=>if w=f then true else e w,λw hw=>?_,?_⟩
     ·by_cases d:w=f
      ·dsimp[d,cK];exact h0
      ·dsimp[d,bU]
       rcases bB.mp hw with z|z
       ·exact absurd z d
       ·exact g w z
     ·simp
    | false=>
     by_cases j:f∈its
     ·refine⟨e,λw hw=>?_,?_⟩
      ·rcases bB.mp hw with z|z
       ·rw[z];exact g f j
       ·exact g w z
      ·rw[gc,m,gK]
       cases q with
       | true=>simp
       | false=>
        have:=List.any_eq_false.mp m f j;simpa using this
     ·refine⟨λw=>if w=f then false else e w,λw hw=>?_,?_⟩
      ·by_cases d:w=f
       ·dsimp[d,cK];exact h0
       ·dsimp[d,bU]
        rcases bB.mp hw with z|z
        ·exact absurd z d
        ·exact g w z
      ·rw[gc,<- m];dsimp[cK,gK];have:∀l:bb,(∀w∈l,w≠f)->l.any (λw=>if w=f then false else e w)=l.any e:=λl C=>by
        induction l with
        | nil=>rfl
        | cons c l k=>rw[gc,gc,k λw hw=>C w<|aO _ hw,aJ<|C c<|aK ..]
       exact this its λw hw z=>j<|z ▸ hw
def abW(hu:X.A.units+64<cLine):pH X (compareOp .In) (r2 X<|aIn false):=λpins s σ H x y v u Q I rx ry h9=>by
 x_go;obtain⟨ys,q,h⟩:=j5 h;obtain⟨k,j,h⟩:=j5 h;obtain⟨p,us,rfl,hs,r⟩:=Zb R vb q
 cases ry
 rcases hs with hs|hs
 ·obtain⟨c,g,pl,m⟩:=I.list hs;obtain⟨e,f,d⟩:=J9 I R hu va rx r g j;refine SeqAt.in_listAt e pl.isList (λw hw=>f w<|by simpa using hw) ⟨.bl _,H,I,rfl,?_⟩;rw[show c.toArray.any e=c.any e by simp,d];exact h _ _ _ .refl R (.bl _)
 ·obtain⟨c,g,pl,m⟩:=I.tuple hs;obtain⟨e,f,d⟩:=J9 I R hu va rx r g j;refine SeqAt.in_tupleAt e pl (λw hw=>f w<|by simpa using hw) ⟨.bl _,H,I,rfl,?_⟩;rw[show c.toArray.any e=c.any e by simp,d];exact h _ _ _ .refl R<|.bl _
end
abbrev kK (S:jV)(n:Nat):Option (List<|ag×A):=match S[n]? with
 | some (.dct xs)=>some xs
 | _=>none
def pT{n:Nat}(h:kK S n=some xs):S[n]?=some (.dct xs):=by
 unfold kK at h;split at h
 ·rename_i e;cases h;exact e
 ·cases h
def yw{S:jV}{n:Nat}(h:S[n]?=some (.dct xs)):kK S n=some xs:=by
 unfold kK;rw[h]
abbrev mC (kvs:List<|ag×A)(k:ag):Option A:=(kvs.find? λkv=>decide<|kv.1=k).map (·.2)
abbrev putD (kvs:List<|ag×A)(k:ag)(v:A):List (ag×A):=
 if (mC kvs k).isSome=true then kvs.map (λkv=>if kv.1=k then(kv.1,v)else kv)else kvs++[(k,v)]
theorem Ef:∀{a b:ag},a.map (Sum.inl:Int->Key)=b.map Sum.inl->a=b
 | [],[],_=>rfl
 | [],_::_,e=>by simp at e
 | _::_,[],e=>by simp at e
 | x::xs,y::ys,e=>by
  rw[bL,bL]at e
  injection e with e1 e2
  injection e1 with e1
  rw[e1,Ef e2]
def Mm(ns:ag):(ns.map (Sum.inl:Int->Key)).map kV=ns.map V.int:=by rw[bK];rfl
section
variable {K:au}{ρ:bd}{H:Hp}
def Oq{p:ag×A}{r:List<|ag×A}{k:ag}(e:p.1=k):mC (p::r) k=some p.2:=by simp[mC,cC,e]
def NT{p:ag×A}{r:List<|ag×A}{k:ag}(e:¬p.1=k):mC (p::r) k=mC r k:=by simp[mC,cC,e]
theorem DV.look:∀{kvs:List<|ag×A}{ks:List<|List Key×V}(k:ag),DV K ρ H kvs ks->(mC kvs k).isSome=(rV ks<|k.map Sum.inl).isSome/\∀x,mC kvs k=some x->∃v,rV ks (k.map Sum.inl)=some v/\AV K ρ H x v
 | [],[],k,_=>⟨rfl,λx h=>nomatch h⟩
 | p::r,q::r',k,⟨⟨e,a⟩,t⟩=>by
  by_cases c:p.1=k
  ·have d:q.1=k.map Sum.inl:=by rw[e,c]
   rw[Oq c,vD d];exact⟨rfl,λx h=>by cases h;exact⟨_,rfl,a⟩⟩
  ·have d:¬q.1=k.map Sum.inl:=λz=>c<|Ef<|e.symm.trans z;rw[NT c,vn d];exact DV.look k t
theorem DV.repl{x:A}{v:V}(h:AV K ρ H x v)(k:ag):∀{kvs:List<|ag×A}{ks:List<|List Key×V},DV K ρ H kvs ks->DV K ρ H (kvs.map λkv=>if kv.1=k then(kv.1,x)else kv) (ks.map λkv=>if kv.1=k.map Sum.inl then(kv.1,v)else kv)
 | [],[],_=>trivial
 | p::r,q::r',⟨⟨e,a⟩,t⟩=>by
  refine⟨?_,DV.repl h k t⟩;dsimp only;by_cases c:p.1=k
  ·rw[aM c,aM<|by rw[e,c]];exact⟨e,h⟩
  ·rw[aJ c,aJ λz=>c<|Ef<|e.symm.trans z];exact⟨e,a⟩
theorem DV.snoc{x:A}{v:V}(h:AV K ρ H x v)(k:ag):∀{kvs:List<|ag×A}{ks:List<|List Key×V},DV K ρ H kvs ks->DV K ρ H (kvs++[(k,x)]) (ks++[(k.map Sum.inl,v)])
 | [],[],_=>⟨⟨rfl,h⟩,trivial⟩
 | p::r,q::r',⟨a,t⟩=>⟨a,DV.snoc h k t⟩
def DV.put{x:A}{v:V}(h:AV K ρ H x v)(k:ag){ks:List<|List Key×V}(d:DV K ρ H kvs ks):DV K ρ H (putD kvs k x) (putK ks (k.map Sum.inl) v):=by
 unfold putD putK;rw[yH,<- (d.look k).1];by_cases c:(mC kvs k).isSome=true
 ·rw[aM c,aM c];exact DV.repl h k d
 ·rw[aJ c,aJ c];exact DV.snoc h k d
def DV.length:∀{kvs:List<|ag×A}{ks:List<|List Key×V},DV K ρ H kvs ks->kvs.length=ks.length
 | [],[],_=>rfl
 | _::_,_::_,⟨_,t⟩=>dQ (·+1) t.length
def Rel.dct{n:Nat}{a:ak}(R:Rel K ρ H S)(ha:ρ[n]?=some a)(hS:S[n]?=some (.dct xs)):∃vs,H a=some (.dT vs)/\DV K ρ H xs vs:=R.at n a _ ha hS
def Rel.acq{S:jV}{p:ak}(R:Rel K ρ H S)(hp:H p=none)(r:DV K ρ H xs vs):Ext ρ (ρ++[p]) H (upd H p<|.dT vs)/\Rel K (ρ++[p]) (upd H p<|.dT vs) (S++[.dct xs])/\(ρ++[p])[S.length]?=some p:=by
 have ex:Ext ρ (ρ++[p]) H (upd H p<|.dT vs):=⟨⟨e_ _ _,λa u _ h=>by rw[j8<|ko h hp];exact h⟩,λa u h _=>by rw[j8<|ko h hp];exact h,λa h=>by
  rcases bG.mp h with z|z
  ·exact .inl z
  ·have e:a=p:=by simpa using z
   rw[e];exact .inr hp⟩
 have f:p∉ρ:=R.MZ hp;have c:(ρ++[p])[S.length]?=some p:=by rw[<- R.len];simp
 refine⟨ex,⟨by simp[R.len],?_,?_⟩,c⟩
 ·rw[c8];refine⟨R.nd,by simp,λa k b m e=>?_⟩;have:b=p:=by simpa using m
  exact f<|by rw[<- this,<- e];exact k
 ·intro n a o h1 h2;by_cases hn:n<S.length
  ·rw[bF<|by rw[R.len];exact hn]at h1;rw[bF hn]at h2;have na:a≠p:=λz=>f (by rw[<- z];exact aY h1);have:=R.at n a o h1 h2
   cases o with
   | lst ys=>obtain⟨d,e,q⟩:=this;exact⟨d,by rw[j8 na];exact e,q.ext ex⟩
   | dct _|pZ _|u9 _=>obtain⟨d,e,q⟩:=this;exact⟨d,by rw[j8 na];exact e,q.ext ex⟩
   | ins _ _=>obtain⟨g,j,e⟩:=this;exact⟨g,j,by rw[j8 na];exact e⟩
  ·have e:n=S.length:=by
    have:=(aN.mp h2).1;simp at this;omega
   subst e;rw[c]at h1
   cases h1
   simp at h2;subst h2;exact⟨vs,lE,r.ext ex⟩
def Rel.putD{S:jV}{n:Nat}{a:ak}(R:Rel K ρ H S)(ha:ρ[n]?=some a)(hS:S[n]?=some (.dct xs))(r:DV K ρ H ys ws):Ext ρ ρ H (upd H a<|.dT ws)/\Rel K ρ (upd H a<|.dT ws) (S.set n<|.dct ys):=by
 obtain⟨k,e,_⟩:=R.at n a _ ha hS;have ex:Ext ρ ρ H (upd H a<|.dT ws):=⟨⟨eX _,λb u i h=>by
  have:b≠a:=by
   intro z;subst z;rw[e]at h;cases h;exact i
  rw[j8 this];exact h⟩,λb u h n=>by
  rw[j8 λz=>n<|by rw[z];exact aY ha];exact h,λ_ h=>.inl h⟩
 refine⟨ex,by rw[bW];exact R.len,R.nd,λm b o h1 h2=>?_⟩;by_cases f:m=n
 ·subst f;rw[ha]at h1;cases h1;rw[bJ (aN.mp hS).1]at h2
  cases h2
  exact⟨ws,lE,r.ext ex⟩
 ·rw[bP<|c9 f]at h2;have nb:b≠a:=λz=>by
   subst z;obtain⟨B,e1⟩:=aN.mp ha;obtain⟨p,e2⟩:=aN.mp h1;exact f<|(dB R.nd).mp<|e2.trans e1.symm
  have:=R.at m b o h1 h2
  cases o with
  | lst ys=>obtain⟨c,d,q⟩:=this;exact⟨c,by rw[j8 nb];exact d,q.ext ex⟩
  | dct _|pZ _|u9 _=>obtain⟨c,d,q⟩:=this;exact⟨c,by rw[j8 nb];exact d,q.ext ex⟩
  | ins _ _=>obtain⟨g,j,d⟩:=this;exact⟨g,j,by rw[j8 nb];exact d⟩
end
section
variable {X:Cx}{pos:Pos}{a b:aE}
def EW{H:Hp}{p q:ak}{n:Nat}{ns:ag}(R:Rel X.K ρ H S)(hp:ρ[n]?=some p)(hn:kK S n=some kvs)(hq:H q=some (.tup vs))(r:AVs X.K ρ H xs vs)(hi:A.ints xs=some ns) :
  ∃ks,H p=some (.dT ks)/\DV X.K ρ H kvs ks/\H q=some (.tup<|(ns.map (Sum.inl:Int->Key)).map kV)/\xF H p (.ref q) (rV ks<|ns.map Sum.inl):=by
 obtain⟨ks,e,d⟩:=R.dct hp<|pT hn;have z:=wD r hi;subst z;rw[<- Mm]at hq;exact⟨ks,e,d,hq,xF.t e hq⟩
abbrev CW (x y:A)(S:jV):R A:=match x,y with
 | .ref n,.tup xs=>opt (kK S n) λkvs=>opt (A.ints xs) λc=>opt (mC kvs c) λv=>.ok v S
 | _,_=>.no
def abk(hu:X.A.units+64<cLine):UD X (r2 X CW):=λvalue slice pins s σ H x y v u Q I rx ry ⟨ρ,S,a,b,R,va,vb,h⟩ hs=>by
 cases va with
 | @ref p n f=>
  cases vb with
  | @tup q xs C j r=>
   kl_no;obtain⟨m,hi,h⟩:=j5 h;obtain⟨z,k,h⟩:=j5 h;obtain⟨ks,e,d,c,g⟩:=EW R f hn j r hi;obtain⟨w,hw,B⟩:=(d.look m).2 z k;rw[hw]at g;exact Lp (by omega) value slice pins s σ H _ _ v u Q I rx ry ⟨p,w,rfl,g,h _ _ _ .refl R B⟩ hs
  | _=>exact h.elim
 | _=>exact h.elim
def Ij(hu:X.A.units+64<cLine){ca cb:Ex}(ha:AE X a ca)(hb:AE X b cb)(hs:yF b<|>ο):AE X (.Subscript a b pos) (j7 CW ca cb):=PE.imp (KL (abk hu) ha hb hs) λσ H Q h=>uI h
abbrev Ve (neg:Bool)(x y:A)(S:jV):R A:=match x,y with
 | .tup xs,.ref n=>opt (kK S n) λkvs=>opt (A.ints xs) λc=>.ok (.bl<|if neg then !(mC kvs c).isSome else(mC kvs c).isSome) S
 | _,_=>.no
def Sk(hu:X.A.units+64<cLine):pH X (compareOp .NotIn) (r2 X<|Ve true):=λpins s σ H x y v u Q I rx ry h9=>by
 x_go
 cases va with
 | @tup q xs m k r=>
  cases vb with
  | @ref p n j=>
   kl_no;obtain⟨c,hi,h⟩:=j5 h;obtain⟨ks,e,d,f,g⟩:=EW R j hn k r hi;exact Oe (by omega) pins s σ H _ _ v u Q I rx ry ⟨p,_,rfl,g,by rw[<- (d.look c).1];exact h _ _ _ .refl R<|.bl _⟩
  | _=>exact h.elim
 | _=>exact h.elim
abbrev Gz (o i v:A)(S:jV):R Unit:=match o,i with
 | .ref n,.tup xs=>opt (kK S n) λkvs=>opt (A.ints xs) λc=>gd (kvs.length<sizeLine) (.ok Unit.unit<|S.set n<|.dct<|putD kvs c v)
 | _,_=>.no
abbrev ad8 (X:Cx):Fo:=λo i v H Q=>∃ρ S e d c,Rel X.K ρ H S/\AV X.K ρ H e o/\AV X.K ρ H d i/\AV X.K ρ H c v/\(Gz e d c S).post (λ_ f=>∀ρ' H',Ext ρ ρ' H H'->Rel X.K ρ' H' f->Q H') (XE X ρ H)
def V8(hu:X.A.units+64<cLine):EA X (ad8 X):=λpins s σ H o i v ov iv u Q I B j G h9=>by
 obtain⟨ρ,S,M,K,J,R,h1,h2,h3,h⟩:=h9
 cases h1 with
 | @ref p n f=>
  cases h2 with
  | @tup q xs L m r=>
   kl_no;obtain⟨C,hi,h⟩:=j5 h;obtain⟨k,h⟩:=kF h;obtain⟨ks,e,d,c,g⟩:=EW R f hn m r hi;obtain⟨ex,F⟩:=R.putD f (pT hn)<|d.put h3 C;exact set_dict () pins s σ H _ _ v ov iv u Q I B j G ⟨p,_,rfl,F0.t e c<|by rw[<- d.length];exact k,h _ _ ex F⟩
  | _=>exact h.elim
 | _=>exact h.elim
abbrev T7 (co ci:Ex):Tg:=λa τ S=>(co τ S).bind λo S1=>(ci τ S1).bind λi S2=>(Gz o i a S2).bind λ_ S3=>.ok τ S3
def Ea(hu:X.A.units+64<cLine){co ci:Ex}(ho:AE X o co)(hi:AE X i ci)
  (ha:(∀v,assign (.Subscript o i pos) X.env v=(do
   let ov <- holding [v] (eval o X.env)
   let iv <- holding [v,ov] (eval i X.env)
   standAt pos
   holding [v,ov,iv] (setItem ov iv v)
   release [v,ov,iv] []))<|>ν):AG X (.Subscript o i pos) (T7 co ci):=PG.imp (EC ho hi (V8 hu) ha) λv σ H Q h9=>by
 obtain⟨ρ,S,τ,a,R,r,va,h⟩:=h9;refine⟨ρ,S,τ,R,r,jX (j4 h) .refl λo S1 h1 ρ1 H1 x e1 R1 v1=>⟨ρ1,S1,τ,R1,r.ext e1,jX (j4 h1) e1 λi S2 h2 ρ2 H2 y e2 R2 v2=>?_⟩⟩;refine⟨ρ2,S2,o,i,a,R2,v1.ext e2,v2,va.ext (e1.trans e2),jX (j4 h2) (e1.trans e2) λ_ S3 h3 ρ3 H3 e3 R3=>?_⟩;kpf_c
abbrev Cj:Ex:=λ_ S=>.ok (.ref S.length)<|S++[.dct []]
def yg:AE X (.Dict [] [] pos) Cj:=PE.imp Qo λσ H Q ⟨ρ,S,τ,R,r,h⟩ p d=>by
 obtain⟨ex,c,e⟩:=R.acq (xs:=[]) (vs:=[]) d trivial;exact h _ _ _ ex c<|.ref e
abbrev dct? (a:A)(S:jV):Option Unit:=match a with
 | .ref n=>(kK S n).map λ_=>Unit.unit
 | _=>none
abbrev Rw (f:A->ae->jV->R A)(co:Ex)(d:tH):Ex:=λτ S=>(co τ S).bind λx S1=>opt (dct? x S1) λ_=>(d τ S1).bind λas S2=>f x as S2
def dct?_ty{K:au}{H:Hp}{x:A}{v:V}(R:Rel K ρ H S)(a:AV K ρ H x v)(e:dct? x S=some u):tyV K "dict" v H:=by
 cases a with
 | @ref p n h=>
  obtain⟨xs,c,_⟩:=bg.mp e;obtain⟨d,h1,_⟩:=R.dct h<|pT c;exact .inr<|.inr<|.inl ⟨rfl,.inr ⟨d,h1⟩⟩
 | _=>cases e
def OT{e:aE}{id:String}{apos cpos:Pos}{f:A->ae->jV->R A}{co:Ex}{d:tH}(slot:Slot "dict" name id)(hty:typeOf (.builtin id)=pure (.type "method_descriptor"))(hm:Xu X id<|rM X f)(ho:AE X o co)(ha:AL X (e::es) d)
  (hbase:attributeBase o name X.env (eval o X.env)=eval o X.env<|>ι)
  (hfew:(((backTo cpos<|starEach (e::es) X.env).all (λx=>!x.1) && (backToKw cpos<|keywordEach [] X.env).all (λx=>x.1.isSome)
   && decide ((e::es).length+([]:List Keyword).length+(if ([]:List Keyword).isEmpty then 0 else 1)<30))=true)<|>ι)
  (hline:(apos.endLine == cpos.line)=true<|>ι) (hs:starEach (e::es) X.env=(false,eval e X.env)::starEach es X.env<|>ι) (hplain:((backTo cpos<|starEach es X.env).any (·.1)=false)<|>ι) :
  AE X (.Call (.Attribute o name apos) (e::es) [] cpos) (Rw f co d):=PE.imp (Ss PySem.F.plainAttrs_dict slot hty hm ho ha hbase hfew hline hs hplain) λσ H Q h9=>by
 z_go;refine⟨ρ,S,τ,R,r,jX (j4 h) .refl λx S1 h1 ρ1 H1 v e1 R1 v1=>?_⟩;obtain⟨xs,c,h1⟩:=j5 h1;refine⟨dct?_ty R1 v1 c,ρ1,S1,τ,R1,r.ext e1,jX (j4 h1) e1 λas S2 h2 ρ2 H2 g e2 R2 v2=>?_⟩;exact⟨ρ2,S2,x,as,R2,v1.ext e2,v2,jX h2 (e1.trans e2) λ_ _ z=>z.ext (e1.trans e2)⟩
abbrev Rg (o:A)(as:ae)(S:jV):R A:=match o,as with
 | .ref n,[.tup xs,y]=>opt (kK S n) λkvs=>opt (A.ints xs) λk=>.ok ((mC kvs k).getD y) S
 | _,_=>.no
def X8(hu:X.A.units+64<cLine):Xu X "dict.get" (rM X Rg):=λpins s σ H x M v us Q I rx J h9=>by
 obtain⟨ρ,S,o,as,R,F,va,h⟩:=h9
 cases F with
 | @ref p n f=>
  match as,va,h with
  | [],_,h=>exact h.elim
  | [z],_,h=>exact(by cases z<;>exact h.elim)
  | z::_::_::_,_,h=>exact(by cases z<;>exact h.elim)
  | [z,y],va,h=>
   obtain⟨N,j,rfl,k,C⟩:=VV va
   cases k with
   | @tup q xs L g B=>
    kl_no;obtain⟨c,hi,h⟩:=j5 h;have z:=wD B hi;subst z;obtain⟨ks,h1,e⟩:=R.dct f<|pT hn;refine Wl (by omega) pins s σ H _ _ v us Q I rx J ⟨p,q,c.map Sum.inl,ks,j,rfl,rfl,h1,by rw[Mm];exact g,h _ _ _ .refl R ?_⟩;obtain⟨d,m⟩:=e.look c
    cases e1:mC kvs c with
    | none=>
     rw[e1]at d
     cases e2:rV ks (c.map Sum.inl)with
     | none=>exact C
     | some _=>rw[e2]at d;cases d
    | some G=>
     obtain⟨v1,e2,K⟩:=m G e1;rw[e2];exact K
   | _=>exact h.elim
 | _=>exact h.elim
end
section
variable {X:Cx}{pos:Pos}{a tg:aE}
abbrev J2 (n k:Nat):Src:=⟨k,λi S=>(jU S n).bind λxs=>if i<k then xs[k-1-i]? else none,λ_=>true⟩
abbrev kRv (a:A)(S:jV):R Src:=match a with
 | .ref n=>opt (jU S n) λxs=>.ok (J2 n xs.length) S
 | _=>.no
abbrev iRv (c:Ex):Ic:=λτ S=>(c τ S).bind λa S1=>kRv a S1
def acX{K:au}{ρ0:bd}{H0:Hp}{p:ak}{n k:Nat}(hp:ρ0[n]?=some p):JR K (J2 n k) (Itv K p k) ρ0 H0 where
 go:=λi S H ρ x e R g=>by
  obtain⟨xs,hn,g⟩:=ck.mp g;by_cases hi:i<k
  ·rw[aM hi]at g;obtain⟨d,h1,r1⟩:=R.lst (e.get hp)<|kg hn;obtain⟨v,c,f⟩:=r1.get g;refine⟨⟨hi,d,v,qj.of h1,c⟩,λw H' z=>?_⟩;obtain⟨rfl,j⟩:=z;rw[j d v (qj.of h1) c];exact⟨.refl,R,f⟩
  ·rw[aJ hi]at g;cases g
 stop:=λS H ρ e R hf=>aP _
def aaG{p:Pos}{c:Ex}(hm:X.mg "reversed" = none)(ha:AE X a c)(hg:Gl X "reversed"<|>ι)(hs:starEach [a] X.env=[(false,eval a X.env)]<|>ι):AI X tg (.Call (.Name "reversed" p) [a] [] pos) (iRv c):=λpins s σ H Q I h9=>by
 z_go;refine aa5 hg hm (qk ha xN hs) hs pins s σ H Q I ⟨ρ,S,τ,R,r,jX (j4 h) .refl λx S1 h1 ρ1 H1 v e1 R1 v1=>?_⟩
 cases v1 with
 | @ref p n d=>
  obtain⟨xs,hn,h1⟩:=j5 h1;obtain⟨f,e,r1⟩:=R1.lst d<|kg hn;exact⟨_,f,rfl,qj.of e,h1 ρ1 H1 _ e1 R1<|by rw[<- r1.length];exact acX d⟩
 | _=>exact h1.elim
def ZC{c:Ex}{n:Nat}{xs:ae}(h:c τ S=.ok (.ref n) S1)(hn:jU S1 n=some xs):iRv c τ S=.ok (J2 n xs.length) S1:=by
 unfold iRv;rw[h];show opt (jU S1 n) _=_;rw[hn];rfl
end
abbrev aeG (F:ae->jV->R A)(d:tH):Ex:=λτ S=>(d τ S).bind λas S1=>F as S1
abbrev bmV:bb:=[.type "ValueError",.type "Exception",.type "BaseException",.type "object"]
abbrev UL:List (Str ⊕ Ex)->ae->jV->R Unit
 | [],_,S=>.ok Unit.unit S
 | .inl _::ps,τ,S=>UL ps τ S
 | .inr e::ps,τ,S=>(e τ S).bind λv S1=>match v with
  | .int i=>gd (i.natAbs.log2<64) (UL ps τ S1)
  | _=>.no
abbrev Z0 (c:Str)(ps:List<|Str ⊕ Ex):Sm:=λτ S=>.of (UL ps τ S) λ_ S1=>.ex c S1
abbrev Xv (i:Nat):RS->RS
 | .nx τ S=>.nx (τ.set i .unb) S
 | .bk τ S=>.bk (τ.set i .unb) S
 | .ct τ S=>.ct (τ.set i .unb) S
 | .rt a S=>.rt a S
 | _=>.no
abbrev ab7 (i n:Nat)(cs:ba)(c d:Sm):Sm:=λτ S=>match c τ S with
 | .ex x S1=>if x∈cs then Xv i (d ((List.replicate n .unb).set i<|.exn x) S1)else .no
 | r=>r
abbrev aeA (f:Str->bn)(c:Ex):Ex:=λτ S=>(c τ S).bind λv S1=>match v with
 | .exn x=>opt (f x) λb=>.ok (.bl b) S1
 | _=>.no
structure ExcK (K:au)(U:ak)(c:Str)(C:ak):Prop where
 n:ClN K c C
 q:PySem.W.excIn K C bmV "ValueError.__new__" = true
 r:L2.mroIn K C=some (.ref U::bmV)
 x:XCls K C
 cl:(PySem.W.clsIn K C).isSome=true
 v:PySem.W.kitOne K (.ref C) (.type "ValueError")=some true
abbrev tbX (tb:List<|Str×Bool):Str->bn:=λx=>tb.lookup x
abbrev abv (F:ae->jV->R A)(d:tH):Ex:=λτ S=>match d τ S with
 | .ok as S1=>F as S1
 | _=>.no
section
variable {d:tH}
abbrev ac2 (t:Te)(c d:Sm):Sm:=λτ S=>match t τ S with
 | .ok true S1=>c τ S1
 | .ok false S1=>d τ S1
 | _=>.no
end
abbrev XH (i:Nat)(cs:ba)(c d:Sm):Sm:=λτ S=>match c τ S with
 | .ex x S1=>if x∈cs then Xv i (d (τ.set i<|.exn x) S1)else .no
 | r=>r
abbrev sNo:Sm:=λ_ _=>.no
def QS{X:Cx}{st:aF}:AS X st sNo:=PS.imp Th λD σ H ⟨ρ,S,τ,R,r,h⟩=>h.elim
def Od{K:au}{H:Hp}{a:ak}{ns:ag}{F:ae->jV->R A}(hO:WT H)(hS:qj K H a<|ns.map V.int)(h:∃S',F [.frz<|ns.map .int] []=.ok (.bl true) S'):qP K 1 F [.ref a] H (λv _=>v=.bl true) λ_ _ _=>False:=by
 obtain⟨S',h⟩:=h;have fz:Fz K H a (ns.map V.int):=by
  rcases hS with(h|⟨o,h⟩)|h
  ·rcases hO a with z|⟨c,xs,z⟩
   ·rw[h]at z;cases z
   ·rw[h]at z;cases z
  ·exact .inl ⟨o,h⟩
  ·exact .inr h
 exact⟨rfl,[],[],_,_,S',⟨rfl,dR,λn a o h=>by simp at h⟩,.cons (.frz fz<|um ns) .nil,h,λρ' H' v _ _ hv=>DO hv⟩
section
variable {P:aj}{w:ah}{K:au}{mg:Str->bi}{base:aq}{f:ak}{fd:FuncData}{ps:ba}{k n:Nat}
def QA(h:n=ps.length):FnOk P w K mg base qi k f fd ps (qP K n λ_ _=>.no):=
 ⟨λ_ _ _ _ z=>z.1.trans h,λ_ _ _ _ _ _ _ _ _ _ _ _ _ z=>by obtain⟨_,_,_,_,_,_,_,_,e,_⟩:=z;cases e⟩
end
def NV{P:bb->Prop}(h:∀a0,P [a0]):∀us:bb,us.length=1->P us
 | [_],_=>h _
def CT{P:bb->Prop}(h:∀a0 a1,P [a0,a1]):∀us:bb,us.length=2->P us
 | [_,_],_=>h _ _
def HC{n:Nat}{us:bb}(h:us.length=n+1):∃a t,us=a::t/\t.length=n:=by
 cases us with
 | nil=>simp at h
 | cons a t=>exact⟨a,t,rfl,by simpa using h⟩
def us3{P:bb->Prop}(h:∀a0 a1 a2,P [a0,a1,a2]):∀us:bb,us.length=3->P us:=λus e=>by
 obtain⟨a0,t0,rfl,e0⟩:=HC e;obtain⟨a1,c,rfl,e1⟩:=HC e0;obtain⟨a2,d,rfl,e2⟩:=HC e1
 cases eL.mp e2
 exact h _ _ _
def us5{P:bb->Prop}(h:∀a0 a1 a2 a3 a4,P [a0,a1,a2,a3,a4]):∀us:bb,us.length=5->P us:=λus e=>by
 obtain⟨a0,t0,rfl,e0⟩:=HC e;obtain⟨a1,d,rfl,e1⟩:=HC e0;obtain⟨a2,f,rfl,e2⟩:=HC e1;obtain⟨a3,g,rfl,e3⟩:=HC e2;obtain⟨a4,j,rfl,c⟩:=HC e3
 cases eL.mp c
 exact h _ _ _ _ _
end Am
namespace Am
open PySem L2
section
variable {α β:Type}{a b:A}{S S1:jV}{τ:ae}{x:α}
@[simp]def R.nV {f:α->jV->R β}:(R.ok x S).bind f=f x S:=rfl
@[simp]def R.Mv {f:α->jV->R β}{c:Str}:(R.ex c S:R α).bind f=.ex c S:=rfl
@[simp]def R.o9 {f:α->jV->R β}:(R.ok x S).yz f=f x S:=rfl
@[simp]def RS.of_ok {f:α->jV->RS}:RS.of (R.ok x S) f=f x S:=rfl
@[simp]def RS.XW {f:α->jV->RS}{c:Str}:RS.of (R.ex c S:R α) f=.ex c S:=rfl
@[simp]def kD {f:β->R α}{y:β}:opt (some y) f=f y:=rfl
@[simp]def Ma {r:R α}:gd True r=r:=aM trivial
theorem m_{c:Prop}[Decidable c]{r:R α}(h:c):gd c r=r:=aM h
@[simp]def qS {i:Nat}:jS i τ S=bif (τ.getD i .unb).pY then .no else .ok (τ.getD i .unb) S:=by unfold jS;cases(τ.getD i .unb).pY<;>rfl
@[simp]def Kl {xs:ae}:A.pY (.tup xs)=false:=rfl
@[simp]def LA {xs:ae}:A.pY (.frz xs)=false:=rfl
@[simp]def MT {i:Int}:A.pY (.int i)=false:=rfl
@[simp]def Q9 {i:Bool}:A.pY (.bl i)=false:=rfl
@[simp]def Lm {i:Str}:A.pY (.str i)=false:=rfl
@[simp]def J3 {i:Nat}:A.pY (.ref i)=false:=rfl
@[simp]def Ld:A.pY .non=false:=rfl
@[simp]def MJ {i j:Int}:A.pY (.rng i j)=false:=rfl
@[simp]def Mf {c:Str}:A.pY (.exn c)=false:=rfl
@[simp]def XA:eC a τ S=.ok a S:=rfl
abbrev ab6 (f:A->A->jV->R A)(cb:Ex)(τ:ae)(a:A)(S:jV):R A:=(cb τ S).bind<|f a
@[simp]def Ky {f:A->A->jV->R A}{cb:Ex}:ab6 f cb τ a S=(cb τ S).bind (f a):=rfl
@[simp]def Ls {f:A->A->jV->R A}{ca cb:Ex}:j7 f ca cb τ S=(ca τ S).bind (ab6 f cb τ):=rfl
@[simp]def Uw {f:A->jV->R A}{ca:Ex}:N5 f ca τ S=(ca τ S).bind f:=rfl
@[simp]def My {c:Ex}:CN c τ S=(c τ S).bind λa S1=>opt (a.Xh S1) λb=>.ok b S1:=rfl
abbrev aB (a:A)(S:jV):R Bool:=match a with
 | .bl b=>.ok b S
 | _=>.no
@[simp]def MG {b:Bool}:aB (.bl b) S=.ok b S:=rfl
@[simp]def JI {c:Ex}:vX c τ S=(c τ S).bind aB:=rfl
@[simp]def KI {c:Te}:V4 c τ S=(c τ S).bind λb S1=>.ok (!b) S1:=rfl
abbrev YC (d:Te)(τ:ae)(b:Bool)(S:jV):R Bool:=match b with|true=>d τ S|false=>.ok false S
abbrev kOr (d:Te)(τ:ae)(b:Bool)(S:jV):R Bool:=match b with|true=>.ok true S|false=>d τ S
@[simp]def PV {d:Te}:YC d τ true S=d τ S:=rfl
@[simp]def Qn {d:Te}:YC d τ false S=.ok false S:=rfl
@[simp]def XD {d:Te}:kOr d τ true S=.ok true S:=rfl
@[simp]def XG {d:Te}:kOr d τ false S=d τ S:=rfl
@[simp]def LQ {c d:Te}:OJ c d τ S=(c τ S).bind (YC d τ):=rfl
@[simp]def QM {c d:Te}:bOr c d τ S=(c τ S).bind (kOr d τ):=rfl
@[simp]def LW:Np τ S=.ok true S:=rfl
abbrev Tr (d:Ex)(τ:ae)(a:A)(S:jV):R A:=match a with | .bl true=>d τ S | .bl false=>.ok (.bl false) S|_=>.no
abbrev aah (d:Ex)(τ:ae)(a:A)(S:jV):R A:=match a with | .bl true=>.ok (.bl true) S | .bl false=>d τ S|_=>.no
@[simp]def MV {d:Ex}:Tr d τ (.bl true) S=d τ S:=rfl
@[simp]def KY {d:Ex}:Tr d τ (.bl false) S=.ok (.bl false) S:=rfl
@[simp]def RI {d:Ex}:aah d τ (.bl true) S=.ok (.bl true) S:=rfl
@[simp]def Pf {d:Ex}:aah d τ (.bl false) S=d τ S:=rfl
@[simp]def LP {c d:Ex}:Ql c d τ S=(c τ S).bind (Tr d τ):=by
 unfold Ql
 cases c τ S with
 | ok a S1=>cases a<;>first|rfl|(rename_i b;cases b<;>rfl)
 | _=>rfl
@[simp]def S_ {c d:Ex}:eOr c d τ S=(c τ S).bind (aah d τ):=by
 unfold eOr
 cases c τ S with
 | ok a S1=>cases a<;>first|rfl|(rename_i b;cases b<;>rfl)
 | _=>rfl
abbrev Yg (a:A)(S:jV):R A:=match a with | .bl b=>.ok (.bl !b) S|_=>.no
@[simp]def F5 {b:Bool}:Yg (.bl b) S=.ok (.bl !b) S:=rfl
@[simp]def Kr {c:Ex}:aan c τ S=(c τ S).bind Yg:=rfl
abbrev YW (c d:Ex)(τ:ae)(b:Bool)(S:jV):R A:=match b with|true=>c τ S|false=>d τ S
@[simp]def SS {c d:Ex}:YW c d τ true S=c τ S:=rfl
@[simp]def QW {c d:Ex}:YW c d τ false S=d τ S:=rfl
@[simp]def Qk {t:Te}{c d:Ex}:eIf t c d τ S=(t τ S).bind (YW c d τ):=rfl
@[simp]def LV:j6 τ S=.ok [] S:=rfl
abbrev JM (a:A)(as:ae)(S:jV):R (ae):=.ok (a::as) S
abbrev XY (d:tH)(τ:ae)(a:A)(S:jV):R (ae):=(d τ S).bind<|JM a
@[simp]def DA {as:ae}:JM a as S=.ok (a::as) S:=rfl
@[simp]def GC {d:tH}:XY d τ a S=(d τ S).bind (JM a):=rfl
@[simp]def Hs {c:Ex}{d:tH}:jR c d τ S=(c τ S).bind (XY d τ):=rfl
@[simp]def Mc {d:tH}:qM d τ S=(d τ S).bind λas S1=>gd (as.length<=sizeLine) (.ok (.tup as) S1):=rfl
@[simp]def L_ {d:tH}:qN d τ S=(d τ S).bind newL:=rfl
theorem mT{as:ae}(h:as.length<=16777216):newL as S=.ok (.ref S.length) (S++[.lst as]):=m_<|by rw[dJ];exact h
@[simp]def Gu {f:ae->jV->R A}{d:tH}:kZ f d τ S=(d τ S).bind f:=rfl
abbrev okR (r:R A):R A:=match r with
 | .ok a S=>.ok a S
 | _=>.no
@[simp]def PF:okR (.ok a S)=.ok a S:=rfl
abbrev kFn (f:ae->jV->R A)(as:ae)(S:jV):R A:=okR<|f as S
@[simp]def QX {f:ae->jV->R A}{as:ae}:kFn f as S=okR (f as S):=rfl
@[simp]def Rx {f:ae->jV->R A}{d:tH}:eFn f d τ S=(d τ S).bind (kFn f):=rfl
@[simp]def Yc {g:A->jV->R A}:f1 g [a] S=g a S:=rfl
@[simp]def X0 {g:A->A->jV->R A}:f2 g [a,b] S=g a b S:=rfl
abbrev aao (h:Pt)(τ:ae)(a:A)(l:bj)(S:jV):R A:=(h τ S).bind<|Jt a l
abbrev kSl (l h:Pt)(τ:ae)(a:A)(S:jV):R A:=(l τ S).bind<|aao h τ a
@[simp]def K7 {h:Pt}{l:bj}:aao h τ a l S=(h τ S).bind (Jt a l):=rfl
@[simp]def Sv {l h:Pt}:kSl l h τ a S=(l τ S).bind (aao h τ a):=rfl
@[simp]def Pj {c:Ex}{l h:Pt}:Zg c l h τ S=(c τ S).bind (kSl l h τ):=rfl
@[simp]def Gm:LK τ S=.ok none S:=rfl
abbrev aPt (a:A)(S:jV):R (bj):=match a with
 | .int i=>.ok (some i) S
 | _=>.no
@[simp]def Mz {i:Int}:aPt (.int i) S=.ok (some i) S:=rfl
@[simp]def HD {c:Ex}:wY c τ S=(c τ S).bind aPt:=rfl
abbrev aaP (f:A->ae->jV->R A)(d:tH)(τ:ae)(o:A)(S:jV)(_:ae):R A:=(d τ S).bind<|f o
abbrev kMe (f:A->ae->jV->R A)(d:tH)(τ:ae)(o:A)(S:jV):R A:=opt (o.lst? S)<|aaP f d τ o S
@[simp]def KJ {f:A->ae->jV->R A}{d:tH}{xs:ae}:aaP f d τ a S xs=(d τ S).bind (f a):=rfl
@[simp]def SH {f:A->ae->jV->R A}{d:tH}:kMe f d τ a S=opt (a.lst? S) (aaP f d τ a S):=rfl
@[simp]def OF {f:A->ae->jV->R A}{c:Ex}{d:tH}:eMe f c d τ S=(c τ S).bind (kMe f d τ):=rfl
@[simp]def Kv {f:A->ae->jV->R A}{c:Ex}:ad1 f c τ S=(c τ S).bind λo S1=>opt (o.lst? S1) λ_=>f o [] S1:=rfl
@[simp]def lst?_ref {n:Nat}:A.lst? S (.ref n)=jU S n:=rfl
abbrev RS.seq (r:RS)(d:Sm):RS:=match r with
 | .nx τ S=>d τ S
 | r=>r
@[simp]def RS.Uj {d:Sm}:RS.seq (.nx τ S) d=d τ S:=rfl
@[simp]def RS.Q5 {d:Sm}:RS.seq (.rt a S) d=.rt a S:=rfl
@[simp]def RS.PU {d:Sm}{c:Str}:RS.seq (.ex c S) d=.ex c S:=rfl
@[simp]def RS.Ub {d:Sm}:RS.seq (.bk τ S) d=.bk τ S:=rfl
@[simp]def RS.PK {d:Sm}:RS.seq (.ct τ S) d=.ct τ S:=rfl
@[simp]def KC {c d:Sm}:kC c d τ S=RS.seq (c τ S) d:=by unfold kC RS.seq;cases c τ S<;>rfl
@[simp]def JY:qU τ S=.nx τ S:=rfl
@[simp]def Dr:aaI τ S=.bk τ S:=rfl
@[simp]def GI:acV τ S=.ct τ S:=rfl
@[simp]def HG {e:Ex}:pX e τ S=RS.of (e τ S) λ_ S1=>.nx τ S1:=rfl
@[simp]def JZ {e:Ex}:mw e τ S=RS.of (e τ S) .rt:=rfl
@[simp]def GQ:T_ τ S=.rt .non S:=rfl
abbrev kIf (c d:Sm)(τ:ae)(b:Bool)(S:jV):RS:=match b with|true=>c τ S|false=>d τ S
@[simp]def Yy {c d:Sm}:kIf c d τ true S=c τ S:=rfl
@[simp]def XZ {c d:Sm}:kIf c d τ false S=d τ S:=rfl
@[simp]def OS {t:Te}{c d:Sm}:yV t c d τ S=RS.of (t τ S) (kIf c d τ):=rfl
abbrev abF (g:Tg)(τ:ae)(a:A)(S:jV):RS:=RS.of (g a τ S) .nx
@[simp]def Ln {g:Tg}:abF g τ a S=RS.of (g a τ S) .nx:=rfl
@[simp]def Lf {e:Ex}{g:Tg}:kL e g τ S=RS.of (e τ S) (abF g τ):=rfl
@[simp]def aen {i:Nat}:kR i a τ S=.ok (τ.set i a) S:=rfl
abbrev aav (a o:A)(τ:ae)(i:A)(S:jV):R (ae):=(G9 o i a S).bind λ_ S3=>.ok τ S3
abbrev kSb (ci:Ex)(τ:ae)(a o:A)(S:jV):R (ae):=(ci τ S).bind<|aav a o τ
@[simp]def Lo {o i:A}:aav a o τ i S=(G9 o i a S).bind λ_ S3=>.ok τ S3:=rfl
@[simp]def TQ {ci:Ex}{o:A}:kSb ci τ a o S=(ci τ S).bind (aav a o τ):=rfl
@[simp]def Tv {co ci:Ex}:Zf co ci a τ S=(co τ S).bind (kSb ci τ a):=rfl
@[simp]def OC {n:Nat}{gs:UC}{xs:ae}:Ac n gs (.tup xs) τ S=gd (xs.length=n) (gs xs τ S):=rfl
@[simp]def Uy:Af [] τ S=.ok τ S:=rfl
@[simp]def Uh {g:Tg}{gs:UC}{as:ae}:qW g gs (a::as) τ S=(g a τ S).bind (gs as):=rfl
abbrev sPr (i j:Nat)(τ:ae)(as:ae)(S:jV):RS:=match as with
 | [a,b]=>.nx ((τ.set i a).set j b) S
 | _=>.no
@[simp]def Td {i j:Nat}:sPr i j τ [a,b] S=.nx ((τ.set i a).set j b) S:=rfl
@[simp]def LD {i j:Nat}{c:tH}:adJ i j c τ S=RS.of (c τ S) (sPr i j τ):=rfl
abbrev QK (i:Nat)(τ:ae)(c:A)(S:jV):RS:=.nx (τ.set i c) S
abbrev acu (i:Nat)(f:A->A->jV->R A)(τ:ae)(b:A)(S:jV):RS:=.of (f (τ.getD i .unb) b S)<|QK i τ
@[simp]def Gb {i:Nat}:QK i τ a S=.nx (τ.set i a) S:=rfl
@[simp]def Lc {i:Nat}{f:A->A->jV->R A}:acu i f τ a S=.of (f (τ.getD i .unb) a S) (QK i τ):=rfl
@[simp]def KO {i:Nat}{f:A->A->jV->R A}{e:Ex}:Ua i f e τ S=bif (τ.getD i .unb).pY then .no else .of (e τ S) (acu i f τ):=by
 unfold Ua;cases(τ.getD i .unb).pY<;>rfl
abbrev kS5 (o i:A)(τ:ae)(z:A)(S:jV):RS:=.of (G9 o i z S) λ_ c=>.nx τ c
abbrev kS4 (f:A->A->jV->R A)(o i x:A)(τ:ae)(y:A)(S:jV):RS:=.of (f x y S)<|kS5 o i τ
abbrev kS3 (ce:Ex)(f:A->A->jV->R A)(o i:A)(τ:ae)(x:A)(S:jV):RS:=.of (ce τ S)<|kS4 f o i x τ
abbrev kS2 (ce:Ex)(f:A->A->jV->R A)(o:A)(τ:ae)(i:A)(S:jV):RS:=.of (Ry o i S)<|kS3 ce f o i τ
abbrev kS1 (ci ce:Ex)(f:A->A->jV->R A)(τ:ae)(o:A)(S:jV):RS:=.of (ci τ S)<|kS2 ce f o τ
@[simp]def O5 {o i:A}:kS5 o i τ a S=.of (G9 o i a S) λ_ S6=>.nx τ S6:=rfl
@[simp]def QG {f:A->A->jV->R A}{o i x:A}:kS4 f o i x τ a S=.of (f x a S) (kS5 o i τ):=rfl
@[simp]def Uq {ce:Ex}{f:A->A->jV->R A}{o i:A}:kS3 ce f o i τ a S=.of (ce τ S) (kS4 f o i a τ):=rfl
@[simp]def Pb {ce:Ex}{f:A->A->jV->R A}{o:A}:kS2 ce f o τ a S=.of (Ry o a S) (kS3 ce f o a τ):=rfl
@[simp]def SA {ci ce:Ex}{f:A->A->jV->R A}:kS1 ci ce f τ a S=.of (ci τ S) (kS2 ce f a τ):=rfl
@[simp]def Hl {co ci ce:Ex}{f:A->A->jV->R A}:Ca co ci ce f τ S=RS.of (co τ S) (kS1 ci ce f τ):=rfl
abbrev RS.end (r:RS):R A:=match r with
 | .rt a d=>.ok a d
 | .nx _ d=>.ok .non d
 | .ex c d=>.ex c d
 | _=>.no
@[simp]def RS.Sl:RS.end (.rt a S)=.ok a S:=rfl
@[simp]def RS.O_:RS.end (.nx τ S)=.ok .non S:=rfl
@[simp]def RS.Uz {c:Str}:RS.end (.ex c S)=.ex c S:=rfl
theorem Aw {N:ba}{m:Sm}{as:ae}:lB N m as S=RS.end (m (as++List.replicate (N.length-as.length) .unb) S):=by
 unfold lB RS.end;cases m (as++List.replicate (N.length-as.length) .unb) S<;>rfl
@[simp]def TJ {i j:Int}:mF (.int i) (.int j) S=.ok (.int<|i+j) S:=rfl
@[simp]def Qp {i j:Int}:aSub (.int i) (.int j) S=.ok (.int<|i-j) S:=rfl
@[simp]def Qd {i j:Int}:Nl (.int i) (.int j) S=.ok (.int<|i+j) S:=rfl
theorem Mj{i j:Int}(h:-18446744073709551616<i)(h':i<18446744073709551616):za (.int i) (.int j) S=.ok (.int<|i * j) S:=m_<|by unfold Ly;simp;left;exact⟨by omega,by omega⟩
def RW{i j:Int}(h:0<j)(h':j<1073741824):J1 (.int i) (.int j) S=.ok (.int<|i / j) S:=m_ ⟨h,()⟩
def Du{i j:Int}(h:0<j):Ah (.int i) (.int j) S=.ok (.int<|i % j) S:=m_ h
@[simp]def Gi {i j:Int}:VB (.int i) (.int j) S=.ok (.bl<|decide<|i<j) S:=rfl
@[simp]def Yu {i j:Int}:Y0 (.int i) (.int j) S=.ok (.bl<|decide<|i<=j) S:=rfl
@[simp]def Ym {i j:Int}:WW (.int i) (.int j) S=.ok (.bl<|decide<|j<i) S:=rfl
@[simp]def X6 {i j:Int}:aGe (.int i) (.int j) S=.ok (.bl<|decide<|j<=i) S:=rfl
@[simp]def X_ {i j:Bool}:N3 false (.bl i) (.bl j) S=.ok (.bl<|i == j) S:=rfl
@[simp]def Qc {i j:Bool}:N3 true (.bl i) (.bl j) S=.ok (.bl<|i != j) S:=rfl
@[simp]def Us {i:Int}:zq (.int i) S=.ok (.int<|-i) S:=rfl
@[simp]def PZ {xs:ae}:sR (.tup xs) S=.ok (.int xs.length) S:=rfl
@[simp]def Rv {xs:ae}:sR (.frz xs) S=.ok (.int xs.length) S:=rfl
@[simp]def O0 {n:Nat}:sR (.ref n) S=opt (jU S n) λxs=>.ok (.int xs.length) S:=rfl
@[simp]def OV {i:Int}:aek (.int i) S=.ok (.int<|if i<0 then -i else i) S:=rfl
@[simp]def Mn {i j:Int}:Sd (.int i) (.int j) S=.ok (.int<|if j>i then j else i) S:=rfl
@[simp]def J6 {i j:Int}:UA (.int i) (.int j) S=.ok (.int<|if j<i then j else i) S:=rfl
@[simp]def JX {i:Int}:F1 (.int i) S=.ok (.int i) S:=rfl
@[simp]def Kf {i:Bool}:F1 (.bl i) S=.ok (.int<|if i then 1 else 0) S:=rfl
@[simp]def C3 {i j:Int}:Ez (.int i) (.int j) S=.ok (.rng i j) S:=rfl
@[simp]def Xm {xs:ae}{i:Int}:tZ (.tup xs) (.int i) S=opt (sO xs i) λx=>.ok x S:=rfl
@[simp]def Yh {xs:ae}{i:Int}:tZ (.frz xs) (.int i) S=opt (sO xs i) λx=>.ok x S:=rfl
@[simp]def Yb {n:Nat}{i:Int}:tZ (.ref n) (.int i) S=opt (jU S n) λxs=>opt (sO xs i) λx=>.ok x S:=rfl
@[simp]def Sb {n:Nat}{k:Int}:G9 (.ref n) (.int k) a S=opt (jU S n) λxs=>opt (CZ xs.length k) λj=>.ok Unit.unit (S.set n<|.lst<|xs.set j a):=rfl
@[simp]def RE {n:Nat}{i:Int}:Ry (.ref n) (.int i) S=opt (jU S n) λxs=>gd (0<=i) (opt (xs[i.toNat]?) λx=>.ok x S):=rfl
theorem N4{i j:Int}(h:DB i j):yO (.rng i j) S=.ok (.ref S.length) (S++[.lst<|(lA i j).map .int]):=m_ h
@[simp]def KN {xs:ae}:yO (.tup xs) S=.ok (.ref S.length) (S++[.lst xs]):=rfl
@[simp]def MO {xs:ae}:yO (.frz xs) S=.ok (.ref S.length) (S++[.lst xs]):=rfl
@[simp]def J0 {n:Nat}:yO (.ref n) S=opt (jU S n) λxs=>.ok (.ref S.length) (S++[.lst xs]):=rfl
@[simp]def HW {xs:ae}:xq (.tup xs) S=.ok (.tup xs) S:=rfl
@[simp]def Gg {n:Nat}:xq (.ref n) S=opt (jU S n) λxs=>.ok (.tup xs) S:=rfl
@[simp]def RM {xs:ae}:ach (.tup xs) S=.ok (.tup xs.reverse) S:=rfl
@[simp]def SM {n:Nat}:ach (.ref n) S=opt (jU S n) λxs=>.ok (.ref S.length) (S++[.lst xs.reverse]):=rfl
@[simp]def Xj {n:Nat}{l u:bj}:Jt (.ref n) l u S=opt (jU S n) λxs=>.ok (.ref S.length) (S++[.lst<|yU xs l u]):=rfl
@[simp]def BB {n:Nat}:ya (.ref n) [a] S=opt (jU S n) λxs=>gd (xs.length<sizeLine) (.ok .non<|S.set n<|.lst<|xs++[a]):=rfl
@[simp]def Tf {b:Bool}:A.Xh (.bl b) S=some b:=rfl
@[simp]def Lb {i:Int}:A.Xh (.int i) S=some (i != 0):=rfl
theorem Ja{o:O}:(S++[o])[S.length]?=some o:=by simp
@[simp]def kh {xs:ae}:jU (S++[.lst xs]) S.length=some xs:=wj Ja
theorem lg{o:O}{n:Nat}(h:jU S n=some xs):jU (S++[o]) n=some xs:=by
 have h':=kg h;exact wj<|by rw[bF (aN.mp h').1];exact h'
def p6{n:Nat}(h:jU S n=some xs):n<S.length:=(aN.mp<|kg h).1
def qm{n:Nat}(h:n<S.length):jU (S.set n<|.lst ys) n=some ys:=wj<|bJ h
def p9{n:Nat}(h:n≠m):jU (S.set n<|.lst ys) m=jU S m:=by unfold jU;rw[bP h]
def Fd{xs:ae}{i:Int}{k:Nat}{x:A}(h:i=k)(hx:xs[k]?=some x):sO xs i=some x:=by rw[h];exact UP hx
def zL{n:Nat}{i:Int}{k:Nat}(h:i=k)(hk:k<n):CZ n i=some k:=by
 subst h;unfold CZ;rw[aM (),aM ()];simp
end
structure Kp (b:Nat->Prop)(S S':jV):Prop where
 len:S.length<=S'.length
 obj:∀(n:Nat) (o:O),¬b n->S[n]?=some o->S'[n]?=some o
meta abbrev lY:=Kp λ_=>False
def Kp.lst{b:Nat->Prop}(h:Kp b S S')(n:Nat)(xs:ae)(hb:¬b n)(e:jU S n=some xs):jU S' n=some xs:=wj<|h.obj n _ hb<|kg e
def Kp.dct{b:Nat->Prop}(h:Kp b S S')(n:Nat)(xs:List<|ag×A)(hb:¬b n)(e:kK S n=some xs):kK S' n=some xs:=yw<|h.obj n _ hb<|pT e
def Kp.refl{b:Nat->Prop}:Kp b S S:=⟨aP _,λ_ _ _ h=>h⟩
def Kp.trans{b:Nat->Prop}(h:Kp b S S1)(h':Kp b S1 S2):Kp b S S2:=⟨bH h.len h'.len,λn xs c e=>h'.obj n xs c<|h.obj n xs c e⟩
def Cd{S:jV}{n:Nat}(e:S[n]?=some o):n<S.length:=(aN.mp e).1
def Kp.lay{b:Nat->Prop}{o:O}(h:Kp b S S1):Kp b S (S1++[o]):=⟨bH h.len<|by simp,λn xs c e=>by
 have:=h.obj n xs c e;rw[bF<|Cd this];exact this⟩
def Kp.GP{b:Nat->Prop}{S S1:jV}(h:Kp b S S1)(hm:b m\/S.length<=m):Kp b S (S1.set m o):=⟨by rw[bW];exact h.len,λn xs c e=>by
 have:m≠n:=λz=>by
  subst z
  rcases hm with z|z
  ·exact c z
  ·exact absurd (Cd e) ()
 rw[bP this];exact h.obj n xs c e⟩
def Kp.set{b:Nat->Prop}{S S1:jV}(h:Kp b S S1)(hm:b m\/S.length<=m):Kp b S (S1.set m<|.lst ys):=h.GP hm
def Kp.mono{b c:Nat->Prop}{S:jV}(h:Kp b S S1)(hb:∀n,n<S.length->b n->c n):Kp c S S1:=⟨h.len,λn xs hc e=>h.obj n xs (λz=>hc<|hb n (Cd e) z) e⟩
def Kp.of0{b:Nat->Prop}(h:lY S S1):Kp b S S1:=h.mono λ_ _ z=>z.elim
def Kp.old{b c:Nat->Prop}{S:jV}(h:Kp b S S1)(h':Kp c S1 S2)(hc:∀n,n<S.length->¬b n->¬c n):Kp b S S2:=⟨bH h.len h'.len,λn xs d e=>h'.obj n xs (hc n (Cd e) d)<|h.obj n xs d e⟩
theorem vm{t:Te}{c:Sm}(Inv:ae->jV->Prop)(μ:ae->jV->Nat)(Post:RS->Prop)
  (h:∀τ S,Inv τ S->(∃S1,t τ S=.ok false S1/\Post (.nx τ S1))\/(∃S1,t τ S=.ok true S1/\((∃τ' S',c τ S1=.nx τ' S'/\Inv τ' S'/\μ τ' S'<μ τ S)\/(∃a S',c τ S1=.rt a S'/\Post (.rt a S'))))) :
  ∀n τ S,Inv τ S->μ τ S<n->Post (oz t c n τ S)
 | 0,_,_,_,hn=>absurd hn (eS _)
 | n+1,τ,S,hi,hn=>by
  unfold oz
  rcases h τ S hi with⟨S1,e,q⟩|⟨S1,e,⟨τ',S',e2,d,f⟩|⟨a,S',e2,q⟩⟩
  ·rw[e];exact q
  ·rw[e];show Post (match c τ S1 with
    | .nx τ' S'=>oz t c n τ' S'
    | .ct τ' S'=>oz t c n τ' S'
    | .bk τ' S'=>.nx τ' S'
    | r=>r)
   rw[e2];exact vm Inv μ Post h n τ' S' d ()
  ·rw[e];show Post (match c τ S1 with
    | .nx τ' S'=>oz t c n τ' S'
    | .ct τ' S'=>oz t c n τ' S'
    | .bk τ' S'=>.nx τ' S'
    | r=>r)
   rw[e2];exact q
theorem FQ{s:Src}{g:Tg}{c:Sm}(Inv:Nat->ae->jV->Prop)(Post:RS->Prop)
  (step:∀i τ S,i<s.k->Inv i τ S->∃x τ1 S1,s.get i S=some x/\g x τ S=.ok τ1 S1/\((∃τ' S',c τ1 S1=.nx τ' S'/\Inv (i+1) τ' S')\/(∃a S',c τ1 S1=.rt a S'/\Post (.rt a S'))))
  (fin:∀τ S,Inv s.k τ S->s.fin S=true/\Post (.nx τ S)):∀k i τ S,k+i=s.k->Inv i τ S->Post (sA s g c k i τ S)
 | 0,i,τ,S,hk,hi=>by
  have:i=s.k:=()
  subst this;obtain⟨hf,q⟩:=fin τ S hi;unfold sA;rw[aM hf];exact q
 | k+1,i,τ,S,hk,hi=>by
  obtain⟨x,τ1,S1,f,hg,h⟩:=step i τ S () hi;unfold sA;rw[f];show Post (RS.of (g x τ S) λτ1 S1=>match c τ1 S1 with
   | .nx τ' S'=>sA s g c k (i+1) τ' S'
   | .ct τ' S'=>sA s g c k (i+1) τ' S'
   | .bk τ' S'=>.nx τ' S'
   | r=>r)
  rw[hg];show Post (match c τ1 S1 with
   | .nx τ' S'=>sA s g c k (i+1) τ' S'
   | .ct τ' S'=>sA s g c k (i+1) τ' S'
   | .bk τ' S'=>.nx τ' S'
   | r=>r)
  rcases h with⟨τ',S',e,d⟩|⟨a,S',e,q⟩
  ·rw[e];exact FQ Inv Post step fin k (i+1) τ' S' () d
  ·rw[e];exact q
def sq{lo hi:Int}{c:Sm}{src:Ic}{τ:ae}(hs:src τ S=.ok (uy lo hi) S1)(Inv:Nat->ae->jV->Prop)(Post:RS->Prop)(h0:Inv 0 τ S1)
  (step:∀(i:Nat) τ S,(i:Int)<hi-lo->Inv i τ S->(∃τ' S',c (τ.set j<|.int<|lo+i) S=.nx τ' S'/\Inv (i+1) τ' S')\/(∃a S',c (τ.set j<|.int<|lo+i) S=.rt a S'/\Post (.rt a S')))
  (fin:∀τ S,Inv (hi-lo).toNat τ S->Post (.nx τ S)):Post (lN src (kR j) c τ S):=by
 unfold lN;rw[hs];refine FQ (s:=uy lo hi) Inv Post (λi τ S d h=>?_) (λτ S h=>⟨rfl,fin τ S h⟩) _ 0 τ S1 rfl h0;have d:i<(hi-lo).toNat:=d;exact⟨.int<|lo+i,_,S,aM d,rfl,step i τ S (by omega) h⟩
def aaC{xs:ae}{g:Tg}{c:Sm}{src:Ic}(hs:src τ S=.ok (Gq xs) S1)(Inv:Nat->ae->jV->Prop)(Post:RS->Prop)(h0:Inv 0 τ S1)
  (step:∀(i:Nat) x τ S,xs[i]?=some x->Inv i τ S->∃τ1 S1,g (.tup [.int i,x]) τ S=.ok τ1 S1/\((∃τ' S',c τ1 S1=.nx τ' S'/\Inv (i+1) τ' S')\/(∃a S',c τ1 S1=.rt a S'/\Post (.rt a S'))))
  (fin:∀τ S,Inv xs.length τ S->Post (.nx τ S)):Post (lN src g c τ S):=by
 unfold lN;rw[hs];refine FQ (s:=Gq xs) Inv Post (λi τ S d h=>?_) (λτ S h=>⟨rfl,fin τ S h⟩) _ 0 τ S1 rfl h0;have d:i<xs.length:=d;obtain⟨τ1,S1,e,q⟩:=step i xs[i] τ S (aH d) h;exact⟨.tup [.int i,xs[i]],τ1,S1,by show(xs[i]?).map _=_;rw[aH d];rfl,e,q⟩
def uX{n:Nat}{xs:ae}{g:Tg}{c:Sm}{src:Ic}(hs:src τ S=.ok (om n xs.length) S1)(Inv:Nat->ae->jV->Prop)(Post:RS->Prop)(h0:Inv 0 τ S1)(hl:∀i τ S,Inv i τ S->jU S n=some xs)
  (step:∀(i:Nat) x τ S,xs[i]?=some x->Inv i τ S->∃τ1 S1,g x τ S=.ok τ1 S1/\((∃τ' S',c τ1 S1=.nx τ' S'/\Inv (i+1) τ' S')\/(∃a S',c τ1 S1=.rt a S'/\Post (.rt a S'))))
  (fin:∀τ S,Inv xs.length τ S->Post (.nx τ S)):Post (lN src g c τ S):=by
 unfold lN;rw[hs];refine FQ (s:=om n xs.length) Inv Post (λi τ S d h=>?_) (λτ S h=>⟨?_,fin τ S h⟩) _ 0 τ S1 rfl h0
 ·have d:i<xs.length:=d;obtain⟨τ1,S1,e,q⟩:=step i xs[i] τ S (aH d) h;exact⟨xs[i],τ1,S1,by show(jU S n).bind _=_;rw[hl i τ S h];exact aH d,e,q⟩
 ·show(match jU S n with
   | some ys=>decide (ys.length<=xs.length)
   | none=>false)=true
  rw[hl _ τ S h];exact aW<|aP _
@[simp]def qz {c:Ex}{τ:ae}{S S1:jV}{j:Int}(h:c τ S=.ok (.int j) S1)(hb:bnd j):ug c τ S=.ok (uy 0 j) S1:=by
 unfold ug;rw[h];exact m_ hb
def Gp{c d:Ex}{i j:Int}(h:c τ S=.ok (.int i) S1)(h':d τ S1=.ok (.int j) S2)(hb:bnd i)(hb':bnd j):zX c d τ S=.ok (uy i j) S2:=by
 unfold zX;rw[h];show(d τ S1).bind _=_;rw[h'];exact m_ ⟨hb,hb'⟩
def aaf{c:Ex}(h:c τ S=.ok (.tup xs) S1):pI c τ S=.ok (vE xs) S1:=by unfold pI;rw[h];rfl
def qD{c:Ex}{n:Nat}{xs:ae}(h:c τ S=.ok (.ref n) S1)(hl:jU S1 n=some xs):pI c τ S=.ok (om n xs.length) S1:=by
 unfold pI;rw[h];show opt (jU S1 n) _=_;rw[hl];rfl
def aa0{c:Ex}(h:c τ S=.ok (.tup xs) S1):U_ c τ S=.ok (Gq xs) S1:=by unfold U_;rw[h];rfl
theorem ye{s:Src}{g:Tg}{t:Te}{e:Ex}{P:jV->Prop}{T:ae->Prop}(it:Nat->A)(p:Nat->Bool)(f:Nat->A)
  (hget:∀i S,i<s.k->P S->s.get i S=some (it i)) (hfin:∀S,P S->s.fin S=true)
  (step:∀i τ S,i<s.k->T τ->P S->∃τ1 S1 S2,g (it i) τ S=.ok τ1 S1/\t τ1 S1=.ok (p i) S2/\T τ1/\(p i=false->P S2)/\(p i=true->∃S3,e τ1 S2=.ok (f i) S3/\P S3)) :
  ∀k i τ S,k+i=s.k->T τ->P S->∃S',rX s g t e k i τ S=.ok (((List.range' i k).filter p).map f) S'/\P S'
 | 0,i,τ,S,hk,hT,hP=>⟨S,by unfold rX;rw[aM<|hfin S hP];rfl,hP⟩
 | k+1,i,τ,S,hk,hT,hP=>by
  obtain⟨τ1,S1,S2,hg,C,c,B,d⟩:=step i τ S (by omega) hT hP;unfold rX;rw[hget i S (by omega) hP,kD,hg,R.o9,C,R.o9,List.range'_succ,jF]
  cases m:p i with
  | false=>
   obtain⟨S',h1,h2⟩:=ye it p f hget hfin step k (i+1) τ1 S2 (by omega) c<|B m;exact⟨S',by simpa using h1,h2⟩
  | true=>
   obtain⟨S3,q,j⟩:=d m;obtain⟨S',h1,h2⟩:=ye it p f hget hfin step k (i+1) τ1 S3 (by omega) c j;refine⟨S',?_,h2⟩
   skip
   rw[q,R.o9,h1];rfl
def yY{s:Src}{src:Ic}{t:Te}{e:Ex}{S1:jV}(hs:src τ S=.ok s S1)(it:Nat->A)(p:Nat->Bool)(f:Nat->A)(hget:∀i,i<s.k->s.get i S1=some (it i))(hfin:s.fin S1=true)
  (ht:∀i,i<s.k->t (it i::ni cap τ) S1=.ok (p i) S1) (he:∀i,i<s.k->p i=true->e (it i::ni cap τ) S1=.ok (f i) S1) (hl:s.k<=16777216) :
  nc (none::cap) src (kR 0) t e τ S=.ok (.ref S1.length) (S1++[.lst<|((List.range s.k).filter p).map f]):=by
 unfold nc;rw[hs,R.nV];obtain⟨m,h1,h2⟩:=ye (s:=s) (g:=kR 0) (t:=t) (e:=e) (P:=λS=>S=S1) (T:=λc=>∃y,c=y::ni cap τ) it p f (λi S hi h=>by subst h;exact hget i hi) (λS h=>by subst h;exact hfin)
  (λi c S hi ⟨y,d⟩ h=>by
   subst h d;exact⟨it i::ni cap τ,S,S,rfl,ht i hi,⟨_,rfl⟩,λ_=>rfl,λj=>⟨S,he i hi j,rfl⟩⟩) s.k 0 (ni (none::cap) τ) S1 rfl ⟨_,rfl⟩ rfl
 subst h2;rw[h1,R.o9,gw];refine mT ?_;rw[aI];refine bH (gq _ _) ?_;rw[List.length_range'];exact hl
def p8{α β:Type}(xs:List α)(p:α->Bool)(f:α->β):∀(d:α) ,(((List.range xs.length).filter λi=>p<|xs.getD i d).map λi=>f<|xs.getD i d)=(xs.filter p).map f:=by
 intro d
 induction xs with
 | nil=>rfl
 | cons x xs g=>
  rw[bu,List.range_succ_eq_map,jF,jF];have e:((List.filter (λi=>p<|(x::xs).getD i d)<|List.map Nat.succ<|List.range xs.length).map λi=>f<|(x::xs).getD i d)=(xs.filter p).map f:=by
   rw[jd,bK];rw[<- g];rfl
  show List.map _ (if p x=true then _ else _)=List.map f (if p x=true then _ else _);by_cases c:p x=true
  ·rw[aM c,aM c,bL,bL,e];rfl
  ·rw[aJ c,aJ c,e]
def Um{xs:ae}{src:Ic}{t:Te}{e:Ex}{S1:jV}(hs:src τ S=.ok (vE xs) S1)(p:A->Bool)(f:A->A)
  (ht:∀x∈xs,t (x::ni cap τ) S1=.ok (p x) S1) (he:∀x∈xs,p x=true->e (x::ni cap τ) S1=.ok (f x) S1) (hl:xs.length<=16777216) :
  nc (none::cap) src (kR 0) t e τ S=.ok (.ref S1.length) (S1++[.lst<|(xs.filter p).map f]):=by
 have c:∀i,i<xs.length->xs.getD i .unb∈xs:=λi hi=>by
  rw[aL,aH hi];exact eg hi
 rw[yY hs (λi=>xs.getD i .unb) (λi=>p<|xs.getD i .unb) (λi=>f<|xs.getD i .unb) (λi hi=>by
  have hi:i<xs.length:=hi;show xs[i]?=_;rw[aL,aH hi];rfl) rfl (λi hi=>ht _<|c i hi) (λi hi=>he _<|c i hi) hl]
 have:=p8 xs p f .unb;show R.ok _ (S1++[O.lst<|((List.range xs.length).filter _).map _])=_;rw[this]
def SE{lo hi:Int}{src:Ic}{t:Te}{e:Ex}{S1:jV}(hs:src τ S=.ok (uy lo hi) S1)(p:Int->Bool)(f:Int->A)
  (ht:∀k,lo<=k->k<hi->t (.int k::ni cap τ) S1=.ok (p k) S1) (he:∀k,lo<=k->k<hi->p k=true->e (.int k::ni cap τ) S1=.ok (f k) S1) (hl:(hi-lo).toNat<=16777216) :
  nc (none::cap) src (kR 0) t e τ S=.ok (.ref S1.length) (S1++[.lst<|((lA lo hi).filter p).map f]):=by
 rw[yY hs (λi=>.int<|lo+i) (λi=>p<|lo+i) (λi=>f<|lo+i) (λi c=>aM c) rfl (λi c=>ht _ () (by have:i<(hi-lo).toNat:=c;lia)) (λi c=>he _ () (by have:i<(hi-lo).toNat:=c;lia)) hl];unfold lA;rw[jd,bK];rfl
@[simp]def Ur {cap:List<|bo}{τ:ae}:ni (none::cap) τ=.unb::ni cap τ:=rfl
@[simp]def O4 {cap:List<|bo}{τ:ae}{j:Nat}:ni (some j::cap) τ=τ.getD j .unb::ni cap τ:=rfl
@[simp]def GL {τ:ae}:ni [] τ=[]:=rfl
theorem DF{x:A}:sO (x::xs) 0=some x:=Fd (k:=0) rfl rfl
def Yl{x:A}:sO (x::y::xs) 1=some y:=Fd (k:=1) rfl rfl
def yv{ns:ag}{i:Int}{k:Nat}{x:Int}(h:i=k)(hx:ns[k]?=some x):sO (ns.map A.int) i=some (.int x):=Fd h<|by rw[aX,hx];rfl
def pR{j:Int}(h:-4611686018427387904<=j)(h':j<4611686018427387904):bnd j:=⟨(),()⟩
def TU{i j:Int}(h1:-1000000<=i)(h2:i<=1000000)(h3:-1000000<=j)(h4:j<=1000000)(h5:j-i<=1000):DB i j:=⟨⟨(),(),(),()⟩,()⟩
theorem ints_map:∀(ns:ag),A.ints (ns.map .int)=some ns
 | []=>rfl
 | n::ns=>by show(A.ints<|ns.map .int).map (n::·)=_;rw[ints_map ns];rfl
theorem DM{n:Nat}:∀(xs ys:ag),vI (xV S<|n+1) (xs.map .int) (ys.map .int)=some (decide<|xs=ys)
 | [],[]=>rfl
 | [],_::_=>rfl
 | _::_,[]=>rfl
 | x::xs,y::ys=>by
  skip
  skip
  show Option.map _ (vI (xV S<|n+1) (xs.map .int)<|ys.map .int)=_;rw[DM xs ys]
  skip
  by_cases h1:x=y<;>by_cases h2:xs=ys<;>simp[h1,h2]
@[simp]def Xn {S:jV}{x y:Bool}:yS false (.bl x) (.bl y) S=.ok (.bl<|x == y) S:=rfl
@[simp]def XC {S:jV}{x y:Bool}:yS true (.bl x) (.bl y) S=.ok (.bl<|!(x == y)) S:=rfl
@[simp]def Xx {S:jV}{x y:Int}:yS false (.int x) (.int y) S=.ok (.bl<|x == y) S:=rfl
@[simp]def Yk {S:jV}{x y:Int}:yS true (.int x) (.int y) S=.ok (.bl<|!(x == y)) S:=rfl
@[simp]def LM {S:jV}:N3 false .non .non S=.ok (.bl true) S:=rfl
@[simp]def MP {S:jV}{xs:ae}:N3 false (.tup xs) .non S=.ok (.bl false) S:=rfl
@[simp]def Lu {S:jV}{n:Nat}:N3 false (.ref n) .non S=.ok (.bl false) S:=rfl
@[simp]def HQ {S:jV}:N3 true .non .non S=.ok (.bl false) S:=rfl
@[simp]def HJ {S:jV}{xs:ae}:N3 true (.tup xs) .non S=.ok (.bl true) S:=rfl
@[simp]def GW {S:jV}{n:Nat}:N3 true (.ref n) .non S=.ok (.bl true) S:=rfl
@[simp]def LL {S:jV}{x:A}{c:String}:W4 x (.ty c) S=opt (x.kd S) λk=>opt (Ob k c) λb=>.ok (.bl b) S:=rfl
@[simp]def X3 {S:jV}{b:Bool}:A.kd (.bl b) S=some .bl:=rfl
@[simp]def TZ {S:jV}{b:Int}:A.kd (.int b) S=some .int:=rfl
@[simp]def ON {S:jV}{b:ae}:A.kd (.tup b) S=some .tup:=rfl
@[simp]def Qx {S:jV}:A.kd .non S=some .non:=rfl
@[simp]def Pn {S:jV}{b:Str}:A.kd (.str b) S=some .str:=rfl
@[simp]def RP {S:jV}{n:Nat}:A.kd (.ref n) S=(jU S n).map λ_=>.lst:=rfl
@[simp]def RX {S:jV}:newL [] S=.ok (.ref S.length) (S++[.lst []]):=mT<|by simp
@[simp]def Rt {S:jV}{x0:A}:newL [x0] S=.ok (.ref S.length) (S++[.lst [x0]]):=mT<|by simp
@[simp]def Qs {S:jV}{x0 x1:A}:newL [x0,x1] S=.ok (.ref S.length) (S++[.lst [x0,x1]]):=mT<|by simp
@[simp]def S0 {S:jV}{x0 x1 x2:A}:newL [x0,x1,x2] S=.ok (.ref S.length) (S++[.lst [x0,x1,x2]]):=mT<|by simp
@[simp]def UB {S:jV}{x0 x1 x2 x3:A}:newL [x0,x1,x2,x3] S=.ok (.ref S.length) (S++[.lst [x0,x1,x2,x3]]):=mT<|by simp
@[simp]def QH {S:jV}{x0 x1 x2 x3 x4:A}:newL [x0,x1,x2,x3,x4] S=.ok (.ref S.length) (S++[.lst [x0,x1,x2,x3,x4]]):=mT<|by simp
@[simp]def Rb {S:jV}{x0 x1 x2 x3 x4 x5:A}:newL [x0,x1,x2,x3,x4,x5] S=.ok (.ref S.length) (S++[.lst [x0,x1,x2,x3,x4,x5]]):=mT<|by simp
@[simp]def OD {S:jV}{x0 x1 x2 x3 x4 x5 x6:A}:newL [x0,x1,x2,x3,x4,x5,x6] S=.ok (.ref S.length) (S++[.lst [x0,x1,x2,x3,x4,x5,x6]]):=mT<|by simp
@[simp]def Qi {S:jV}{x0 x1 x2 x3 x4 x5 x6 x7:A}:newL [x0,x1,x2,x3,x4,x5,x6,x7] S=.ok (.ref S.length) (S++[.lst [x0,x1,x2,x3,x4,x5,x6,x7]]):=mT<|by simp
@[simp]def Pe {S:jV}{x0 x1 x2 x3 x4 x5 x6 x7 x8:A}:newL [x0,x1,x2,x3,x4,x5,x6,x7,x8] S=.ok (.ref S.length) (S++[.lst [x0,x1,x2,x3,x4,x5,x6,x7,x8]]):=mT<|by simp
@[simp]def Mr {S:jV}{x0 x1 x2 x3 x4 x5 x6 x7 x8 x9:A}:newL [x0,x1,x2,x3,x4,x5,x6,x7,x8,x9] S=.ok (.ref S.length) (S++[.lst [x0,x1,x2,x3,x4,x5,x6,x7,x8,x9]]):=mT<|by simp
theorem Ct{α:Type}{n:Nat}{r:R α}(h:n<=16777216):gd (n<=sizeLine) r=r:=m_<|by rw[dJ];exact h
def zT{α:Type}{n:Nat}{r:R α}(h:n<16777216):gd (n<sizeLine) r=r:=m_<|by rw[dJ];exact h
def X7 {x:A}{xs:ae}:(x::xs).getD 0 .unb=x:=rfl
def Yr {x:A}{xs:ae}{n:Nat}:(x::xs).getD (n+1) .unb=xs.getD n .unb:=rfl
def acF {x y:A}{xs:ae}:(x::xs).set 0 y=y::xs:=rfl
def sets {x y:A}{xs:ae}{n:Nat}:(x::xs).set (n+1) y=x::xs.set n y:=rfl
def rep0 {x:A}:List.replicate 0 x=[]:=rfl
def reps {x:A}{n:Nat}:List.replicate (n+1) x=x::List.replicate n x:=rfl
def abr {x:A}{xs ys:ae}:(x::xs)++ys=x::(xs++ys):=rfl
def ac0 {ys:ae}:[]++ys=ys:=rfl
def aci{S:jV}{n:Nat}{xs ys:ae}(h:jU S n=some xs)(h':jU S m=some ys)(hl:xs.length+ys.length<=16777216):mF (.ref n) (.ref m) S=.ok (.ref S.length) (S++[.lst<|xs++ys]):=by
 show opt (jU S n) _=_;rw[h,kD,h',kD];exact m_<|by rw[dJ];exact hl
abbrev uV (x:A)(S:jV):R A:=bif x.pY then .no else .ok x S
def OG {xs:ae}{S:jV}:uV (.tup xs) S=.ok (.tup xs) S:=rfl
def Q8 {xs:ae}{S:jV}:uV (.frz xs) S=.ok (.frz xs) S:=rfl
def RQ {i:Int}{S:jV}:uV (.int i) S=.ok (.int i) S:=rfl
def XT {b:Bool}{S:jV}:uV (.bl b) S=.ok (.bl b) S:=rfl
def Q4 {s:Str}{S:jV}:uV (.str s) S=.ok (.str s) S:=rfl
def SI {n:Nat}{S:jV}:uV (.ref n) S=.ok (.ref n) S:=rfl
def Pu  {S:jV}:uV (.non) S=.ok (.non) S:=rfl
def TL {i j:Int}{S:jV}:uV (.rng i j) S=.ok (.rng i j) S:=rfl
def QB {s:Str}{S:jV}:uV (.exn s) S=.ok (.exn s) S:=rfl
def eV0 {x0:A}{xs:ae}{S:jV}:jS 0 (x0::xs) S=uV x0 S:=qS
def eV1 {x0 x1:A}{xs:ae}{S:jV}:jS 1 (x0::x1::xs) S=uV x1 S:=qS
def eV2 {x0 x1 x2:A}{xs:ae}{S:jV}:jS 2 (x0::x1::x2::xs) S=uV x2 S:=qS
def eV3 {x0 x1 x2 x3:A}{xs:ae}{S:jV}:jS 3 (x0::x1::x2::x3::xs) S=uV x3 S:=qS
def eV4 {x0 x1 x2 x3 x4:A}{xs:ae}{S:jV}:jS 4 (x0::x1::x2::x3::x4::xs) S=uV x4 S:=qS
def eV5 {x0 x1 x2 x3 x4 x5:A}{xs:ae}{S:jV}:jS 5 (x0::x1::x2::x3::x4::x5::xs) S=uV x5 S:=qS
def eV6 {x0 x1 x2 x3 x4 x5 x6:A}{xs:ae}{S:jV}:jS 6 (x0::x1::x2::x3::x4::x5::x6::xs) S=uV x6 S:=qS
def eV7 {x0 x1 x2 x3 x4 x5 x6 x7:A}{xs:ae}{S:jV}:jS 7 (x0::x1::x2::x3::x4::x5::x6::x7::xs) S=uV x7 S:=qS
def eV8 {x0 x1 x2 x3 x4 x5 x6 x7 x8:A}{xs:ae}{S:jV}:jS 8 (x0::x1::x2::x3::x4::x5::x6::x7::x8::xs) S=uV x8 S:=qS
def gN0 {a x0:A}{xs:ae}{S:jV}:kR 0 a (x0::xs) S=.ok (a::xs) S:=rfl
def gN1 {a x0 x1:A}{xs:ae}{S:jV}:kR 1 a (x0::x1::xs) S=.ok (x0::a::xs) S:=rfl
def gN2 {a x0 x1 x2:A}{xs:ae}{S:jV}:kR 2 a (x0::x1::x2::xs) S=.ok (x0::x1::a::xs) S:=rfl
def gN3 {a x0 x1 x2 x3:A}{xs:ae}{S:jV}:kR 3 a (x0::x1::x2::x3::xs) S=.ok (x0::x1::x2::a::xs) S:=rfl
def gN4 {a x0 x1 x2 x3 x4:A}{xs:ae}{S:jV}:kR 4 a (x0::x1::x2::x3::x4::xs) S=.ok (x0::x1::x2::x3::a::xs) S:=rfl
def gN5 {a x0 x1 x2 x3 x4 x5:A}{xs:ae}{S:jV}:kR 5 a (x0::x1::x2::x3::x4::x5::xs) S=.ok (x0::x1::x2::x3::x4::a::xs) S:=rfl
def gN6 {a x0 x1 x2 x3 x4 x5 x6:A}{xs:ae}{S:jV}:kR 6 a (x0::x1::x2::x3::x4::x5::x6::xs) S=.ok (x0::x1::x2::x3::x4::x5::a::xs) S:=rfl
def gN7 {a x0 x1 x2 x3 x4 x5 x6 x7:A}{xs:ae}{S:jV}:kR 7 a (x0::x1::x2::x3::x4::x5::x6::x7::xs) S=.ok (x0::x1::x2::x3::x4::x5::x6::a::xs) S:=rfl
def gN8 {a x0 x1 x2 x3 x4 x5 x6 x7 x8:A}{xs:ae}{S:jV}:kR 8 a (x0::x1::x2::x3::x4::x5::x6::x7::x8::xs) S=.ok (x0::x1::x2::x3::x4::x5::x6::x7::a::xs) S:=rfl
def hide{P:Prop}(h:∀G:Prop,(P->G)->G):P:=h P id
def kG:type_of% (anI @R.nV<|anI @R.Mv<|anI @R.o9<|anI @RS.of_ok<|anI @RS.XW<|anI @kD<|anI @Ma<|anI @eV0<|anI @eV1<|anI @eV2<|anI @eV3<|anI @eV4<|anI @eV5<|anI @eV6<|anI @eV7<|anI @eV8<|anI @OG<|anI @Q8<|anI @RQ<|anI @XT<|anI @Q4<|anI @SI<|anI @Pu<|anI @TL<|anI @QB<|anI @Kl<|anI @LA<|anI @MT<|anI @Q9<|anI @Lm<|anI @J3<|anI @Ld<|anI @MJ<|anI @Mf<|anI @XA<|anI @Ls<|anI @Uw<|anI @My<|anI @MG<|anI @JI<|anI @KI<|anI @LQ<|anI @QM<|anI @LW<|anI @MV<|anI @KY<|anI @RI<|anI @Pf<|anI @LP<|anI @S_<|anI @F5<|anI @Kr<|anI @Qk<|anI @LV<|anI @Hs<|anI @Mc<|anI @L_<|anI @Gu<|anI @PF<|anI @Rx<|anI @Yc<|anI @X0<|anI @Pj<|anI @Gm<|anI @Mz<|anI @HD<|anI @OF<|anI @Kv<|anI @lst?_ref<|anI @RS.Uj<|anI @RS.Q5<|anI @RS.PU<|anI @RS.Ub<|anI @RS.PK<|anI @KC<|anI @JY<|anI @Dr<|anI @GI<|anI @HG<|anI @JZ<|anI @GQ<|anI @OS<|anI @Lf<|anI @gN0<|anI @gN1<|anI @gN2<|anI @gN3<|anI @gN4<|anI @gN5<|anI @gN6<|anI @gN7<|anI @gN8<|anI @Tv<|anI @OC<|anI @Uy<|anI @Uh<|anI @Td<|anI @LD<|anI @KO<|anI @Hl<|anI @RS.Sl<|anI @RS.O_<|anI @RS.Uz<|anI @TJ<|anI @Qp<|anI @Qd<|anI @Gi<|anI @Yu<|anI @Ym<|anI @X6<|anI @X_<|anI @Qc<|anI @Us<|anI @PZ<|anI @Rv<|anI @O0<|anI @OV<|anI @Mn<|anI @J6<|anI @JX<|anI @Kf<|anI @C3<|anI @Xm<|anI @Yh<|anI @Yb<|anI @Sb<|anI @RE<|anI @KN<|anI @MO<|anI @J0<|anI @HW<|anI @Gg<|anI @RM<|anI @SM<|anI @Xj<|anI @BB<|anI @Tf<|anI @Lb<|anI @kh<|anI @Ur<|anI @O4<|anI @GL<|anI @Xn<|anI @XC<|anI @Xx<|anI @Yk<|anI @LM<|anI @MP<|anI @Lu<|anI @HQ<|anI @HJ<|anI @GW<|anI @LL<|anI @X3<|anI @TZ<|anI @ON<|anI @Qx<|anI @Pn<|anI @RP<|anI @RX<|anI @Rt<|anI @Qs<|anI @S0<|anI @UB<|anI @QH<|anI @Rb<|anI @OD<|anI @Qi<|anI @Pe<|anI @Mr<|anI @X7<|anI @Yr<|anI @acF<|anI @sets<|anI @rep0<|anI @reps<|anI @abr<|anI @ac0<|anI @Aw<|anI @Ky<|anI @PV<|anI @Qn<|anI @XD<|anI @XG<|anI @SS<|anI @QW<|anI @DA<|anI @GC<|anI @QX<|anI @K7<|anI @Sv<|anI @KJ<|anI @SH<|anI @Yy<|anI @XZ<|anI @Ln<|anI @Lo<|anI @TQ<|anI @Gb<|anI @Lc<|anI @SA<|anI @Pb<|anI @Uq<|anI @QG<|@O5):=anI @R.nV<|anI @R.Mv<|anI @R.o9<|anI @RS.of_ok<|anI @RS.XW<|anI @kD<|anI @Ma<|anI @eV0<|anI @eV1<|anI @eV2<|anI @eV3<|anI @eV4<|anI @eV5<|anI @eV6<|anI @eV7<|anI @eV8<|anI @OG<|anI @Q8<|anI @RQ<|anI @XT<|anI @Q4<|anI @SI<|anI @Pu<|anI @TL<|anI @QB<|anI @Kl<|anI @LA<|anI @MT<|anI @Q9<|anI @Lm<|anI @J3<|anI @Ld<|anI @MJ<|anI @Mf<|anI @XA<|anI @Ls<|anI @Uw<|anI @My<|anI @MG<|anI @JI<|anI @KI<|anI @LQ<|anI @QM<|anI @LW<|anI @MV<|anI @KY<|anI @RI<|anI @Pf<|anI @LP<|anI @S_<|anI @F5<|anI @Kr<|anI @Qk<|anI @LV<|anI @Hs<|anI @Mc<|anI @L_<|anI @Gu<|anI @PF<|anI @Rx<|anI @Yc<|anI @X0<|anI @Pj<|anI @Gm<|anI @Mz<|anI @HD<|anI @OF<|anI @Kv<|anI @lst?_ref<|anI @RS.Uj<|anI @RS.Q5<|anI @RS.PU<|anI @RS.Ub<|anI @RS.PK<|anI @KC<|anI @JY<|anI @Dr<|anI @GI<|anI @HG<|anI @JZ<|anI @GQ<|anI @OS<|anI @Lf<|anI @gN0<|anI @gN1<|anI @gN2<|anI @gN3<|anI @gN4<|anI @gN5<|anI @gN6<|anI @gN7<|anI @gN8<|anI @Tv<|anI @OC<|anI @Uy<|anI @Uh<|anI @Td<|anI @LD<|anI @KO<|anI @Hl<|anI @RS.Sl<|anI @RS.O_<|anI @RS.Uz<|anI @TJ<|anI @Qp<|anI @Qd<|anI @Gi<|anI @Yu<|anI @Ym<|anI @X6<|anI @X_<|anI @Qc<|anI @Us<|anI @PZ<|anI @Rv<|anI @O0<|anI @OV<|anI @Mn<|anI @J6<|anI @JX<|anI @Kf<|anI @C3<|anI @Xm<|anI @Yh<|anI @Yb<|anI @Sb<|anI @RE<|anI @KN<|anI @MO<|anI @J0<|anI @HW<|anI @Gg<|anI @RM<|anI @SM<|anI @Xj<|anI @BB<|anI @Tf<|anI @Lb<|anI @kh<|anI @Ur<|anI @O4<|anI @GL<|anI @Xn<|anI @XC<|anI @Xx<|anI @Yk<|anI @LM<|anI @MP<|anI @Lu<|anI @HQ<|anI @HJ<|anI @GW<|anI @LL<|anI @X3<|anI @TZ<|anI @ON<|anI @Qx<|anI @Pn<|anI @RP<|anI @RX<|anI @Rt<|anI @Qs<|anI @S0<|anI @UB<|anI @QH<|anI @Rb<|anI @OD<|anI @Qi<|anI @Pe<|anI @Mr<|anI @X7<|anI @Yr<|anI @acF<|anI @sets<|anI @rep0<|anI @reps<|anI @abr<|anI @ac0<|anI @Aw<|anI @Ky<|anI @PV<|anI @Qn<|anI @XD<|anI @XG<|anI @SS<|anI @QW<|anI @DA<|anI @GC<|anI @QX<|anI @K7<|anI @Sv<|anI @KJ<|anI @SH<|anI @Yy<|anI @XZ<|anI @Ln<|anI @Lo<|anI @TQ<|anI @Gb<|anI @Lc<|anI @SA<|anI @Pb<|anI @Uq<|anI @QG<|@O5
def bools:(∀b:Bool,cond false b b=b)/\(∀(α:Type) (x y:α),cond false x y=y)/\(∀(α:Type) (x y:α),cond true x y=x):=⟨λ_=>rfl,λ_ _ _=>rfl,λ_ _ _=>rfl⟩
def lR:(∀(x:Str) (xs:ba),(x::xs).length=xs.length+1)/\([]:ba).length=0/\(∀(x:A) (xs:ae),(x::xs).length=xs.length+1)/\([]:ae).length=0:=⟨λ_ _=>rfl,rfl,λ_ _=>rfl,rfl⟩
section
variable {τ:ae}{S:jV}
def LS {f:ae->jV->R A}{d:tH}:aeG f d τ S=(d τ S).bind f:=rfl
abbrev kRz (c:Str):Unit->jV->RS:=λ_ S1=>.ex c S1
def Qf {c:Str}{u:Unit}:kRz c u S=.ex c S:=rfl
def DS {c:Str}{ps:List<|Str ⊕ Ex}:Z0 c ps τ S=RS.of (UL ps τ S) (kRz c):=rfl
def KZ:UL [] τ S=.ok Unit.unit S:=rfl
def Mu {x:Str}{ps:List<|Str ⊕ Ex}:UL (.inl x::ps) τ S=UL ps τ S:=rfl
abbrev kFs (ps:List<|Str ⊕ Ex)(τ:ae):A->jV->R Unit:=λv S1=>match v with
 | .int i=>gd (i.natAbs.log2<64) (UL ps τ S1)
 | _=>.no
def LY {e:Ex}{ps:List<|Str ⊕ Ex}:UL (.inr e::ps) τ S=(e τ S).bind (kFs ps τ):=rfl
abbrev RS.try (i n:Nat)(cs:ba)(d:Sm):RS->RS
 | .ex x S1=>if x∈cs then Xv i (d ((List.replicate n .unb).set i<|.exn x) S1)else .no
 | r=>r
def LU {i n:Nat}{cs:ba}{c d:Sm}:ab7 i n cs c d τ S=RS.try i n cs d (c τ S):=by
 unfold ab7 RS.try;cases c τ S<;>rfl
def O2 {i n:Nat}{cs:ba}{d:Sm}:RS.try i n cs d (.nx τ S)=.nx τ S:=rfl
def O7 {i n:Nat}{cs:ba}{d:Sm}{a:A}:RS.try i n cs d (.rt a S)=.rt a S:=rfl
def Ro {i n:Nat}{x:Str}{cs:ba}{d:Sm}:RS.try i n (x::cs) d (.ex x S)=Xv i (d ((List.replicate n .unb).set i<|.exn x) S):=aM<|.head _
def TH {i:Nat}{a:A}:Xv i (.rt a S)=.rt a S:=rfl
def Q_ {i:Nat}:Xv i (.nx τ S)=.nx (τ.set i .unb) S:=rfl
abbrev acB (f:Str->bn):A->jV->R A:=λv S1=>match v with
 | .exn x=>opt (f x) λb=>.ok (.bl b) S1
 | _=>.no
def MA {f:Str->bn}{c:Ex}:aeA f c τ S=(c τ S).bind (acB f):=rfl
def QN {x:Str}{b:Bool}{tb:List<|Str×Bool}:acB (tbX ((x,b)::tb)) (.exn x) S=.ok (.bl b) S:=by
 show opt (List.lookup x ((x,b)::tb)) _=_;rw[gC,bS];rfl
abbrev R.Ug {α β:Type}(r:R α)(f:α->jV->R β):R β:=match r with
 | .ok a S=>f a S
 | _=>.no
def GA {α β:Type}{a:α}{f:α->jV->R β}:R.Ug (.ok a S) f=f a S:=rfl
def Kw {f:ae->jV->R A}{d:tH}:abv f d τ S=R.Ug (d τ S) f:=by unfold abv R.Ug;cases d τ S<;>rfl
abbrev RS.ofK {α:Type}(r:R α)(f:α->jV->RS):RS:=match r with
 | .ok a S=>f a S
 | _=>.no
def Tz {α:Type}{a:α}{f:α->jV->RS}:RS.ofK (.ok a S) f=f a S:=rfl
def LN {t:Te}{c d:Sm}:ac2 t c d τ S=RS.ofK (t τ S) (kIf c d τ):=by
 unfold ac2 RS.ofK
 cases t τ S with
 | ok b S1=>cases b<;>rfl
 | ex _ _=>rfl
 | no=>rfl
abbrev RS.Rh (i:Nat)(cs:ba)(d:Sm)(τ:ae):RS->RS
 | .ex x S1=>if x∈cs then Xv i (d (τ.set i<|.exn x) S1)else .no
 | r=>r
def G1 {i:Nat}{cs:ba}{c d:Sm}:XH i cs c d τ S=RS.Rh i cs d τ (c τ S):=by
 unfold XH RS.Rh;cases c τ S<;>rfl
def Lh {i:Nat}{cs:ba}{d:Sm}{τ':ae}:RS.Rh i cs d τ (.nx τ' S)=.nx τ' S:=rfl
def K8 {i:Nat}{cs:ba}{d:Sm}{a:A}:RS.Rh i cs d τ (.rt a S)=.rt a S:=rfl
def Kz {i:Nat}{x:Str}{cs:ba}{d:Sm}:RS.Rh i (x::cs) d τ (.ex x S)=Xv i (d (τ.set i<|.exn x) S):=aM<|.head _
def Hy:A.bls []=some []:=rfl
def Dt {b:Bool}{xs:ae}:A.bls (.bl b::xs)=(A.bls xs).map (b::·):=rfl
end
def nE:type_of% (anI @LS<|anI @DS<|anI @Qf<|anI @KZ<|anI @Mu<|anI @LY<|anI @LU<|anI @O2<|anI @O7<|anI @Ro<|anI @TH<|anI @Q_<|anI @MA<|anI @QN<|anI @Hy<|anI @Dt<|anI @GA<|anI @Kw<|anI @Tz<|anI @LN<|anI @G1<|anI @Lh<|anI @K8<|anI @Kz<|trivial):=anI @LS<|anI @DS<|anI @Qf<|anI @KZ<|anI @Mu<|anI @LY<|anI @LU<|anI @O2<|anI @O7<|anI @Ro<|anI @TH<|anI @Q_<|anI @MA<|anI @QN<|anI @Hy<|anI @Dt<|anI @GA<|anI @Kw<|anI @Tz<|anI @LN<|anI @G1<|anI @Lh<|anI @K8<|anI @Kz<|trivial
end Am
namespace Am
open PySem PySem.Spec PyProof.Rows L2
abbrev Df (K:au)(x:Str)(st:aF):Prop:=∃(f:ak) (fd:FuncData),PySem.W.nsIn K mainGlobals x=some (some<|.ref f)/\Fun K x x st f fd
inductive En (P:aj) (w:ah) (K:au) (mg:Str->bi) (base:aq):Prop
 | mk (h:aq) (X:K.In h) (G:h.Ns mainGlobals mg)
section
variable {P:aj}{w:ah}{K:au}{mg:Str->bi}{base:aq}{x:Str}{st:aF}{ps:ba}{k:Nat}{F:ae->jV->R A}
def En.at(E:En P w K mg base){f:ak}(h:PySem.W.nsIn K mainGlobals x=some (some<|.ref f)):mg x=some (.ref f):=by
 obtain⟨_,X,G⟩:=E;exact gg X G h
def Df.of{f:ak}{kV pm ct:af}(a:PySem.W.nsIn K mainGlobals x=some (some<|.ref f))(l:K.lookup f=some ⟨oc,od,.func<|PySem.W.fnOf x x (wz st) (sD st) (j9 st) .none kV doc pm an cdv ct,osl⟩)(c:PySem.W.codeIn K cdv x=true)(k:PySem.W.keepIn K (.ref f)=true):Df K x st:=⟨f,_,a,Zm l c k⟩
meta abbrev Bi (x:Str)(st:aF)(ps:ba):Prop:=∀us:bb,us.length=ps.length->∀(kV c f:af) (e:Option ak) (d ct:af),bindArgs (PySem.W.fnOf x x (wz st) (sD st) (j9 st) .none kV c f e d ct) ⟨us,[]⟩=pure (ps.zip us)
def Df.get(d:Df K x st)(E:En P w K mg base)(b:Bi x st ps):∃f fd,Fun K x x st f fd/\mg x=some (.ref f)/\PySem.W.keepIn K (.ref f)=true/\Binds K fd ps []:=by
 obtain⟨f,fd,a,F⟩:=d;exact⟨f,fd,F,E.at a,F.kp,F.binds λkV e k j c ct us g=>b us g kV e k j c ct⟩
def Df.kA(d:Df K x st)(E:En P w K mg base)(h:∀{f fd},Fun K x x st f fd->FnOk P w K mg base qi k f fd ps (qP K ps.length F))(b:Bi x st ps):ng P w K mg base k x ps F:=by
 obtain⟨f,fd,a,c,e,g⟩:=d.get E b;exact⟨f,fd,h a,c,e,g⟩
def Df.rA(d:Df K x st)(E:En P w K mg base)(h:∀{f fd},Fun K x x st f fd->mg x=some (.ref f)->PySem.W.keepIn K (.ref f)=true->Binds K fd ps []->FnOk P w K mg base qi k f fd ps (qP K ps.length F))(b:Bi x st ps):ng P w K mg base k x ps F:=by
 obtain⟨f,fd,a,c,e,g⟩:=d.get E b;exact⟨f,fd,h a c e g,c,e,g⟩
end
section
variable {X:Cx}{pos p:Pos}{e1 e2 e3:aE}{x p1 p2 p3:Str}{k K0:Nat}{F:ae->jV->R A}{c1 c2 c3:Ex}
def GO(G:ng X.prog X.w X.K X.mg X.base k x [p1] F)(hr:Room K0 X.A)(h1:AE X e1 c1)(hk:k<=K0<|>θ)(hg:Gl X x<|>ι)(hdb:(x == ("__debug__" : Str))=false<|>θ)(s1:starEach [e1] X.env=(false,eval e1 X.env)::starEach [] X.env<|>ι)(hp:((backTo pos<|starEach [] X.env).any (·.1)=false)<|>ι):AE X (.Call (.Name x p) [e1] [] pos) (eFn F<|jR c1 j6):=pB G (hr.mono hk) (jT h1 jZ s1) (kc lI) hg hdb s1 hp
def zx(G:ng X.prog X.w X.K X.mg X.base k x [p1,p2] F)(hr:Room K0 X.A)(h1:AE X e1 c1)(h2:AE X e2 c2)(hk:k<=K0<|>θ)(hg:Gl X x<|>ι)(hdb:(x == ("__debug__" : Str))=false<|>θ)(s1:starEach [e1,e2] X.env=(false,eval e1 X.env)::starEach [e2] X.env<|>ι)(s2:starEach [e2] X.env=(false,eval e2 X.env)::starEach [] X.env<|>ι)(hp:((backTo pos<|starEach [e2] X.env).any (·.1)=false)<|>ι):AE X (.Call (.Name x p) [e1,e2] [] pos) (eFn F<|jR c1<|jR c2 j6):=pB G (hr.mono hk) (jT h1 (jT h2 jZ s2) s1) (kc<|kc lI) hg hdb s1 hp
def VC(G:ng X.prog X.w X.K X.mg X.base k x [p1,p2,p3] F)(hr:Room K0 X.A)(h1:AE X e1 c1)(h2:AE X e2 c2)(h3:AE X e3 c3)(hk:k<=K0<|>θ)(hg:Gl X x<|>ι)(hdb:(x == ("__debug__" : Str))=false<|>θ)(s1:starEach [e1,e2,e3] X.env=(false,eval e1 X.env)::starEach [e2,e3] X.env<|>ι)(s2:starEach [e2,e3] X.env=(false,eval e2 X.env)::starEach [e3] X.env<|>ι)(s3:starEach [e3] X.env=(false,eval e3 X.env)::starEach [] X.env<|>ι)(hp:((backTo pos<|starEach [e2,e3] X.env).any (·.1)=false)<|>ι):AE X (.Call (.Name x p) [e1,e2,e3] [] pos) (eFn F<|jR c1<|jR c2<|jR c3 j6):=pB G (hr.mono hk) (jT h1 (jT h2 (jT h3 jZ s3) s2) s1) (kc<|kc<|kc lI) hg hdb s1 hp
def uW{N P:ba}{sc:Scope}(a:sc.kind=.function)(b:sc.isCoroutine=false)(c:sc.isGenerator=false)(h:N.Nodup/\N.take P.length=P/\(∀x∈P,sc.names.lookup x=some .local\/sc.names.lookup x=some .cell)/\∀y∈sc.names,y.2≠.free):FnScope N P sc:=⟨a,b,c,h.1,h.2.1,h.2.2.1,h.2.2.2⟩
end
abbrev l_ (S:jV)(n:Nat):Option (List<|Int×A):=match S[n]? with
 | some (.pZ xs)=>some xs
 | _=>none
def qZ{n:Nat}(h:l_ S n=some xs):S[n]?=some (.pZ xs):=by
 unfold l_ at h;split at h
 ·rename_i e;cases h;exact e
 ·cases h
def E9{S:jV}{n:Nat}(h:S[n]?=some (.pZ xs)):l_ S n=some xs:=by
 unfold l_;rw[h]
abbrev oB (kvs:List<|Int×A)(k:Int):Option A:=(kvs.find? λkv=>decide<|kv.1=k).map (·.2)
abbrev zK (kvs:List<|Int×A)(k:Int)(v:A):List (Int×A):=
 if (oB kvs k).isSome=true then kvs.map (λkv=>if kv.1=k then(kv.1,v)else kv)else kvs++[(k,v)]
section
variable {K:au}{ρ:bd}{H:Hp}
def Om{p:Int×A}{r:List<|Int×A}{k:Int}(e:p.1=k):oB (p::r) k=some p.2:=by simp[oB,cC,e]
def N2{p:Int×A}{r:List<|Int×A}{k:Int}(e:¬p.1=k):oB (p::r) k=oB r k:=by simp[oB,cC,e]
def acf{a b:Int}(e:(Sum.inl a:Key)=Sum.inl b):a=b:=by injection e
theorem DI.look:∀{kvs:List<|Int×A}{ks:List<|Key×V}(k:Int),DI K ρ H kvs ks->(oB kvs k).isSome=(rV ks (Sum.inl k:Key)).isSome/\∀x,oB kvs k=some x->∃v,rV ks (Sum.inl k:Key)=some v/\AV K ρ H x v
 | [],[],k,_=>⟨rfl,λx h=>nomatch h⟩
 | p::r,q::r',k,⟨⟨e,a⟩,t⟩=>by
  by_cases c:p.1=k
  ·have d:q.1=(Sum.inl k:Key):=by rw[e,c]
   rw[Om c,vD d];exact⟨rfl,λx h=>by cases h;exact⟨_,rfl,a⟩⟩
  ·have d:¬q.1=(Sum.inl k:Key):=λz=>c<|acf<|e.symm.trans z;rw[N2 c,vn d];exact DI.look k t
theorem DI.repl{x:A}{v:V}(h:AV K ρ H x v)(k:Int):∀{kvs:List<|Int×A}{ks:List<|Key×V},DI K ρ H kvs ks->DI K ρ H (kvs.map λkv=>if kv.1=k then(kv.1,x)else kv) (ks.map λkv=>if kv.1=(Sum.inl k:Key)then(kv.1,v)else kv)
 | [],[],_=>trivial
 | p::r,q::r',⟨⟨e,a⟩,t⟩=>by
  refine⟨?_,DI.repl h k t⟩;dsimp only;by_cases c:p.1=k
  ·rw[aM c,aM<|by rw[e,c]];exact⟨e,h⟩
  ·rw[aJ c,aJ λz=>c<|acf<|e.symm.trans z];exact⟨e,a⟩
theorem DI.snoc{x:A}{v:V}(h:AV K ρ H x v)(k:Int):∀{kvs:List<|Int×A}{ks:List<|Key×V},DI K ρ H kvs ks->DI K ρ H (kvs++[(k,x)]) (ks++[(Sum.inl k,v)])
 | [],[],_=>⟨⟨rfl,h⟩,trivial⟩
 | p::r,q::r',⟨a,t⟩=>⟨a,DI.snoc h k t⟩
def DI.put{x:A}{v:V}(h:AV K ρ H x v)(k:Int){ks:List<|Key×V}(d:DI K ρ H kvs ks):DI K ρ H (zK kvs k x) (putK ks (Sum.inl k:Key) v):=by
 unfold zK putK;rw[yH,<- (d.look k).1];by_cases c:(oB kvs k).isSome=true
 ·rw[aM c,aM c];exact DI.repl h k d
 ·rw[aJ c,aJ c];exact DI.snoc h k d
def DI.length:∀{kvs:List<|Int×A}{ks:List<|Key×V},DI K ρ H kvs ks->kvs.length=ks.length
 | [],[],_=>rfl
 | _::_,_::_,⟨_,t⟩=>dQ (·+1) t.length
theorem DI.keys:∀{kvs:List<|Int×A}{ks:List<|Key×V},DI K ρ H kvs ks->ks.map (·.1)=kvs.map λkv=>(Sum.inl kv.1:Key)
 | [],[],_=>rfl
 | _::_,_::_,⟨⟨e,_⟩,t⟩=>by rw[bL,bL,e,DI.keys t]
def Rel.pZ{n:Nat}{a:ak}(R:Rel K ρ H S)(ha:ρ[n]?=some a)(hS:S[n]?=some (.pZ xs)):∃vs,H a=some (.dK vs)/\DI K ρ H xs vs:=R.at n a _ ha hS
def Rel.abK{S:jV}{p:ak}(R:Rel K ρ H S)(hp:H p=none)(r:DI K ρ H xs vs):Ext ρ (ρ++[p]) H (upd H p<|.dK vs)/\Rel K (ρ++[p]) (upd H p<|.dK vs) (S++[.pZ xs])/\(ρ++[p])[S.length]?=some p:=by
 have ex:Ext ρ (ρ++[p]) H (upd H p<|.dK vs):=⟨⟨e_ _ _,λa u _ h=>by rw[j8<|ko h hp];exact h⟩,λa u h _=>by rw[j8<|ko h hp];exact h,λa h=>by
  rcases bG.mp h with z|z
  ·exact .inl z
  ·have e:a=p:=by simpa using z
   rw[e];exact .inr hp⟩
 have f:p∉ρ:=R.MZ hp;have c:(ρ++[p])[S.length]?=some p:=by rw[<- R.len];simp
 refine⟨ex,⟨by simp[R.len],?_,?_⟩,c⟩
 ·rw[c8];refine⟨R.nd,by simp,λa k b m e=>?_⟩;have:b=p:=by simpa using m
  exact f<|by rw[<- this,<- e];exact k
 ·intro n a o h1 h2;by_cases hn:n<S.length
  ·rw[bF<|by rw[R.len];exact hn]at h1;rw[bF hn]at h2;have na:a≠p:=λz=>f (by rw[<- z];exact aY h1);have:=R.at n a o h1 h2
   cases o with
   | lst ys=>obtain⟨d,e,q⟩:=this;exact⟨d,by rw[j8 na];exact e,q.ext ex⟩
   | dct _|pZ _|u9 _=>obtain⟨d,e,q⟩:=this;exact⟨d,by rw[j8 na];exact e,q.ext ex⟩
   | ins _ _=>obtain⟨g,j,e⟩:=this;exact⟨g,j,by rw[j8 na];exact e⟩
  ·have e:n=S.length:=by
    have:=(aN.mp h2).1;simp at this
    lia
   subst e;rw[c]at h1
   cases h1
   simp at h2;subst h2;exact⟨vs,lE,r.ext ex⟩
def Rel.zK{S:jV}{n:Nat}{a:ak}(R:Rel K ρ H S)(ha:ρ[n]?=some a)(hS:S[n]?=some (.pZ xs))(r:DI K ρ H ys ws):Ext ρ ρ H (upd H a<|.dK ws)/\Rel K ρ (upd H a<|.dK ws) (S.set n<|.pZ ys):=by
 obtain⟨k,e,_⟩:=R.at n a _ ha hS;have ex:Ext ρ ρ H (upd H a<|.dK ws):=⟨⟨eX _,λb u i h=>by
  have:b≠a:=by
   intro z;subst z;rw[e]at h;cases h;exact i
  rw[j8 this];exact h⟩,λb u h n=>by
  rw[j8 λz=>n<|by rw[z];exact aY ha];exact h,λ_ h=>.inl h⟩
 refine⟨ex,by rw[bW];exact R.len,R.nd,λm b o h1 h2=>?_⟩;by_cases f:m=n
 ·subst f;rw[ha]at h1;cases h1;rw[bJ (aN.mp hS).1]at h2
  cases h2
  exact⟨ws,lE,r.ext ex⟩
 ·rw[bP<|c9 f]at h2;have nb:b≠a:=λz=>by
   subst z;obtain⟨B,e1⟩:=aN.mp ha;obtain⟨p,e2⟩:=aN.mp h1;exact f<|(dB R.nd).mp<|e2.trans e1.symm
  have:=R.at m b o h1 h2
  cases o with
  | lst ys=>obtain⟨c,d,q⟩:=this;exact⟨c,by rw[j8 nb];exact d,q.ext ex⟩
  | dct _|pZ _|u9 _=>obtain⟨c,d,q⟩:=this;exact⟨c,by rw[j8 nb];exact d,q.ext ex⟩
  | ins _ _=>obtain⟨g,j,d⟩:=this;exact⟨g,j,by rw[j8 nb];exact d⟩
end
section
variable {X:Cx}{pos:Pos}{a b:aE}
abbrev zO (x y:A)(S:jV):R A:=match x,y with
 | .ref n,.int k=>opt (l_ S n) λkvs=>opt (oB kvs k) λv=>.ok v S
 | _,_=>.no
def M3{x:A}{P:A->jV->Prop}{E:Str->jV->Prop}(h:(zO x y S).post P E):∃n k kvs v,x=.ref n/\y=.int k/\l_ S n=some kvs/\oB kvs k=some v/\P v S:=by
 unfold zO at h;split at h
 ·obtain⟨kvs,h1,h⟩:=j5 h;obtain⟨v,h2,h⟩:=j5 h;exact⟨_,_,kvs,v,rfl,rfl,h1,h2,h⟩
 ·exact h.elim
def acL(hu:X.A.units+64<cLine):UD X (r2 X zO):=λvalue slice pins s σ H x y v u Q I rx ry ⟨ρ,S,a,b,R,va,vb,h⟩ hs=>by
 obtain⟨n,k,kvs,z,c,m,hn,j,hP⟩:=M3 h;subst c m
 cases vb
 cases va with
 | @ref p _ f=>
  obtain⟨ks,e,d⟩:=R.pZ f<|qZ hn;obtain⟨w,hw,q⟩:=(d.look k).2 z j;have g:xF H p (kV<|Sum.inl k) (rV ks<|Sum.inl k):=xF.k e;rw[hw]at g;exact Lp () value slice pins s σ H _ _ v u Q I rx ry ⟨p,w,rfl,g,hP _ _ _ .refl R q⟩ hs
def FP(hu:X.A.units+64<cLine){ca cb:Ex}(ha:AE X a ca)(hb:AE X b cb)(hs:yF b<|>ο):AE X (.Subscript a b pos) (j7 zO ca cb):=PE.imp (KL (acL hu) ha hb hs) λσ H Q h=>uI h
abbrev DQ (o i v:A)(S:jV):R Unit:=match o,i with
 | .ref n,.int k=>opt (l_ S n) λkvs=>gd (kvs.length<sizeLine) (.ok Unit.unit<|S.set n<|.pZ<|zK kvs k v)
 | _,_=>.no
def IL{x v:A}{S:jV}{P:Unit->jV->Prop}{E:Str->jV->Prop}(h:(DQ x y v S).post P E):∃n k kvs,x=.ref n/\y=.int k/\l_ S n=some kvs/\kvs.length<sizeLine/\P Unit.unit (S.set n<|.pZ<|zK kvs k v):=by
 unfold DQ at h;split at h
 ·obtain⟨kvs,h1,h⟩:=j5 h;obtain⟨h2,h⟩:=kF h;exact⟨_,_,kvs,rfl,rfl,h1,h2,h⟩
 ·exact h.elim
abbrev ad9 (X:Cx):Fo:=λo i v H Q=>∃ρ S e d c,Rel X.K ρ H S/\AV X.K ρ H e o/\AV X.K ρ H d i/\AV X.K ρ H c v/\(DQ e d c S).post (λ_ f=>∀ρ' H',Ext ρ ρ' H H'->Rel X.K ρ' H' f->Q H') (XE X ρ H)
def Wi(hu:X.A.units+64<cLine):EA X (ad9 X):=λpins s σ H o i v ov iv u Q I q f C h9=>by
 obtain⟨ρ,S,J,G,F,R,h1,h2,h3,h⟩:=h9;obtain⟨n,k,kvs,g,m,hn,j,hP⟩:=IL h;subst g m
 cases h2
 cases h1 with
 | @ref p _ c=>
  obtain⟨ks,e,d⟩:=R.pZ c<|qZ hn;obtain⟨ex,B⟩:=R.zK c (qZ hn)<|d.put h3 k;exact set_dict (by omega) pins s σ H _ _ v ov iv u Q I q f C ⟨p,_,rfl,F0.k (k:=Sum.inl k) e<|by rw[<- d.length];exact j,hP _ _ ex B⟩
abbrev G_ (co ci:Ex):Tg:=λa τ S=>(co τ S).bind λo S1=>(ci τ S1).bind λi S2=>(DQ o i a S2).bind λ_ S3=>.ok τ S3
def A1(hu:X.A.units+64<cLine){co ci:Ex}(ho:AE X o co)(hi:AE X i ci)
  (ha:(∀v,assign (.Subscript o i pos) X.env v=(do
   let ov <- holding [v] (eval o X.env)
   let iv <- holding [v,ov] (eval i X.env)
   standAt pos
   holding [v,ov,iv] (setItem ov iv v)
   release [v,ov,iv] []))<|>ν):AG X (.Subscript o i pos) (G_ co ci):=PG.imp (EC ho hi (Wi hu) ha) λv σ H Q h9=>by
 obtain⟨ρ,S,τ,a,R,r,va,h⟩:=h9;refine⟨ρ,S,τ,R,r,jX (j4 h) .refl λo S1 h1 ρ1 H1 x e1 R1 v1=>⟨ρ1,S1,τ,R1,r.ext e1,jX (j4 h1) e1 λi S2 h2 ρ2 H2 y e2 R2 v2=>?_⟩⟩;refine⟨ρ2,S2,o,i,a,R2,v1.ext e2,v2,va.ext (e1.trans e2),jX (j4 h2) (e1.trans e2) λ_ S3 h3 ρ3 H3 e3 R3=>?_⟩;kpf_c
abbrev B8:Ex:=λ_ S=>.ok (.ref S.length)<|S++[.pZ []]
def Cc:AE X (.Dict [] [] pos) B8:=PE.imp T9 λσ H Q ⟨ρ,S,τ,R,r,h⟩ p d=>by
 obtain⟨ex,c,e⟩:=R.abK (xs:=[]) (vs:=[]) d trivial;exact h _ _ _ ex c<|.ref e
abbrev dk? (a:A)(S:jV):Option Unit:=match a with
 | .ref n=>(l_ S n).map λ_=>Unit.unit
 | _=>none
abbrev F4 (f:A->ae->jV->R A)(co:Ex)(d:tH):Ex:=λτ S=>(co τ S).bind λx S1=>opt (dk? x S1) λ_=>(d τ S1).bind λas S2=>f x as S2
def dk?_ty{K:au}{H:Hp}{x:A}{v:V}(R:Rel K ρ H S)(a:AV K ρ H x v)(e:dk? x S=some u):tyV K "dict" v H:=by
 cases a with
 | @ref p n h=>
  obtain⟨xs,c,_⟩:=bg.mp e;obtain⟨d,h1,_⟩:=R.pZ h<|qZ c;exact .inr<|.inr<|.inl ⟨rfl,.inl ⟨d,h1⟩⟩
 | _=>cases e
def EV{e:aE}{id:String}{apos cpos:Pos}{f:A->ae->jV->R A}{co:Ex}{d:tH}(slot:Slot "dict" name id)(hty:typeOf (.builtin id)=pure (.type "method_descriptor"))(hm:Xu X id<|rM X f)(ho:AE X o co)(ha:AL X (e::es) d)
  (hbase:attributeBase o name X.env (eval o X.env)=eval o X.env<|>ι)
  (hfew:(((backTo cpos<|starEach (e::es) X.env).all (λx=>!x.1) && (backToKw cpos<|keywordEach [] X.env).all (λx=>x.1.isSome)
   && decide ((e::es).length+([]:List Keyword).length+(if ([]:List Keyword).isEmpty then 0 else 1)<30))=true)<|>ι)
  (hline:(apos.endLine == cpos.line)=true<|>ι) (hs:starEach (e::es) X.env=(false,eval e X.env)::starEach es X.env<|>ι) (hplain:((backTo cpos<|starEach es X.env).any (·.1)=false)<|>ι) :
  AE X (.Call (.Attribute o name apos) (e::es) [] cpos) (F4 f co d):=PE.imp (Ss PySem.F.plainAttrs_dict slot hty hm ho ha hbase hfew hline hs hplain) λσ H Q h9=>by
 z_go;refine⟨ρ,S,τ,R,r,jX (j4 h) .refl λx S1 h1 ρ1 H1 v e1 R1 v1=>?_⟩;obtain⟨xs,c,h1⟩:=j5 h1;refine⟨dk?_ty R1 v1 c,ρ1,S1,τ,R1,r.ext e1,jX (j4 h1) e1 λas S2 h2 ρ2 H2 g e2 R2 v2=>?_⟩;exact⟨ρ2,S2,x,as,R2,v1.ext e2,v2,jX h2 (e1.trans e2) λ_ _ z=>z.ext (e1.trans e2)⟩
abbrev wX (o:A)(as:ae)(S:jV):R A:=match o,as with
 | .ref n,[.int k,y]=>opt (l_ S n) λkvs=>.ok ((oB kvs k).getD y) S
 | _,_=>.no
def JF{x:A}{P:A->jV->Prop}{E:Str->jV->Prop}(h:(wX x as S).post P E):∃n k y kvs,x=.ref n/\as=[.int k,y]/\l_ S n=some kvs/\P ((oB kvs k).getD y) S:=by
 unfold wX at h;split at h
 ·obtain⟨kvs,h1,h⟩:=j5 h;exact⟨_,_,_,kvs,rfl,rfl,h1,h⟩
 ·exact h.elim
def FN(hu:X.A.units+64<cLine):Xu X "dict.get" (rM X wX):=λpins s σ H x M v us Q I rx G h9=>by
 obtain⟨ρ,S,o,as,R,C,va,h⟩:=h9;obtain⟨n,k,y,kvs,e,has,hn,hP⟩:=JF h;subst e has;obtain⟨O,L,rfl,m,B⟩:=VV va
 cases m
 cases C with
 | @ref p _ j=>
  obtain⟨ks,h1,f⟩:=R.pZ j (qZ hn)
  cases rx
  obtain⟨N,P,rfl,r1,r2⟩:=vals2 G;refine Z_ (by omega) I (xF.k (k:=Sum.inl k) h1) r1 r2 λK s' g c=>⟨_,H,g,c,hP _ _ _ .refl R ?_⟩;obtain⟨d,q⟩:=f.look k
  cases e1:oB kvs k with
  | none=>
   rw[e1]at d
   cases e2:rV ks (Sum.inl k:Key)with
   | none=>exact B
   | some _=>rw[e2]at d;cases d
  | some F=>
   obtain⟨v1,e2,J⟩:=q F e1;rw[e2];exact J
end
end Am
namespace L2
open PySem PySem.Spec PyProof.Rows
section
variable {P:aj}{w:ah}{A:aA}{E:af->aC->Prop}{s:aC}{it d:ak}{i ep:Nat}{es:Array DictEntry}{o:Obj}
def aaA{Q:bi->aC->Prop}(hi:s.heap.IsKeyIter it d i es.size ep)(ho:s.heap.get? d=some o)(hd:o.data=.dict es ep)(lt:i<es.size)
  (q:∀h',h'.IsKeyIter it d (i+1) es.size ep->Heap.SameBut it s.heap h'->Q (some es[i].key) { s with heap:=h' }):wpAny (model P w) A (pyNext<|.ref it) Q E s:=by
 have ty:=hi.typeIs;obtain⟨p,e,g,c⟩:=id hi;have own:Builtin.Dict_items.ownsTuple "dict_keyiterator" = false:=by decide
 have k:¬((Value.ref d == Value.none)=true):=bR;have m:¬((i:Int)<0):=by omega
 unfold pyNext;refine aG<|iW<|dm (name:=Str.ofString "__next__") ty dc<|cN dc ty gM ?_<|gI _;refine aG (aQ<|aG<|aG ?_)
 first
  | refine aG (eF ty<|aQ<|aG<|ju e c ?_)
  | refine aG<|fK ty<|aQ<|aG<|ju e c ?_
 dsimp[own,bU,a_];show wpAny (model P w) _ (if (Value.ref d == Value.none)=true then _ else _) _ _ s;rw[aJ k];refine aG<|aQ<|aG<|jA ho hd ?_;rw[aJ<|show ¬_ by simp];refine aG<|aQ<|aG<|wpAny_dictEpoch ho hd ?_;rw[aJ<|show ¬_ by simp];refine aQ ?_;dsimp[m,bU,c7,Array.getElem?_eq_getElem lt];refine aG ?_
 first
  | refine aG (eF ty<|aQ<|aG<|iN ty ?_)
  | refine aG<|fK ty<|aQ<|aG<|iN ty ?_
 show wpAny (model P w) _ (setField (.ref it) 1 (rawInt<|(i:Int)+1) >>= _) _ _ s;refine aG (iu e c (show _ by simp) ?_);have f:(s.heap.update it<|Obj.mapFields λfs=>fs.setIfInBounds 1<|rawInt<|(i:Int)+1).IsKeyIter it d (i+1) es.size ep:=
  ⟨_,gh _ e<|iL<|eZ c _,(jz ..).trans g,by
   rw[eZ c];simp[rawInt]⟩
 have j:Shared.TypeIs { s with heap:=s.heap.update it<|Obj.mapFields λfs=>fs.setIfInBounds 1<|rawInt<|(i:Int)+1} (.ref it) "dict_keyiterator" := Heap.IsKeyIter.typeIs (s:={ s with heap:=_ }) f;refine aG (dw<|aG<|iN j ?_)
 skip
 exact aQ<|aQ ⟨_,rfl,aQ<|q _ f<|fO ..⟩
def V0{Q:bi->aC->Prop}(hh:A.handled=none)(hi:s.heap.IsKeyIter it d i es.size ep)(ho:s.heap.get? d=some o)(hd:o.data=.dict es ep)(ge:es.size<=i)
  (q:∀h',Heap.ExtBut it s.heap h'->Q none { s with heap:=h' }):wpAny (model P w) A (pyNext<|.ref it) Q E s:=by
 have ty:=hi.typeIs;obtain⟨k,c,f,e⟩:=id hi;have own:Builtin.Dict_items.ownsTuple "dict_keyiterator" = false:=by decide
 have g:¬((Value.ref d == Value.none)=true):=bR;have j:¬((i:Int)<0):=by omega
 unfold pyNext;refine aG<|iW<|dm (name:=Str.ofString "__next__") ty dc<|cN dc ty gM ?_<|gI _;refine aG (aQ<|aG<|aG ?_)
 first
  | refine aG (eF ty<|aQ<|aG<|ju c e ?_)
  | refine aG<|fK ty<|aQ<|aG<|ju c e ?_
 dsimp[own,bU,a_];show wpAny (model P w) _ (if (Value.ref d == Value.none)=true then _ else _) _ _ s;rw[aJ g];refine aG<|aQ<|aG<|jA ho hd ?_;rw[aJ<|show ¬_ by simp];refine aG<|aQ<|aG<|wpAny_dictEpoch ho hd ?_;rw[aJ<|show ¬_ by simp];refine aQ ?_;dsimp[j,bU,c7,iF ge];refine aG ?_
 first
  | refine aG (eF ty<|aQ ?_)
  | refine aG<|fK ty<|aQ ?_
 show wpAny (model P w) _ (setField (.ref it) 0 .none >>= _) _ _ s;refine aG (iu c e (show _ by simp) ?_)
 skip
 refine aG ?_;dsimp[newExc,newTuple];refine aG (cA (aG (m:=firstArgMember _ _)<|iZ (a:=Value.none) (by first|rfl|(dsimp[firstArgMember];rfl))<|cA ?_<|by size_fits)<|by size_fits);dsimp[raiseNew];have hn:A.in1.handled=none:=hh;refine aG<|wpAny_handled<|?_;rw[hn];refine aG<|aQ<|wpAny_throw<|?_;refine aG<|gD (b:=true) (T := "StopIteration") ⟨_,bz _ rfl,rfl⟩ isSubtype_stop<|aQ<|q _<|((fO ..).extBut.push _).push _
def IJ{Q:af->aC->Prop}(ty:s.TypeIs (.ref d) "dict")(hs:(d == sysModules)=false)(ho:s.heap.get? d=some o)(hd:o.data=.dict es ep)
  (q:Q (.ref s.heap.objs.size) { s with heap:=s.heap.push { cls:=.type "dict_keyiterator",data:=.fields #[.ref d,.int 0 0,.int es.size 0,.int ep 0]}}):wpAny (model P w) A (pyIter<|.ref d) Q E s:=by
 refine wpAny_pyIter_slot ty PySem.F.slot_dict_iter<|cN PySem.F.slot_dict_iter ty PySem.F.entry_dict_iter ?_<|PySem.F.args_dict_iter_1 _;delta Builtin.«dict.__iter__»;refine aG ?_;delta Builtin.Dict.dictSlotNone;refine aG (iO ty ?_)
 skip
 refine aQ ?_;show wpAny (model P w) _ (Builtin.Dict.showsAll d >>= _) _ _ s;delta Builtin.Dict.showsAll;have nd:¬((d == sysModules)=true):=by rw[hs];exact bR
 rw[aJ nd];refine aG<|aQ<|aG<|jA ho hd<|aG<|wpAny_dictEpoch ho hd ?_;refine aG<|cA<|aQ ⟨_,rfl, "dict_keyiterator",_,⟨_,bz _ rfl,rfl⟩,dc.lookup,?_⟩;simpa[rawInt]using q
end
section
variable {P:aj}{w:ah}
def Nn{A:aA}(hh:A.handled=none)(it d:ak)(ne:d≠it){es:Array DictEntry}{o:Obj}(hd:o.data=.dict es ep) :
  Walks P w A it [it,d] [it] es.size (λi v=>(es[i]?).map (λe=>e.key)=some v) (λi h=>h.IsKeyIter it d i es.size ep/\h.get? d=some o) where
 sub:=λb j=>by
  rw[aS.mp j];exact aK ..
 frame:=λ_ _ _ st c=>⟨st.1.at λx e=>c it (aK ..) x e,c d (aO _<|aK ..) o st.2⟩
 item:=λi s Q E lt st q=>aaA st.1 st.2 hd lt λh' g f=>q _ h' s.toks (by rw[Array.getElem?_eq_getElem lt];rfl) ⟨g,f.extBut d o ne st.2⟩ λb x nb e=>f.extBut b x (λz=>nb<|aS.mpr z) e
 done:=λs Q E st q=>V0 hh st.1 st.2 hd (aP _) λh' k=>q h' s.toks λb x nb e=>k b x (λz=>nb<|aS.mpr z) e
 self:=λ_ _ _ _ st q=>wpAny_pyIter_keyiter st.1 q
def WE{d:ak}{es:Array DictEntry}{o:Obj}(hs:(d == sysModules)=false)(hc:o.cls=.type "dict")(hd:o.data=.dict es ep) :
  PySem.W.KdlSrc P w "dict" d d es.size (λi v=>(es[i]?).map (λe=>e.key)=some v) (λh=>h.get? d=some o) where
 type:=λ_ c=>⟨o,c,hc⟩
 there:=λ_ c=>⟨bA c,bA c⟩
 keep:=λ_ _ c j=>j d (.inl rfl) o c
 notList:=by decide
 notTuple:=by decide
 hint:=λ_ _ _ _ c f=>PySem.W.kdl_hint_dict ⟨o,c,hc⟩ f
 iter:=λ_ s g c=>⟨_,_,(λ_ _ f=>IJ ⟨o,c,hc⟩ hs c hd f),Nn g _ d (bD<|bA c) hd,⟨⟨_,bz _ rfl,rfl,rfl⟩,aR _ c⟩⟩
end
section
variable {X:Cx}
def aac{H:Hp}{s:aC}{d:ak}{kvs:List<|List Key×V}(I:Inv X pins σ H s)(ed:H d=some (.dT kvs)) :
  ∃(ob:Obj) (es:Array DictEntry) (ep:Nat) (rs:bd),s.heap.get? d=some ob/\ob.cls=.type "dict" /\ ob.data=.dict es ep/\(d == sysModules)=false/\kvs.length<=sizeLine/\rs.length=kvs.length/\es.size=kvs.length /\
   (∀i:Nat,(es[i]?).map (λe:DictEntry=>e.key)=(rs[i]?).map Value.ref)/\∀(i:Nat) r p,rs[i]?=some r->kvs[i]?=some p->H r=some (.tup<|p.1.map kV):=by
 obtain⟨z,B,xs,c,q⟩:=Qz I.hok ed;obtain⟨ob,es,ep,m,k,C,g,G,J⟩:=id q;obtain⟨j,F⟩:=kt_at c;have f:es.size=xs.length:=by have:=dQ List.length g;simpa using this
 refine⟨ob,es,ep,xs.map λy=>y.2.1,m,k.1,C,B,z,by rw[aI,j],by rw[f,j],λi=>?_,λi r p e1 e2=>?_⟩
 ·rw[<- d7,g,aX,aX,iG,iG]
  cases xs[i]?<;>rfl
 ·obtain⟨y,h1,h2,h3,K⟩:=F i p e2;rw[aX,h1]at e1
  cases e1
  exact h3
def FO(hc:X.calm=true):kO X (.builtin "sorted") (λxs H Q=>∃(d:ak) (kvs:List<|List Key×V) (kss:List<|ag),xs=[.ref d]/\H d=some (.dT kvs)/\kvs.map (λp=>p.1)=kss.map (λks=>ks.map Sum.inl)/\(∀ks∈kss,ks≠[]) /\
  ∀(rs:bd) l g,rs.length=kss.length->(∀(i:Nat) (r:ak) (ks:ag),rs[i]?=some r->kss[i]?=some ks->H r=some (.tup<|ks.map V.int))->H l=none->Sx.Cl g 0 kss.length->Sx.So (Sx.Tu kss) g 0 kss.length ->
   Q (.ref l) (upd H l<|.lst<|((List.range kss.length).map λi=>rs.getD (g i) 0).map V.ref)):=by
 k_ne;obtain⟨d,kvs,kss,rfl,K,G,k,q⟩:=h;kpc_g
 cases rx
 obtain⟨ob,es,ep,rs,N,L,U,J,C,f,O,Y,Z⟩:=aac I K;have B:kvs.length=kss.length:=by have:=dQ List.length G;simpa using this
 have F:∀(i:Nat) (r:ak) (ks:ag),rs[i]?=some r->kss[i]?=some ks->H r=some (.tup<|ks.map V.int):=λi r ks e1 e2=>by
  have lt:i<kvs.length:=by rw[B];exact(aN.mp e2).1
  have h1:=Z i r kvs[i] e1 (aH lt);have h2:(kvs.map λp=>p.1)[i]?=(kss.map λks=>ks.map Sum.inl)[i]?:=by rw[G]
  rw[aX,aX,e2,aH lt]at h2;have h3:kvs[i].1=ks.map Sum.inl:=aZ h2;rw[h3,bK]at h1;exact h1
 refine Calls.call_function_entry kind_sorted plain_sorted entry_sorted (args_sorted1 _) ?_;unfold Builtin.«sorted»;refine aG (m:=checkCount "sorted" 1 1 _)<|aQ ?_;refine aG (PySem.W.kdu_collect (WE J L U) (show X.A.in1.handled=none from I.ok.hd hc) N (by rw[O];exact C) λh' T acc M c=>?_);have P:acc.toList=rs.map Value.ref:=by
  refine cJ λj=>?_;rw[d7,aX,<- Y j]
  cases e:acc[j]? with
  | some v=>exact(c.2 j v e).symm
  | none=>
   have:acc.size<=j:=Array.getElem?_eq_none_iff.mp e;rw[iF<|by rw[<- c.1];exact this];rfl
 rw[P];exact NZ (s:=s) (I.kept (t':=T) M) (by rw[f,B]) (by rw[f];exact C) (λi r ks e1 e2=>⟨oF.of<|F i r ks e1 e2,k ks<|aY e2⟩) λl g h1 h2 h3=>q rs l g (by rw[f,B]) F h1 h2 h3
end
section
variable {P:aj}{w:ah}{A:aA}{E:af->aC->Prop}{s:aC}
def Oa:typeLookup (.type "list") "keys" = pure none:=am_miss_of_fast<|by kernel_rfl
def Dq{a:ak}{o:Obj}{k:Nat}{Q:bi->aC->Prop}(hx:s.heap.get? a=some o)(hc:o.cls=.type "list")(hdat:o.data=.seq xs k)(hd:o.dict=none)(hA:A.handled=none)
  (h:∀h' tk,(∀b ob,s.heap.get? b=some ob->h'.get? b=some ob)->Q none { s with heap:=h',toks:=tk }):wpAny (model P w) A (getAttr? (.ref a) "keys") Q E s:=by
 obtain⟨c,dct,q,B⟩:=o;simp only at hc hdat hd;subst hc hdat hd;obtain⟨p,g,d,tk,C⟩:=s;have m:∀j,(⟨p,g,d,j,C⟩:aC).TypeIs (.ref a) "list" := λ_=>⟨_,hx,rfl⟩;have f1:=sub_AttributeError;have f3:=gO.lookup;have f4:=gO.bind<|.ref a;have f5:=am_list_getattr_none;unfold getAttr? getAttrBy? getAttrBy
 repeat (any_goals (first|assumption|exact m _|((with_reducible show wpAny _ _ (call (Value.builtin "list.__getattribute__") _ _) _ _ _);refine jm gO (m _) am_entry_list_getattribute (F.args_list_getattribute_2 _ _) (meets_getattribute_miss_list a xs k B "keys" _ Oa ⋯ (by size_fits)) ⟨hx,hA,λh' j e f=>?_⟩)|wp_step))
 obtain⟨J,K,G⟩:=f.there
 skip
 unfold getattributeRaised
 repeat (any_goals (first|assumption|wp_step))
 exact h _ _ f.keeps
def wF:entryFor table "dict.update.loop" = some Builtin.«dict.update.loop»:=entryFor_of_tree<|by kernel_rfl
def pC:plainId "dict.update.loop" = true:=by decide +kernel
abbrev OH (h:aq)(d I:ak)(its:bb)(ps:List<|Int×af):Prop:=∀(i:Nat) (v:af),its[i]?=some v->∃(b:ak) (p:Int×af) (t:Tok),v=.ref b/\b≠d/\b≠I/\ps[i]?=some p/\IsTup h b #[.int p.1 t,p.2]
def OH.mono{h h':aq}{d:ak}(x:OH h d I its ps)(k:∀b o,b≠d->b≠I->h.get? b=some o->h'.get? b=some o):OH h' d I its ps:=λi v hv=>by
 obtain⟨b,p,t,h1,h2,h3,f,o,e,c⟩:=x i v hv;exact⟨b,p,t,h1,h2,h3,f,o,k b o h2 h3 e,c⟩
abbrev Zl (ps:List<|Int×af):List (Key×af):=ps.foldl (λacc p=>stored acc (Sum.inl p.1) p.2) []
def Sf(ps:List<|Int×af)(i:Nat)(p:Int×af)(h:ps[i]?=some p):Zl (ps.take<|i+1)=stored (Zl<|ps.take i) (Sum.inl p.1) p.2:=by
 unfold Zl;rw[dM,h,cR];rfl
theorem JW:∀(ps:List<|Int×af) (acc:List<|Key×af),(ps.foldl (λacc p=>stored acc (Sum.inl p.1) p.2) acc).length<=acc.length+ps.length
 | [],acc=>aP _
 | p::ps,acc=>by
  have:=JW ps<|stored acc (Sum.inl p.1) p.2;have h:(stored acc (Sum.inl p.1) p.2).length<=acc.length+1:=by
   unfold stored;split
   ·rw[aI];lia
   ·rw[aV];exact aP _
  rw[dS,bu]
  lia
def QE{R:Result->aC->Prop}{I l d:ak}{St:Nat->aq->Prop}{its:bb}{ps:List<|Int×af}(W:Walks P w A.in1 I [I,l] [I] its.length (λi v=>its[i]?=some v) St)(hdI:d≠I)(hdl:d≠l)(hl:ps.length=its.length)(hz:ps.length<=sizeLine) :
  ∀(k i:Nat) (s:aC),its.length-i=k->i<=its.length->St i s.heap->s.heap.DictOf (k_ P w) d (Zl<|ps.take i)->OH s.heap d I its ps ->
   (∀h' tk,h'.DictOf (k_ P w) d (Zl ps)->(∀b o,b≠d->b≠I->s.heap.get? b=some o->h'.get? b=some o)->R (.ok<|.ret .none) { s with heap:=h',toks:=tk }) ->
   codeAny (model P w) A (.builtin "dict.update.loop" ⟨[.ref d,.ref I,rawInt i,.none],[]⟩) R s:=by
 intro k
 induction k with
 | zero=>
  intro i s hk hi f G hP Y;have V:i=its.length:=()
  subst V;refine fq wF ?_;rw[eE pC _]
  skip
  refine aG (W.done s _ _ f λh' tk m=>?_)
  skip
  refine aG (aQ<|aQ<|Y h' tk ?_ λb o _ h2 e=>m b o (by simpa using h2) e);rw[<- hl,dU]at G;obtain⟨o,es,ep,j,rest⟩:=G;exact⟨o,es,ep,m d o (by simpa using hdI) j,rest⟩
 | succ k ih=>
  intro i s hk hi f G hP Y;have F:i<its.length:=()
  refine fq wF ?_;rw[eE pC _]
  skip
  refine aG<|W.item i s _ _ F f λv h' tk hv B m=>?_;have K:OH h' d I its ps:=hP.mono λb o h1 h2 e=>m b o (by simpa using h2) e;obtain⟨b,p,t,rfl,hbd,hbI,hp,o,j,hc,n,hd⟩:=K i v hv;have N:h'.DictOf (k_ P w) d (Zl<|ps.take i):=by
   obtain⟨o,es,ep,j,rest⟩:=G;exact⟨o,es,ep,m d o (by simpa using hdI) j,rest⟩
  have hT:Shared.TypeIs { s with heap:=h',toks:=tk } (.ref b) "tuple" := ⟨o,j,hc⟩;have g:∀(A:aA) (E:af->aC->Prop) (Q:bb->aC->Prop),Q [.int p.1 t,p.2] { s with heap:=h',toks:=tk }->wpAny (model P w) A (Builtin.Dict.pairItems<|.ref b) Q E { s with heap:=h',toks:=tk }:=λA E Q q=>by
   unfold Builtin.Dict.pairItems;refine aG<|fY hT ?_;rw[aM ⋯];refine aG<|fS j hd<|aQ q
  have C:(Zl<|ps.take i).length<=sizeLine:=by
   refine bH (JW (ps.take i) []) ?_;rw[bE,bX]
   lia
  refine aG (dw<|aG<|wpAny_tryCatch<|g _ _ _ ?_)
  skip
  refine dw (wpAny_dictSet_pairs (hsz:=C) (knd:=k_ P w) (k:=Sum.inl p.1) (s:={ s with heap:=h',toks:=tk }) (show Value.isInt p.1 (.int p.1 t)=true by simp[Value.isInt]) N λh2 O hs=>?_);refine aQ ⟨iV pC _,?_⟩;have c:∀b o,b≠d->b≠I->s.heap.get? b=some o->h2.get? b=some o:=λb o h3 J e=>by rw[hs.2 b h3];exact m b o (by simpa using J) e
  refine ih (i+1) _ () F (W.frame _ _ _ B λb hb o e=>?_) (by rw[Sf ps i p hp];exact O) (hP.mono c) λh3 T U L=>Y h3 T U λb o J Z e=>L b o J Z<|c b o J Z e;have M:b≠d:=by
   intro z;subst z
   rcases bB.mp hb with z|z
   ·exact hdI z
   ·exact hdl<|by simpa using z
  skip
  rw[hs.2 b M];exact e
theorem D5{H:Hp}{X:Cx}(I:Inv X pins σ H s):∀(rs:bd) (ps:List<|Int×V),rs.length=ps.length->(∀(i:Nat) (r:ak) (q:Int×V),rs[i]?=some r->ps[i]?=some q->oF X.K H r [.int q.1,q.2]) ->
  ∃qs:List<|Int×af,KV ps qs/\∀(i:Nat) (r:ak),rs[i]?=some r->∃q t,qs[i]?=some q/\IsTup s.heap r #[.int q.1 t,q.2]
 | [],[],_,_=>⟨[],.nil,λi r h=>by simp at h⟩
 | [],_::_,h,_=>nomatch h
 | _::_,[],h,_=>nomatch h
 | r::rs,p::ps,hl,hh=>by
  obtain⟨qs,h1,h2⟩:=D5 I rs ps (by simpa using hl) λi r q e1 e2=>hh (i+1) r q (by simpa using e1) (by simpa using e2);obtain⟨d,k,j,_⟩:=I.tuple<|hh 0 r p rfl rfl;obtain⟨f,c,rfl,r1,r2⟩:=vals2 k;obtain⟨t,rfl⟩:∃t,f=Value.int p.1 t:=r1;refine⟨(p.1,c)::qs,.cons ⟨rfl,r2⟩ h1,λi g e=>?_⟩
  cases i with
  | zero=>cases e;exact⟨(p.1,c),t,rfl,j⟩
  | succ i=>exact h2 i g<|by simpa using e
abbrev ptP (ps:List<|Int×V):List (Key×V):=ps.foldl (λacc p=>putK acc (Sum.inl p.1) p.2) []
def abz:∀{ps:List<|Int×V}{qs:List<|Int×af},KV ps qs->∀{as:List<|Key×V}{bs:List<|Key×af},KV as bs->KV (ps.foldl (λacc p=>putK acc (Sum.inl p.1) p.2) as) (qs.foldl (λacc p=>stored acc (Sum.inl p.1) p.2) bs):=by
 intro ps qs h;unfold KV at h
 induction h with
 | nil=>exact λh=>h
 | @cons p q ps qs h t c=>
  intro as bs h2;rw[dS,dS];obtain⟨e,r⟩:=h;rw[e];exact c<|h2.put _ r
theorem Ml:∀(ps:List<|Int×V) (acc:List<|Key×V),(ps.foldl (λacc p=>putK acc (Sum.inl p.1) p.2) acc).length<=acc.length+ps.length
 | [],acc=>aP _
 | p::ps,acc=>by
  have:=Ml ps<|putK acc (Sum.inl p.1) p.2;have:=sE acc (Sum.inl p.1) p.2;rw[dS,bu]
  lia
end
section
variable {X:Cx}
def JK(hc:X.calm=true):kO X (.type "dict") (λxs H Q=>∃(p:ak) (rs:bd) (ps:List<|Int×V),xs=[.ref p]/\qj X.K H p (rs.map V.ref)/\rs.length=ps.length /\
  (∀(i:Nat) (r:ak) (q:Int×V),rs[i]?=some r->ps[i]?=some q->oF X.K H r [.int q.1,q.2])/\∀l,H l=none->Q (.ref l) (upd H l<|.dK<|ptP ps)):=by
 k_ne;obtain⟨p,rs,ps,rfl,Z,m,hT,q⟩:=h;kpc_g
 cases rx
 obtain⟨its,rv,pl,hz⟩:=I.list Z;have ei:=zG rv;subst ei;rw[aI]at hz;obtain⟨M,kv,tp⟩:=D5 I rs ps m hT;have ql:ps.length=M.length:=kv.length;obtain⟨o,n,N,j,G,hd⟩:=pl;have lp:p<s.heap.objs.size:=bA N;refine callType_codes (Q₁:=λB g=>B=.ref s.heap.objs.size/\g={ s with heap:=s.heap.push { cls:=.type "dict",data:=.dict #[]}}) F.kt_called_dict (F.kt_typeCall_dict_1 _) F.entry_dict_init (kt_code_dict_new _ ⟨rfl,rfl⟩) ?_;rintro B g ⟨rfl,rfl⟩;have c:(s.heap.push { cls:=.type "dict",data:=.dict #[]}).DictOf (k_ X.prog X.w) s.heap.objs.size []:=Heap.DictOf.new s.heap;have f:(s.heap.push { cls:=.type "dict",data:=.dict #[]}).get? p=some o:=aR _ N;have J:Shared.TypeIs { s with heap:=s.heap.push { cls:=.type "dict",data:=.dict #[]}} (.ref p) "list" := ⟨o,f,j⟩;refine⟨c.typeIs,F.args_dict_init_2 _ _,?_⟩;unfold Builtin.«dict.__init__»;refine aG ?_;unfold Builtin.Dict.selfAndRest;refine aG (iO c.typeIs ?_)
 skip
 refine aQ ?_;show wpAny _ _ (Builtin.Dict.updateFrom "dict.__init__" s.heap.objs.size (.ref p) [] .none) _ _ _;unfold Builtin.Dict.updateFrom;refine aG<|fY J ?_;rw[aM ⋯];refine aG<|Dq f j hd G (show X.A.in1.in1.handled=none from I.ok.hd hc) λh' tk k=>?_;rw[aM<|by rfl];refine aG<|d_ ?_;have C:h'.IsList p (rs.map Value.ref).toArray:=⟨o,k p o f,j,n,hd⟩;refine aG<|jy (s:={ s with heap:=h',toks:=tk }) C ?_;refine aQ ⟨iV pC _,?_⟩;have sz:s.heap.objs.size<h'.objs.size:=bA<|k _ _<|bz _ rfl;have W:Walks X.prog X.w X.A.in1.in1 h'.objs.size [h'.objs.size,p] [h'.objs.size] (rs.map Value.ref).length (λi v=>(rs.map Value.ref)[i]?=some v) (λi h=>h.IsListIter h'.objs.size p i/\h.IsList p (rs.map Value.ref).toArray):=by
  have W:=Walks.list (prog:=X.prog) (w:=X.w) (A:=X.A.in1.in1) (I.ok.hd hc) h'.objs.size p (bD<|bA<|k p o f) (rs.map Value.ref).toArray;rw[br]at W;dsimp[d8]at W;exact W
 refine QE (d:=s.heap.objs.size) (its:=rs.map Value.ref) (ps:=M) W (bD sz) (c9<|bD lp) (by rw[aI];lia) () (rs.map Value.ref).length 0 _ () (bY _)
  ⟨⟨_,bz _ rfl,rfl,rfl⟩,C.push _⟩ ?_ (λi v hv=>?_) λh2 L U hs=>⟨rfl,.ref s.heap.objs.size,_,I.laid (t':=L) (o:=.dK<|ptP ps) (λb ob T=>?_) (aP _) ?_,rfl,q _<|I.hok.fresh<|aP _⟩
 ·obtain⟨o,es,ep,e,rest⟩:=c;exact⟨o,es,ep,aR _<|k _ _ e,rest⟩
 ·rw[aX]at hv;obtain⟨r,Y,rfl⟩:=bg.mp hv;obtain⟨q,t,h1,o2,h2,h3⟩:=tp i r Y;have P:=bA h2;exact⟨r,q,t,rfl,bD P,bD<|iz P sz,h1,o2,aR _<|k _ _<|aR _ h2,h3⟩
 ·have O:=bA T;exact hs b ob (bD O) (bD<|iz O sz) (aR _<|k _ _<|aR _ T)
 ·refine QO (bH (Ml ps [])<|by rw[bX];lia) ?_ (abz kv .nil) U;exact cV.mpr<|c9<|bD I.big
abbrev VF (ns:ag):Sx.Ord where
 lt i j:=decide (ns.getD i 0<ns.getD j 0)
 PJ i:=bq (by omega)
 tr i j k h1 h2:=aW (by have:=bN h1;have:=bN h2;omega)
 neg i j k h:=by
  have:=bN h;by_cases c:ns.getD i 0<ns.getD j 0
  ·exact .inl (aW c)
  ·exact .inr<|aW<|by omega
theorem AQ:∀{vs:bb}{ns:ag},IntsAre vs ns->vs.length=ns.length/\∀i,i<vs.length->∃t,vs.getD i .none=.int (ns.getD i 0) t
 | _,_,.nil=>⟨rfl,λi h=>absurd h<|eS _⟩
 | _,_,.cons n t h=>by
  obtain⟨h1,h2⟩:=AQ h;refine⟨dQ (·+1) h1,λi hi=>?_⟩
  cases i with
  | zero=>exact⟨t,rfl⟩
  | succ i=>exact h2 i<|by simpa using hi
theorem BZ{f:Nat->Int}{h:Nat->af}:∀(l:ar),(∀i∈l,∃t,h i=.int (f i) t)->Vals (l.map λi=>V.int<|f i) (l.map h)
 | [],_=>.nil
 | i::l,e=>.cons (e i<|aK ..)<|BZ l λj c=>e j<|aO _ c
def Ig{s:aC}{H:Hp}{Q:VK}{h':aq}{tk:Nat}{vs:bb}{ns:ag}(I1:Inv X pins σ H { s with heap:=h',toks:=tk })(hi:IntsAre vs ns)(hz:vs.length<=sizeLine)
  (q:∀l g,H l=none->Sx.Cl g 0 ns.length->Sx.So (VF ns) g 0 ns.length->Q (.ref l) (upd H l<|.lst<|(List.range ns.length).map λi=>V.int<|ns.getD (g i) 0)) :
  wpAny (model X.prog X.w) X.A.in1 (do
   let l <- newList vs
   let _ <- holding [l] (call (Value.builtin "list.sort") [l] [])
   ret l) (λfin s'=>∃v,fin=Fin.done (Flow.ret v)/\EP X pins σ Q v s') X.xe { s with heap:=h',toks:=tk }:=by
 obtain⟨B,at_⟩:=AQ hi;refine aG<|wpAny_newList ?_;have c:(h'.push<|seqObj "list" vs.toArray 0).get? h'.objs.size=some (seqObj "list" vs.toArray 0):=bz _ rfl
 skip
 refine aG (dw<|cN slot_list_sort ⟨_,c,rfl⟩ entry_list_sort (Sx.DN (o:=VF ns) (kd:=oneType') c hz (λh2 p d=>?_) (λh2 i j m F G p d=>?_) λg hc hs=>⟨_,rfl,?_⟩)<|args_list_sort _)
 ·obtain⟨a,b,r,rfl⟩:∃a b r,vs=a::b::r:=by
   cases vs with
   | nil=>simp at h2
   | cons a vs=>cases vs with
    | nil=>simp at h2
    | cons b r=>exact⟨a,b,r,rfl⟩
  exact iZ (keyKind_ints hi) d
 ·obtain⟨t,e1⟩:=at_ i m;obtain⟨u,e2⟩:=at_ j F;show wpAny _ _ (keyLt' oneType' (vs.getD i .none)<|vs.getD j .none) p G _;rw[e1,e2,keyLt'_oneType];exact Sx.Lx true d
 ·rw[B]at hc hs ⊢;obtain⟨e,C⟩:=sortedHeap_at (out:=((List.range ns.length).map λi=>vs.getD (g i) .none).toArray) c;have old:∀b f,h'.get? b=some f->(sortedHeap (h'.push<|seqObj "list" vs.toArray 0) h'.objs.size vs ((List.range ns.length).map λi=>vs.getD (g i) .none).toArray).get? b=some f:=λb f k=>by
   rw[sortedHeap_old (bD<|bA k)<|by rw[gv];exact gu<|bA k];exact aR _ k
  refine aQ ⟨_,rfl,.ref h'.objs.size,_,I1.laid (t':=tk) (o:=.lst<|(List.range ns.length).map λi=>V.int<|ns.getD (g i) 0) old (aP _) ?_,rfl,q _ g (I1.hok.fresh<|aP _) hc hs⟩;refine⟨by rw[aI,cI];omega,(List.range ns.length).map λi=>vs.getD (g i) .none,e,BZ _ λi hi=>at_ _ (by have:=(hc i (bY _)<|dP.mp hi).2;omega),C⟩
def M_{P:aj}{w:ah}{vs:List<|Key×af}:∀{acc:bb}{ns:ag},vs.map (·.1)=ns.map Sum.inl->acc.length=vs.length->(∀(j:Nat) v,acc[j]?=some v->∃k x,vs[j]?=some (k,x)/\(k_ P w).is k v=true)->IntsAre acc ns:=by
 intro acc ns c d h
 induction acc generalizing vs ns with
 | nil=>cases vs with
  | nil=>cases ns with
   | nil=>exact .nil
   | cons=>cases c
  | cons=>cases d
 | cons a acc f=>cases vs with
  | nil=>cases d
  | cons v vs=>cases ns with
   | nil=>cases c
   | cons n ns=>
    rw[bL,bL,List.cons.injEq]at c;obtain⟨k,x,e1,e2⟩:=h 0 a rfl
    cases e1
    obtain⟨e3,g⟩:=c;have e3:k=Sum.inl n:=e3;subst e3;obtain⟨t,rfl⟩:=Value.isInt_shape (k:=n) (v:=a) e2;exact .cons n t<|f g (by simpa using d) λj v e=>h (j+1) v<|by simpa using e
def Eo(hc:X.calm=true):kO X (.builtin "sorted") (λxs H Q=>∃(d:ak) (kvs:List<|Key×V) (ns:ag),xs=[.ref d]/\H d=some (.dK kvs)/\kvs.map (λp=>p.1)=ns.map Sum.inl /\
  ∀l g,H l=none->Sx.Cl g 0 ns.length->Sx.So (VF ns) g 0 ns.length->Q (.ref l) (upd H l<|.lst<|(List.range ns.length).map λi=>V.int<|ns.getD (g i) 0)):=by
 k_ne;obtain⟨d,kvs,ns,rfl,B,G,q⟩:=h;kpc_g
 cases rx
 obtain⟨z,hd,k,f,C⟩:=Ys I.hok B;obtain⟨ep,F⟩:=C.dictAt;have M:kvs.length=k.length:=f.length;have N:k.map (·.1)=kvs.map (·.1):=by
  clear G z C F M B;unfold KV at f
  induction f with
  | nil=>rfl
  | cons h _ K=>rw[bL,bL,K,h.1]
 refine Calls.call_function_entry kind_sorted plain_sorted entry_sorted (args_sorted1 _) ?_;unfold Builtin.«sorted»;refine aG (m:=checkCount "sorted" 1 1 _)<|aQ ?_;refine aG<|PySem.W.kdu_collect (PySem.W.kdl_dict hd) (show X.A.in1.handled=none from I.ok.hd hc) F () λh' J acc L c=>?_;have al:acc.toList.length=k.length:=by rw[cW];exact c.1
 exact Ig (s:=s) (I.kept (t':=J) L) (M_ (P:=X.prog) (w:=X.w) (N.trans G) al λj v e=>c.2 j v<|by rw[d7]at e;exact e) () q
end
end L2
namespace Am
open PySem PySem.Spec PyProof.Rows L2
abbrev Wy:ae->Option (List<|Int×A)
 | []=>some []
 | .tup [.int k,x]::r=>(Wy r).map λps=>(k,x)::ps
 | _=>none
abbrev Wt (ps:List<|Int×A):List (Int×A):=ps.foldl (λacc p=>zK acc p.1 p.2) []
section
variable {K:au}{ρ:bd}{H:Hp}
def Le{x:A}(r:AVs K ρ H [x,y] vs):∃v w,vs=[v,w]/\AV K ρ H x v/\AV K ρ H y w:=by
 cases r with
 | cons h t=>cases t with
  | cons h' c=>cases c;exact⟨_,_,rfl,h,h'⟩
def Oz{x:A}(e:Wy (x::xs)=some ps):∃k y ps',x=.tup [.int k,y]/\Wy xs=some ps'/\ps=(k,y)::ps':=by
 unfold Wy at e;split at e
 ·rename_i e2;cases e2
 ·rename_i k y r e2
  cases e2
  obtain⟨ps',h1,h2⟩:=bg.mp e;exact⟨_,_,_,rfl,h1,h2.symm⟩
 ·cases e
def acy:∀{xs:ae}{vs:List V}{ps:List<|Int×A},AVs K ρ H xs vs->Wy xs=some ps ->
  ∃(rs:bd) (qs:List<|Int×V),vs=rs.map V.ref/\rs.length=qs.length/\(∀(i:Nat) (r:ak) (q:Int×V),rs[i]?=some r->qs[i]?=some q->oF K H r [.int q.1,q.2]) /\
   ∀as bs,DI K ρ H as bs->DI K ρ H (ps.foldl (λacc p=>zK acc p.1 p.2) as) (qs.foldl (λacc p=>putK acc (Sum.inl p.1) p.2) bs):=by
 intro xs
 induction xs with
 | nil=>intro vs ps r e;cases r;cases e;exact⟨[],[],rfl,rfl,λi r q h=>by simp at h,λas bs h=>h⟩
 | cons x xs c=>
  intro vs ps r e;obtain⟨k,y,j,rfl,e1,rfl⟩:=Oz e
  cases r with
  | cons h t=>
   obtain⟨rs,qs,rfl,f,m,g⟩:=c t e1
   cases h with
   | @tup a _ us h r=>
    obtain⟨v,w,rfl,h1,h2⟩:=Le r
    cases h1
    refine⟨a::rs,(k,w)::qs,rfl,by rw[bu,bu,f],λi r q e1 e2=>?_,λas bs d=>g _ _<|d.put h2 k⟩
    cases i with
    | zero=>cases e1;cases e2;exact oF.of h
    | succ i=>exact m i r q (by simpa using e1)<|by simpa using e2
end
section
variable {X:Cx}
abbrev I0 (x:A)(S:jV):R A:=match x with
 | .ref n=>opt (jU S n) λxs=>opt (Wy xs) λps=>.ok (.ref S.length) (S++[.pZ<|Wt ps])
 | _=>.no
def U9(hc:X.calm=true):kO X (.type "dict") (rN X<|f1 I0):=kO.imp (JK hc) λvs H Q h0=>by
 kcf_m;clear h0
 cases hv with
 | ref f=>
  rename_i p n;kcj_m;obtain⟨ps,q,h⟩:=j5 h;obtain⟨us,h1,r⟩:=R.lst f<|kg hn;obtain⟨m,e,rfl,c,g,k⟩:=acy r q;refine⟨p,m,e,rfl,qj.of h1,c,g,λl d=>?_⟩;obtain⟨ex,j,c⟩:=R.abK (xs:=Wt ps) (vs:=ptP e) d<|k [] [] trivial;exact h _ _ _ ex j<|.ref c
 | _=>exact h.elim
abbrev zp (x:A)(S:jV):R A:=match x with
 | .ref n=>opt (l_ S n) λkvs=>.ok (.ref S.length) (S++[.lst<|(sortI<|kvs.map Prod.fst).map .int])
 | _=>.no
def Vn{ns:ag}{g:Nat->Nat}(c:Sx.Cl g 0 ns.length)(so:Sx.So (VF ns) g 0 ns.length):(List.range ns.length).map (λi=>ns.getD (g i) 0)=sortI ns:=by
 refine UQ ?_ ?_ (Bf ns)
 ·refine List.Perm.trans ?_ (sortI_perm ns).symm;have p:=xG (N:=ns.length) (g:=g) (λi hi=>(c i (bY _) hi).2) λi j d e z=>by
   have:=so i j (bY _) d e;rw[z]at this;exact this.PJ
  have:=p.map λi=>ns.getD i 0;rw[bK,range_getD]at this;exact this
 ·rw[dF];intro i j hi e d;rw[aI,cI]at hi e;rw[di,di,ef,ef];have:=c_ (so i j (bY _) d e).ge
  lia
def K9(hc:X.calm=true):kO X (.builtin "sorted") (rN X<|f1 zp):=kO.imp (Eo hc) λk H Q h0=>by
 kcf_m;clear h0
 cases hv with
 | ref e=>
  rename_i p n;kl_no;obtain⟨ks,f,d⟩:=R.pZ e<|qZ hn;refine⟨p,ks,kvs.map Prod.fst,rfl,f,by rw[d.keys,bK];rfl,λl g c hc hs=>?_⟩;have j:AVs X.K ρ H ((sortI<|kvs.map Prod.fst).map .int) ((List.range (kvs.map Prod.fst).length).map λi=>V.int<|(kvs.map Prod.fst).getD (g i) 0):=by
   rw[<- Vn hc hs,bK];exact Jz λi _=>.int _
  exact pV R j .refl h l c
 | _=>exact h.elim
@[irreducible] noncomputable def big:Nat:=2 ^ 4096
theorem qT:big=2 ^ 4096:=by unfold big;rfl
def Gh{i:Int}(h:i.natAbs<big):Builtin.Int.intBits i<=2 ^ 20:=by
 rw[qT]at h;exact bH (intBits_le h) ⋯
abbrev GY (a b:A)(S:jV):R A:=match a,b with
 | .int i,.int j=>gd (i.natAbs<big/\j.natAbs<big) (.ok (.int<|i * j) S)
 | _,_=>.no
def OM:pH X (binaryOp .Mult) (r2 X GY):=λpins s σ H x y v u Q I rx ry h9=>by
 x_go
 cases va with
 | int i=>cases vb with
  | int j=>
   obtain⟨⟨h1,h2⟩,h⟩:=kF h;obtain⟨t,rfl⟩:∃t,v=Value.int i t:=rx;obtain⟨c,rfl⟩:∃t,u=Value.int j t:=ry;exact mul_int ⟨.int _,H,I.tok _,⟨_,rfl⟩,h _ _ _ .refl R<|.int _⟩<|IntMulOk.of_bits (Gh h1)<|Gh h2
  | _=>exact h.elim
 | _=>exact h.elim
end
def Lk:bootBuiltins "dict" = some (.type "dict"):=by decide +kernel
abbrev kA (p:Int×Int):A:=.ktu [.int p.1,.int p.2]
abbrev O3 (K:au):af->Option (Int×Int)
 | .ref b=>match K.lookup b with
  | some ⟨.type "tuple",none,.seq its _,_⟩=>match its.toList with
   | [.int i _,.int j _]=>some (i,j)
   | _=>none
  | _=>none
 | _=>none
abbrev Jf (K:au):bb->Option (List<|Int×Int)
 | []=>some []
 | v::vs=>(O3 K v).bind λp=>(Jf K vs).map λps=>p::ps
abbrev UH (K:au)(a:ak):Option (List<|Int×Int):=match K.lookup a with
 | some ⟨.type "list",none,.seq its _,_⟩=>if its.size<=sizeLine then Jf K its.toList else none
 | _=>none
def T8{K:au}{v:af}{p:Int×Int}(h:O3 K v=some p):∃b,v=.ref b/\KTp K b [.int p.1,.int p.2]:=by
 unfold O3 at h;split at h
 ·rename_i b;refine⟨b,rfl,?_⟩;split at h
  ·rename_i c n d e;split at h
   ·rename_i i t j u e2
    cases h
    refine⟨_,c,n,e,rfl,rfl,rfl,?_,?_⟩
    ·rw[<- cW,e2];show 2<=sizeLine;decide
    ·rw[e2];exact .cons ⟨t,rfl⟩<|.cons ⟨u,rfl⟩ .nil
   ·cases h
  ·cases h
 ·cases h
def NP{K:au}{H:Hp}:∀{vs:bb}{ps:List<|Int×Int},Jf K vs=some ps->∃us:List V,Vals us vs/\AVs K ρ H (ps.map kA) us:=by
 intro vs
 induction vs with
 | nil=>intro ps h;cases h;exact⟨[],.nil,.nil⟩
 | cons v vs c=>
  intro ps h;obtain⟨p,h1,h⟩:=ck.mp h;obtain⟨f,h2,rfl⟩:=bg.mp h;obtain⟨us,h3,e⟩:=c h2;obtain⟨b,rfl,d⟩:=T8 h1;exact⟨.ref b::us,.cons rfl h3,.cons (.ktu d<|.cons (.int _)<|.cons (.int _) .nil) e⟩
def aam{K:au}{H:Hp}{a:ak}{ps:List<|Int×Int}(h:UH K a=some ps):AV K ρ H (.frz<|ps.map kA) (.ref a):=by
 unfold UH at h;split at h
 ·rename_i c n f e;split at h
  ·rename_i d;obtain⟨us,h1,h2⟩:=NP (ρ:=ρ) (H:=H) h;exact .frz (.inr ⟨_,c,n,e,rfl,rfl,rfl,d,h1⟩) h2
  ·cases h
 ·cases h
def Hx{X:Cx}{x:Str}{a:ak}{ps:List<|Int×Int}(hm:X.mg x=some (.ref a))(hk:UH X.K a=some ps)(hg:Gl X x<|>ι)(hd:(x == ("__debug__" : Str))=false<|>θ):AE X (.Name x pos) (eC<|.frz<|ps.map kA):=
 PE.imp (L1 (v:=.ref a) hg hm rfl hd) λσ H Q h9=>by
  z_go;exact h ρ H _ .refl R<|aam hk
section
variable {X:Cx}
abbrev aaB (n:Nat)(S:jV):R A:=opt (kK S n) λkvs=>match (kvs.map Prod.fst).all (λks=>!ks.isEmpty)with
 | true=>.ok (.ref S.length) (S++[.lst<|(m7<|kvs.map Prod.fst).map λks=>.tup<|ks.map .int])
 | false=>.no
abbrev Fe (x:A)(S:jV):R A:=match x with
 | .ref n=>aaB n S
 | _=>.no
theorem MK{K:au}{H:Hp}:∀{kvs:List<|ag×A}{ks:List<|List Key×V},DV K ρ H kvs ks->ks.map (λp=>p.1)=(kvs.map Prod.fst).map (λks=>ks.map Sum.inl)
 | [],[],_=>rfl
 | a::kvs,b::ks,⟨z,t⟩=>by
  have:=MK t;show b.1::ks.map _=a.1.map Sum.inl::_;rw[this,z.1]
def We(hc:X.calm=true):kO X (.builtin "sorted") (rN X<|f1 Fe):=kO.imp (FO hc) λG H Q h0=>by
 kcf_m;clear h0
 cases hv with
 | ref q=>
  rename_i p n;kl_no;obtain⟨ks,B,f⟩:=R.dct q (pT hn)
  cases c:(kvs.map Prod.fst).all (λks=>!ks.isEmpty)with
  | false=>rw[c]at h;exact h.elim
  | true=>
   rw[c]at h;refine⟨p,ks,kvs.map Prod.fst,rfl,B,MK f,λk j z=>?_,λd l g m F e hc hs=>?_⟩
   ·have:=jE.mp c k j;rw[z]at this
    cases this
   have C:AVs X.K ρ H ((m7<|kvs.map Prod.fst).map λks=>.tup<|ks.map .int) (((List.range (kvs.map Prod.fst).length).map λi=>d.getD (g i) 0).map V.ref):=by
    rw[<- Zj hc hs,bK,bK];refine Jz λi hi=>?_;have lt:=(hc i (bY _)<|dP.mp hi).2;have e1:d[g i]?=some (d.getD (g i) 0):=by rw[aL,aH<|by rw[m];exact lt];rfl
    have e2:(kvs.map Prod.fst)[g i]?=some ((kvs.map Prod.fst).getD (g i) []):=by rw[aL,aH lt];rfl
    exact .tup (F _ _ _ e1 e2)<|um _
   exact pV R C .refl h l e
 | _=>exact h.elim
end
end Am
namespace L2
open PySem PySem.Spec PyProof.Rows
section
variable {P:aj}{w:ah}{A:aA}{s:aC}
meta abbrev Ent:=List Key×ak×af
meta abbrev tK (P:aj)(w:ah):=tupleKind<|k_ P w
def yd{h h':aq}{ks:List Key}{a:ak}(x:(tK P w).is h ks a)(k:∀o,h.get? a=some o->h'.get? a=some o):(tK P w).is h' ks a:=by
 obtain⟨o,arr,n,h1,h2⟩:=x;exact⟨o,arr,n,k o h1,h2⟩
abbrev Qh (P:aj)(w:ah)(h:aq)(d I:ak)(its:bb)(ps:List Ent):Prop:=∀(i:Nat) (v:af),its[i]?=some v->∃(b:ak) (p:Ent),v=.ref b/\b≠d/\b≠I/\ps[i]?=some p/\IsTup h b #[.ref p.2.1,p.2.2]/\p.2.1≠d/\p.2.1≠I/\(tK P w).is h p.1 p.2.1
def Qh.mono{h h':aq}{d:ak}(x:Qh P w h d I its ps)(k:∀b o,b≠d->b≠I->h.get? b=some o->h'.get? b=some o):Qh P w h' d I its ps:=λi v hv=>by
 obtain⟨b,p,h1,h2,h3,m,⟨o,j,g⟩,f,c,h9⟩:=x i v hv;exact⟨b,p,h1,h2,h3,m,⟨o,k b o h2 h3 j,g⟩,f,c,yd h9 λo e=>k _ o f c e⟩
abbrev VL (ps:List Ent):List Ent:=ps.foldl (λacc p=>storedH acc p.1 p.2.1 p.2.2) []
def Hg(ps:List Ent)(i:Nat)(p:Ent)(h:ps[i]?=some p):VL (ps.take<|i+1)=storedH (VL<|ps.take i) p.1 p.2.1 p.2.2:=by
 unfold VL;rw[dM,h,cR];rfl
def Ge(acc:List Ent)(k:List Key)(a:ak)(v:af):(storedH acc k a v).length<=acc.length+1:=by
 unfold storedH;split
 ·rw[aI];lia
 ·rw[aV];exact aP _
theorem KG:∀(ps acc:List Ent),(ps.foldl (λacc p=>storedH acc p.1 p.2.1 p.2.2) acc).length<=acc.length+ps.length
 | [],acc=>aP _
 | p::ps,acc=>by
  have:=KG ps<|storedH acc p.1 p.2.1 p.2.2;have:=Ge acc p.1 p.2.1 p.2.2;rw[dS,bu]
  lia
def IG{acc:List Ent}{k:List Key}{a:ak}{v:af}(h:∀x∈acc,x.2.1≠I)(ha:a≠I):∀x∈storedH acc k a v,x.2.1≠I:=λx c=>by
 unfold storedH at c;split at c
 ·obtain⟨y,d,rfl⟩:=bI.mp c;unfold putAt;split
  ·exact h y d
  ·exact h y d
 ·rcases bG.mp c with z|z
  ·exact h x z
  ·rw[aS.mp z];exact ha
def Ng{R:Result->aC->Prop}{I l d:ak}{St:Nat->aq->Prop}{its:bb}{ps:List Ent}(hu:A.units+8<cLine)(W:Walks P w A.in1 I [I,l] [I] its.length (λi v=>its[i]?=some v) St)(hdI:d≠I)(hdl:d≠l)(hl:ps.length=its.length)(hz:ps.length<=sizeLine) :
  ∀(k i:Nat) (s:aC),its.length-i=k->i<=its.length->St i s.heap->s.heap.DictOfH (tK P w) d (VL<|ps.take i)->(∀x∈VL (ps.take i),x.2.1≠I)->Qh P w s.heap d I its ps ->
   (∀h' tk,h'.DictOfH (tK P w) d (VL ps)->(∀b o,b≠d->b≠I->s.heap.get? b=some o->h'.get? b=some o)->R (.ok<|.ret .none) { s with heap:=h',toks:=tk }) ->
   codeAny (model P w) A (.builtin "dict.update.loop" ⟨[.ref d,.ref I,rawInt i,.none],[]⟩) R s:=by
 intro k
 induction k with
 | zero=>
  intro i s hk hi j N F hP hR;have hin:i=its.length:=by omega
  subst hin;refine fq wF ?_;rw[eE pC _];show wpAny _ A.in1 (pyNext (.ref I) >>= _) _ _ s;refine aG<|W.done s _ _ j λh' tk f=>?_;show wpAny _ A.in1 (Builtin.Dict.addKeywords d [] >>= _) _ _ _;refine aG (aQ<|aQ<|hR h' tk ?_ λb o _ h2 e=>f b o (by simpa using h2) e);rw[<- hl,dU]at N F;obtain⟨o,es,ep,B,h1,h2,h3,g,C⟩:=N;exact⟨o,es,ep,f d o (by simpa using hdI) B,h1,h2,h3,λx K=>yd (g x K) λo e=>f _ o (by simpa using F x K) e,C⟩
 | succ k ih=>
  intro i s hk hi j N F hP hR;have M:i<its.length:=by omega
  refine fq wF ?_;rw[eE pC _];show wpAny _ A.in1 (pyNext (.ref I) >>= _) _ _ s;refine aG<|W.item i s _ _ M j λv h' tk hv G f=>?_;have T:Qh P w h' d I its ps:=hP.mono λb o h1 h2 e=>f b o (by simpa using h2) e;obtain⟨b,p,rfl,hbd,hbI,hp,⟨o,B,hc,n,hd⟩,hkd,O,L⟩:=T i v hv;have Y:h'.DictOfH (tK P w) d (VL<|ps.take i):=by
   obtain⟨o,es,ep,B,h1,h2,h3,g,C⟩:=N;exact⟨o,es,ep,f d o (by simpa using hdI) B,h1,h2,h3,λx K=>yd (g x K) λo e=>f _ o (by simpa using F x K) e,C⟩
  have hT:Shared.TypeIs { s with heap:=h',toks:=tk } (.ref b) "tuple" := ⟨o,B,hc⟩;have m:∀(A:aA) (E:af->aC->Prop) (Q:bb->aC->Prop),Q [.ref p.2.1,p.2.2] { s with heap:=h',toks:=tk }->wpAny (model P w) A (Builtin.Dict.pairItems<|.ref b) Q E { s with heap:=h',toks:=tk }:=λA E Q q=>by
   unfold Builtin.Dict.pairItems;refine aG<|fY hT ?_;rw[aM ⋯];refine aG<|fS B hd<|aQ q
  have J:(VL<|ps.take i).length<=sizeLine:=by
   refine bH (KG (ps.take i) []) ?_;rw[bE,bX];omega
  refine aG<|dw<|aG<|wpAny_tryCatch<|m _ _ _ ?_;show wpAny _ _ (holding [Value.ref p.2.1,p.2.2]<|dictSet d (.ref p.2.1) p.2.2) _ _ _;refine dw (wpAny_dictSet_heap (hsz:=J) (knd:=tK P w) (k:=p.1) (s:={ s with heap:=h',toks:=tk }) (show _<cLine from dg (by show A.units+_<=A.units+8;exact Nat.add_le_add_left ⋯ _) hu) L Y λh2 Z hs=>?_);refine aQ ⟨iV pC _,?_⟩;have c:∀b o,b≠d->b≠I->s.heap.get? b=some o->h2.get? b=some o:=λb o h3 g e=>by rw[hs.2 b h3];exact f b o (by simpa using g) e
  refine ih (i+1) _ (by omega) M (W.frame _ _ _ G λb hb o e=>?_) (by rw[Hg ps i p hp];exact Z) (by rw[Hg ps i p hp];exact IG F O) (hP.mono c) λh3 tk3 hD3 U=>hR h3 tk3 hD3 λb o g C e=>U b o g C<|c b o g C e;have V:b≠d:=by
   intro z;subst z
   rcases bB.mp hb with z|z
   ·exact hdI z
   ·exact hdl<|by simpa using z
  show h2.get? b=some o;rw[hs.2 b V];exact e
theorem Bh{H:Hp}{X:Cx}(I:Inv X pins σ H s):∀(rs:bd) (ps:List<|List Key×ak×V),rs.length=ps.length->(∀(i:Nat) (r:ak) (q:List Key×ak×V),rs[i]?=some r->ps[i]?=some q->oF X.K H r [.ref q.2.1,q.2.2]/\H q.2.1=some (.tup<|q.1.map kV)) ->
  ∃qs:List Ent,qs.length=ps.length/\(∀H':Hp,(∀b ys,H b=some (.tup ys)->H' b=some (.tup ys))->∀as bs,KT H' as bs->KT H' (ps.foldl (λacc p=>putK acc p.1 p.2.2) as) (qs.foldl (λacc p=>storedH acc p.1 p.2.1 p.2.2) bs))/\∀(i:Nat) (r:ak),rs[i]?=some r->∃q,qs[i]?=some q/\IsTup s.heap r #[.ref q.2.1,q.2.2]/\(tK X.prog X.w).is s.heap q.1 q.2.1
 | [],[],_,_=>⟨[],rfl,λH' _ as bs h=>h,λi r h=>by simp at h⟩
 | [],_::_,h,_=>nomatch h
 | _::_,[],h,_=>nomatch h
 | r::rs,p::ps,hl,hh=>by
  obtain⟨qs,h0,h1,h2⟩:=Bh I rs ps (by simpa using hl) λi r q e1 e2=>hh (i+1) r q (by simpa using e1) (by simpa using e2);obtain⟨hs,c⟩:=hh 0 r p rfl rfl;obtain⟨g,m,k,_⟩:=I.tuple hs;obtain⟨B,f,rfl,r1,r2⟩:=vals2 m
  cases r1
  refine⟨(p.1,p.2.1,f)::qs,by rw[bu,bu,h0],λH' d as bs h=>h1 H' d _ _<|KT.put h p.1 (d _ _ c) r2,λi j e=>?_⟩
  cases i with
  | zero=>cases e;exact⟨(p.1,p.2.1,f),rfl,k,xw I.hok c⟩
  | succ i=>exact h2 i j<|by simpa using e
abbrev ptT (ps:List<|List Key×ak×V):List (List Key×V):=ps.foldl (λacc p=>putK acc p.1 p.2.2) []
theorem Kx:∀(ps:List<|List Key×ak×V) (acc:List<|List Key×V),(ps.foldl (λacc p=>putK acc p.1 p.2.2) acc).length<=acc.length+ps.length
 | [],acc=>aP _
 | p::ps,acc=>by
  have:=Kx ps<|putK acc p.1 p.2.2;have:=sE acc p.1 p.2.2;rw[dS,bu]
  lia
end
section
variable {X:Cx}
def JS(hc:X.calm=true)(hu:X.A.units+16<cLine):kO X (.type "dict") (λxs H Q=>∃(p:ak) (rs:bd) (ps:List<|List Key×ak×V),xs=[.ref p]/\qj X.K H p (rs.map V.ref)/\rs.length=ps.length /\
  (∀(i:Nat) (r:ak) (q:List Key×ak×V),rs[i]?=some r->ps[i]?=some q->oF X.K H r [.ref q.2.1,q.2.2]/\H q.2.1=some (.tup<|q.1.map kV))/\∀l,H l=none->Q (.ref l) (upd H l<|.dT<|ptT ps)):=by
 k_ne;obtain⟨p,rs,ps,rfl,hq,k,hT,q⟩:=h;kpc_g
 cases rx
 obtain⟨its,rv,pl,hz⟩:=I.list hq;have ei:=zG rv;subst ei;rw[aI]at hz;obtain⟨T,ql,kv,tp⟩:=Bh I rs ps k hT;obtain⟨o,n,U,g,J,hd⟩:=pl;have lp:p<s.heap.objs.size:=bA U;refine callType_codes (Q₁:=λm f=>m=.ref s.heap.objs.size/\f={ s with heap:=s.heap.push { cls:=.type "dict",data:=.dict #[]}}) F.kt_called_dict (F.kt_typeCall_dict_1 _) F.entry_dict_init (kt_code_dict_new _ ⟨rfl,rfl⟩) ?_;rintro m f ⟨rfl,rfl⟩;have G:(s.heap.push { cls:=.type "dict",data:=.dict #[]}).DictOf (k_ X.prog X.w) s.heap.objs.size []:=Heap.DictOf.new s.heap;have C:(s.heap.push { cls:=.type "dict",data:=.dict #[]}).DictOfH (tK X.prog X.w) s.heap.objs.size []:=⟨_,#[],0,bz _ rfl,⟨rfl,rfl,rfl⟩,rfl,rfl,λ_ z=>absurd z jG,dR⟩;have c:(s.heap.push { cls:=.type "dict",data:=.dict #[]}).get? p=some o:=aR _ U;have L:Shared.TypeIs { s with heap:=s.heap.push { cls:=.type "dict",data:=.dict #[]}} (.ref p) "list" := ⟨o,c,g⟩;refine⟨G.typeIs,F.args_dict_init_2 _ _,?_⟩;unfold Builtin.«dict.__init__»;refine aG ?_;unfold Builtin.Dict.selfAndRest;refine aG<|iO G.typeIs ?_;show wpAny _ _ (pure (s.heap.objs.size,[Value.ref p])) _ _ _;refine aQ ?_;show wpAny _ _ (Builtin.Dict.updateFrom "dict.__init__" s.heap.objs.size (.ref p) [] .none) _ _ _;unfold Builtin.Dict.updateFrom;refine aG<|fY L ?_;rw[aM ⋯];refine aG<|Dq c g hd J (show X.A.in1.in1.handled=none from I.ok.hd hc) λh' tk j=>?_;rw[aM<|by rfl];refine aG<|d_ ?_;have B:h'.IsList p (rs.map Value.ref).toArray:=⟨o,j p o c,g,n,hd⟩;refine aG<|jy (s:={ s with heap:=h',toks:=tk }) B ?_;refine aQ ⟨iV pC _,?_⟩;have sz:s.heap.objs.size<h'.objs.size:=bA<|j _ _<|bz _ rfl;have W:Walks X.prog X.w X.A.in1.in1 h'.objs.size [h'.objs.size,p] [h'.objs.size] (rs.map Value.ref).length (λi v=>(rs.map Value.ref)[i]?=some v) (λi h=>h.IsListIter h'.objs.size p i/\h.IsList p (rs.map Value.ref).toArray):=by
  have W:=Walks.list (prog:=X.prog) (w:=X.w) (A:=X.A.in1.in1) (I.ok.hd hc) h'.objs.size p (bD<|bA<|j p o c) (rs.map Value.ref).toArray;rw[br]at W;dsimp[d8]at W;exact W
 refine Ng (d:=s.heap.objs.size) (its:=rs.map Value.ref) (ps:=T) (show _+8<cLine from dg (by show X.A.units+_+8<=X.A.units+16;lia) hu) W (bD sz) (c9<|bD lp) (by rw[aI];lia) () (rs.map Value.ref).length 0 _ () (bY _)
  ⟨⟨_,bz _ rfl,rfl,rfl⟩,B.push _⟩ ?_ (λ_ z=>absurd z jG) (λi v hv=>?_) λh2 M hD hs=>⟨rfl,.ref s.heap.objs.size,_,I.laid (t':=M) (o:=.dT<|ptT ps) (λb ob eb=>?_) (aP _) ?_,rfl,q _<|I.hok.fresh<|aP _⟩
 ·obtain⟨o,es,ep,e,r1,r2,P,r4,Y⟩:=C;exact⟨o,es,ep,aR _<|j _ _ e,r1,r2,P,λ_ z=>absurd z jG,Y⟩
 ·rw[aX]at hv;obtain⟨r,hr,rfl⟩:=bg.mp hv;obtain⟨q,h1,⟨o2,h2,h3⟩,h4⟩:=tp i r hr;have lr:=bA h2;have N:=h4;obtain⟨o5,a5,n5,h5,_⟩:=N;have Z:=bA h5;exact⟨r,q,rfl,bD lr,bD<|iz lr sz,h1,⟨o2,aR _<|j _ _<|aR _ h2,h3⟩,bD Z,bD<|iz Z sz,yd h4 λo e=>aR _<|j _ _<|aR _ e⟩
 ·have lb:=bA eb;exact hs b ob (bD lb) (bD<|iz lb sz) (aR _<|j _ _<|aR _ eb)
 ·obtain⟨o,es,ep,r1,r2,P,r4,Y,r6⟩:=hD;refine⟨bH (Kx ps [])<|by rw[bX];lia,cV.mpr<|c9<|bD I.big,VL T,kv _ (λb ys O=>?_) [] [] .nil,o,es,ep,r1,r2,P,r4,r6⟩;have:b≠s.heap.objs.size:=λz=>by rw[z,I.hok.fresh<|aP _]at O;cases O
  rw[j8 this];exact O
end
end L2
namespace Am
open PySem PySem.Spec PyProof.Rows L2
abbrev Fq:ae->Option (List<|ag×A)
 | []=>some []
 | .tup [.tup k,x]::r=>(A.ints k).bind λc=>(Fq r).map λps=>(c,x)::ps
 | _=>none
abbrev LH (ps:List<|ag×A):List (ag×A):=ps.foldl (λacc p=>putD acc p.1 p.2) []
section
variable {K:au}{ρ:bd}{H:Hp}
def NC{x:A}(e:Fq (x::xs)=some ps):∃k ns y ps',x=.tup [.tup k,y]/\A.ints k=some ns/\Fq xs=some ps'/\ps=(ns,y)::ps':=by
 unfold Fq at e;split at e
 ·rename_i e2;cases e2
 ·rename_i k y r e2
  cases e2
  obtain⟨ns,h0,e⟩:=ck.mp e;obtain⟨ps',h1,h2⟩:=bg.mp e;exact⟨_,_,_,_,rfl,h0,h1,h2.symm⟩
 ·cases e
def Vw(ns:ag):(ns.map (Sum.inl:Int->Key)).map kV=ns.map V.int:=by rw[bK];rfl
def WO:∀{xs:ae}{vs:List V}{ps:List<|ag×A},AVs K ρ H xs vs->Fq xs=some ps ->
  ∃(rs:bd) (qs:List<|List Key×ak×V),vs=rs.map V.ref/\rs.length=qs.length/\(∀(i:Nat) (r:ak) (q:List Key×ak×V),rs[i]?=some r->qs[i]?=some q->oF K H r [.ref q.2.1,q.2.2]/\H q.2.1=some (.tup<|q.1.map kV)) /\
   ∀as bs,DV K ρ H as bs->DV K ρ H (ps.foldl (λacc p=>putD acc p.1 p.2) as) (qs.foldl (λacc p=>putK acc p.1 p.2.2) bs):=by
 intro xs
 induction xs with
 | nil=>intro vs ps r e;cases r;cases e;exact⟨[],[],rfl,rfl,λi r q h=>by simp at h,λas bs h=>h⟩
 | cons x xs g=>
  intro vs ps r e;obtain⟨k,f,y,C,rfl,e0,e1,rfl⟩:=NC e
  cases r with
  | cons h t=>
   obtain⟨rs,qs,rfl,j,F,B⟩:=g t e1
   cases h with
   | @tup a _ us h r=>
    obtain⟨v,w,rfl,h1,h2⟩:=Le r
    cases h1 with
    | @tup c _ NV m r1=>
     have e2:=wD r1 e0;subst e2;refine⟨a::rs,(f.map Sum.inl,c,w)::qs,rfl,by rw[bu,bu,j],λi r q e1 e2=>?_,λas bs d=>B _ _<|d.put h2 f⟩
     cases i with
     | zero=>cases e1;cases e2;exact⟨oF.of h,by rw[Vw];exact m⟩
     | succ i=>exact F i r q (by simpa using e1)<|by simpa using e2
end
section
variable {X:Cx}
abbrev JQ (x:A)(S:jV):R A:=match x with
 | .ref n=>opt (jU S n) λxs=>opt (Fq xs) λps=>.ok (.ref S.length) (S++[.dct<|LH ps])
 | _=>.no
def V7(hc:X.calm=true)(hu:X.A.units+64<cLine):kO X (.type "dict") (rN X<|f1 JQ):=kO.imp (JS hc ()) λvs H Q h0=>by
 kcf_m;clear h0
 cases hv with
 | ref f=>
  rename_i p n;kcj_m;obtain⟨ps,q,h⟩:=j5 h;obtain⟨us,h1,r⟩:=R.lst f<|kg hn;obtain⟨m,e,rfl,c,g,k⟩:=WO r q;refine⟨p,m,e,rfl,qj.of h1,c,g,λl d=>?_⟩;obtain⟨ex,j,c⟩:=R.acq (xs:=LH ps) (vs:=ptT e) d<|k [] [] trivial;exact h _ _ _ ex j<|.ref c
 | _=>exact h.elim
end
end Am
namespace L2
open PySem PySem.Spec PyProof.Rows
section
variable {X:Cx}{pins:bp}{σ:St}{H:Hp}{s:aC}{a:ak}{xs:List (nj×ak×af)}
def XI{r:ak}{x:ag}(I:Inv X pins σ H s)(h:H r=some (.tup<|x.map V.int)):TK s.heap x r:=by
 obtain⟨_,c,d,o,h1,h2,_,n,h3⟩:=(show lO _ _ H s.heap r (.tup<|x.map V.int)from I.hok r _ h);exact⟨o,c.toArray,n,h1,h2,h3,by simpa using intsAre_of d⟩
def AR{k:nj}(I:Inv X pins σ H s)(h:t_ H b k):wV s.heap k b:=by
 obtain⟨r1,r2,h1,h2,h3⟩:=h;obtain⟨_,e,f,o,e1,e2,_,n,e3⟩:=(show lO _ _ H s.heap b (.tup [.ref r1,.ref r2])from I.hok b _ h1);obtain⟨j,g,rfl,d,c⟩:=vals2 f
 cases d
 cases c
 exact⟨o,n,r1,r2,e1,e2,e3,XI I h2,XI I h3⟩
def Tw(I:Inv X pins σ H s)(e:H a=some (.ext<|xh a xs))(hk:∀x∈xs,t_ H x.2.1 x.1):(a == sysModules)=false/\xs.length<=sizeLine/\s.heap.DictOfH (Ga X.prog X.w) a xs:=by
 obtain⟨⟨h1,h2,o,es,ep,h3,j,g,c,f⟩,_⟩:=(show lO _ _ H s.heap a (.ext<|xh a xs)from I.hok a _ e);exact⟨h1,h2,o,es,ep,h3,j,g,c,λx d=>AR I<|hk x d,f⟩
def Rc{P:aj}{w:ah}{H':Hp}{h':aq}(h1:(a == sysModules)=false)(h2:xs.length<=sizeLine)(dd:h'.DictOfH (Ga P w) a xs):lO P w H' h' a (.ext<|xh a xs):=by
 obtain⟨o,es,ep,h3,m,j,c,_,e⟩:=dd;refine⟨⟨h1,h2,o,es,ep,h3,m,j,c,e⟩,⟨o,h3⟩,λp B g k=>?_⟩;obtain⟨f,d,o,es,ep,h3,q⟩:=g;exact⟨f,d,o,es,ep,k o h3,q⟩
structure DPg (H:Hp)(a b:ak)(xs:List (nj×ak×af))(k:nj):Prop where
 d:H a=some (.ext<|xh a xs)
 ks:∀x∈xs,t_ H x.2.1 x.1
 k:t_ H b k
def ab4(hu:X.A.units+32<cLine):UD X (λx y H Q=>∃a b xs k p v,x=.ref a/\y=.ref b/\DPg H a b xs k/\atKey xs k=some p/\RelV v p.2/\Q v H):=by
 intro value slice pins s σ H x y v u Q I rx ry h hs;obtain⟨a,b,xs,k,p,z,rfl,rfl,g,j,m,q⟩:=h
 cases rx
 cases ry
 obtain⟨h1,h2,e⟩:=Tw I g.d g.ks;have f:=e.typeIs;unfold subscriptTail;refine aG ?_;rw[getitemInPython_of_ne f.not_modules];refine aG<|fu f PySem.F.slot_dict_getitem.lookup ?_;have fin:wpAny (model X.prog X.w) X.A (subscripted slice false (.ref a)<|.ref b) (λr c=>wpAny (model X.prog X.w) X.A (letTemporaryGo value (.ref a) r >>= λ_=>pure r) (EP X pins σ Q) X.xe c) X.xe s:=by
  rw[hs];exact wpAny_operating<|wpAny_getItem_heap (show X.A.in1.units+16<cLine by simp;lia) (AR I g.k) e j<|aG<|wpAny_letTemporaryGo<|aQ ⟨z,H,I.tok _,m,q⟩
 first
  | exact aQ (aG fin)
  | exact aG (aQ<|aG fin)
  | exact aG fin
def Nx(hu:X.A.units+32<cLine):pH X (compareOp .NotIn) (λy x H Q=>∃a b xs k,x=.ref a/\y=.ref b/\DPg H a b xs k/\Q (.bl<|!(atKey xs k).isSome) H):=by
 intro pins s σ H y x v u Q I ry rx h;obtain⟨a,b,xs,k,rfl,rfl,g,q⟩:=h
 cases rx
 cases ry
 obtain⟨h1,h2,c⟩:=Tw I g.d g.ks;exact wpAny_notIn_heap (show X.A.in1.units+16<cLine by simp;omega) (AR I g.k) h1 c ⟨.bl _,H,I.tok _,rfl,q⟩
def Ho{xs:List<|nj×ak×af}{k:nj}:(storedH xs k b u).length<=xs.length+1:=by
 unfold storedH;split
 ·rw[aI];lia
 ·rw[aV];exact aP _
def aay(hu:X.A.units+32<cLine):EA X (λo i v H Q=>∃a b xs k,o=.ref a/\i=.ref b/\DPg H a b xs k/\xs.length<sizeLine/\∀u,RelV v u->Q (upd H a<|.ext<|xh a<|storedH xs k b u)):=by
 intro pins s σ H o i v ov iv u Q I p e B h;obtain⟨a,b,xs,k,rfl,rfl,g,f,q⟩:=h
 cases p
 cases e
 obtain⟨h1,h2,m⟩:=Tw I g.d g.ks;refine wpAny_setItem_heap (hsz:=h2) (show X.A.in1.units+16<cLine by simp;omega) (AR I g.k) m λh' c hs=>⟨_,?_,q u B⟩;have j:∃q,h'.get? a=some q:=let⟨q,_,_,hq,_⟩:=c;⟨q,hq⟩
 exact Eb I (by rw[g.d];exact True.intro) hs j<|Rc h1 (bH Ho f) c
abbrev YX:TE:=λ_ H Q=>∀p,H p=none->Q (.ref p) (upd H p<|.ext<|xh p [])
def PN:PE X (.Dict [] [] pos) YX:=λpins s σ H Q I h=>
 wpAny_Dict_empty ⟨.ref s.heap.objs.size,_,I.laid (a:=s.heap.objs.size) (o:=.ext<|xh s.heap.objs.size []) (t':=s.toks) (λ_ _ q=>aR _ q) (aP _)
  (Rc (cV.mpr<|c9<|bD I.big) (bY _) ⟨_,#[],0,bz _ rfl,⟨rfl,rfl,rfl⟩,rfl,rfl,(nofun),dR⟩),rfl,h _<|I.hok.fresh<|aP _⟩
end
end L2
namespace Am
open PySem PySem.Spec PyProof.Rows L2
abbrev p5 (S:jV)(n:Nat):Option (List<|nj×A):=match S[n]? with
 | some (.u9 xs)=>some xs
 | _=>none
def rO{n:Nat}(h:p5 S n=some xs):S[n]?=some (.u9 xs):=by
 unfold p5 at h;split at h
 ·rename_i e;cases h;exact e
 ·cases h
def Cr{S:jV}{n:Nat}(h:S[n]?=some (.u9 xs)):p5 S n=some xs:=by
 unfold p5;rw[h]
abbrev pL (kvs:List<|nj×A)(k:nj):Option A:=(kvs.find? λkv=>decide<|kv.1=k).map (·.2)
abbrev v_ (kvs:List<|nj×A)(k:nj)(v:A):List (nj×A):=
 if (pL kvs k).isSome=true then kvs.map (λkv=>if kv.1=k then(kv.1,v)else kv)else kvs++[(k,v)]
abbrev CV (x:A):Option nj:=match x with
 | .tup [.tup xs,.tup ys]=>(A.ints xs).bind λd=>(A.ints ys).map λc=>(d,c)
 | _=>none
section
variable {K:au}{ρ:bd}{H:Hp}
def wu{p:nj×A}{r:List<|nj×A}{k:nj}(e:p.1=k):pL (p::r) k=some p.2:=by simp[pL,cC,e]
def uc{p:nj×A}{r:List<|nj×A}{k:nj}(e:¬p.1=k):pL (p::r) k=pL r k:=by simp[pL,cC,e]
theorem DP.look:∀{kvs:List<|nj×A}{ks:List<|nj×ak×af}(k:nj),DP K ρ H kvs ks->(pL kvs k).isSome=(atKey ks k).isSome/\∀x,pL kvs k=some x->∃p v,atKey ks k=some p/\RelV v p.2/\AV K ρ H x v
 | [],[],k,_=>⟨rfl,λx h=>nomatch h⟩
 | p::r,q::r',k,⟨⟨e,_,v,rv,a⟩,t⟩=>by
  by_cases c:p.1=k
  ·have d:q.1=k:=by rw[e,c]
   have b:atKey (q::r') k=some q.2:=by simp[atKey,cC,d]
   rw[wu c,b];exact⟨rfl,λx h=>by cases h;exact⟨_,v,rfl,rv,a⟩⟩
  ·have d:¬q.1=k:=λz=>c<|e.symm.trans z;have b:atKey (q::r') k=atKey r' k:=by simp[atKey,cC,d]
   rw[uc c,b];exact DP.look k t
theorem DP.repl{x:A}{v:V}(h:AV K ρ H x v)(rv:RelV v u)(k:nj):∀{kvs:List<|nj×A}{ks:List<|nj×ak×af},DP K ρ H kvs ks->DP K ρ H (kvs.map λkv=>if kv.1=k then(kv.1,x)else kv) (ks.map<|putAt k u)
 | [],[],_=>trivial
 | p::r,q::r',⟨⟨e,ka,z⟩,t⟩=>by
  refine⟨?_,DP.repl h rv k t⟩;dsimp only;unfold putAt;by_cases c:p.1=k
  ·rw[aM c,aM<|by rw[e,c]];exact⟨e,ka,v,rv,h⟩
  ·rw[aJ c,aJ λz=>c<|e.symm.trans z];exact⟨e,ka,z⟩
theorem DP.snoc{x:A}{v:V}(h:AV K ρ H x v)(rv:RelV v u)(k:nj)(hk:t_ H b k):∀{kvs:List<|nj×A}{ks:List<|nj×ak×af},DP K ρ H kvs ks->DP K ρ H (kvs++[(k,x)]) (ks++[(k,b,u)])
 | [],[],_=>⟨⟨rfl,hk,v,rv,h⟩,trivial⟩
 | p::r,q::r',⟨a,t⟩=>⟨a,DP.snoc h rv k hk t⟩
def DP.put{x:A}{v:V}(h:AV K ρ H x v)(rv:RelV v u)(k:nj)(hk:t_ H b k){ks:List<|nj×ak×af}(d:DP K ρ H kvs ks):DP K ρ H (v_ kvs k x) (storedH ks k b u):=by
 unfold v_ storedH;rw[<- (d.look k).1];by_cases c:(pL kvs k).isSome=true
 ·rw[aM c,aM c];exact DP.repl h rv k d
 ·rw[aJ c,aJ c];exact DP.snoc h rv k hk d
def DP.length:∀{kvs:List<|nj×A}{ks:List<|nj×ak×af},DP K ρ H kvs ks->kvs.length=ks.length
 | [],[],_=>rfl
 | _::_,_::_,⟨_,t⟩=>dQ (·+1) t.length
def DP.keys:∀{kvs:List<|nj×A}{ks:List<|nj×ak×af},DP K ρ H kvs ks->∀x∈ks,t_ H x.2.1 x.1
 | [],[],_,x,h=>nomatch h
 | _::_,q::_,⟨⟨_,ka,_⟩,t⟩,x,h=>by
  rcases bB.mp h with z|z
  ·rw[z];exact ka
  ·exact t.keys x z
def Rel.u9{n:Nat}{a:ak}(R:Rel K ρ H S)(ha:ρ[n]?=some a)(hS:S[n]?=some (.u9 xs)):∃vs,H a=some (.ext<|xh a vs)/\DP K ρ H xs vs:=R.at n a _ ha hS
def Rel.adG{S:jV}{p:ak}(R:Rel K ρ H S)(hp:H p=none):Ext ρ (ρ++[p]) H (upd H p<|.ext<|xh p [])/\Rel K (ρ++[p]) (upd H p<|.ext<|xh p []) (S++[.u9 []])/\(ρ++[p])[S.length]?=some p:=by
 have ex:Ext ρ (ρ++[p]) H (upd H p<|.ext<|xh p []):=⟨⟨e_ _ _,λa u _ h=>by rw[j8<|ko h hp];exact h⟩,λa u h _=>by rw[j8<|ko h hp];exact h,λa h=>by
  rcases bG.mp h with z|z
  ·exact .inl z
  ·have e:a=p:=by simpa using z
   rw[e];exact .inr hp⟩
 have f:p∉ρ:=R.MZ hp;have c:(ρ++[p])[S.length]?=some p:=by rw[<- R.len];simp
 refine⟨ex,⟨by simp[R.len],?_,?_⟩,c⟩
 ·rw[c8];refine⟨R.nd,by simp,λa k b m e=>?_⟩;have:b=p:=by simpa using m
  exact f<|by rw[<- this,<- e];exact k
 ·intro n a o h1 h2;by_cases hn:n<S.length
  ·rw[bF<|by rw[R.len];exact hn]at h1;rw[bF hn]at h2;have na:a≠p:=λz=>f (by rw[<- z];exact aY h1);have:=R.at n a o h1 h2
   cases o with
   | lst ys=>obtain⟨d,e,q⟩:=this;exact⟨d,by rw[j8 na];exact e,q.ext ex⟩
   | dct _|pZ _|u9 _=>obtain⟨d,e,q⟩:=this;exact⟨d,by rw[j8 na];exact e,q.ext ex⟩
   | ins _ _=>obtain⟨g,j,e⟩:=this;exact⟨g,j,by rw[j8 na];exact e⟩
  ·have e:n=S.length:=by
    have:=(aN.mp h2).1;simp at this
    lia
   subst e;rw[c]at h1
   cases h1
   simp at h2;subst h2;exact⟨[],lE,trivial⟩
def Rel.v_{S:jV}{n:Nat}{a:ak}(R:Rel K ρ H S)(ha:ρ[n]?=some a)(hS:S[n]?=some (.u9 xs))(r:DP K ρ H ys ws):Ext ρ ρ H (upd H a<|.ext<|xh a ws)/\Rel K ρ (upd H a<|.ext<|xh a ws) (S.set n<|.u9 ys):=by
 obtain⟨k,e,_⟩:=R.at n a _ ha hS;have ex:Ext ρ ρ H (upd H a<|.ext<|xh a ws):=⟨⟨eX _,λb u i h=>by
  have:b≠a:=by
   intro z;subst z;rw[e]at h;cases h;exact i
  rw[j8 this];exact h⟩,λb u h n=>by
  rw[j8 λz=>n<|by rw[z];exact aY ha];exact h,λ_ h=>.inl h⟩
 refine⟨ex,by rw[bW];exact R.len,R.nd,λm b o h1 h2=>?_⟩;by_cases f:m=n
 ·subst f;rw[ha]at h1;cases h1;rw[bJ (aN.mp hS).1]at h2
  cases h2
  exact⟨ws,lE,r.ext ex⟩
 ·rw[bP<|c9 f]at h2;have nb:b≠a:=λz=>by
   subst z;obtain⟨B,e1⟩:=aN.mp ha;obtain⟨p,e2⟩:=aN.mp h1;exact f<|(dB R.nd).mp<|e2.trans e1.symm
  have:=R.at m b o h1 h2
  cases o with
  | lst ys=>obtain⟨c,d,q⟩:=this;exact⟨c,by rw[j8 nb];exact d,q.ext ex⟩
  | dct _|pZ _|u9 _=>obtain⟨c,d,q⟩:=this;exact⟨c,by rw[j8 nb];exact d,q.ext ex⟩
  | ins _ _=>obtain⟨g,j,d⟩:=this;exact⟨g,j,by rw[j8 nb];exact d⟩
def FI{x:A}{v:V}{k:nj}(a:AV K ρ H x v)(h:CV x=some k):∃b,v=.ref b/\t_ H b k:=by
 unfold CV at h;split at h
 ·rename_i xs ys;obtain⟨C,h1,h⟩:=ck.mp h;obtain⟨G,h2,e⟩:=bg.mp h;subst e
  cases a with
  | @tup b _ B f r=>
   obtain⟨F,q,rfl,p,j⟩:=VV r
   cases p with
   | @tup c1 _ g d r1=>
    cases j with
    | @tup c2 _ m c r2=>
     have e1:=wD r1 h1;have e2:=wD r2 h2;subst e1 e2;exact⟨b,rfl,c1,c2,f,d,c⟩
 ·cases h
end
section
variable {X:Cx}{pos:Pos}{a b:aE}
abbrev M4 (x y:A)(S:jV):R A:=match x with
 | .ref n=>opt (p5 S n) λkvs=>opt (CV y) λk=>opt (pL kvs k) λv=>.ok v S
 | _=>.no
def abU(hu:X.A.units+64<cLine):UD X (r2 X M4):=λvalue slice pins s σ H x y v u Q I rx ry ⟨ρ,S,a,b,R,va,vb,h⟩ hs=>by
 cases va with
 | @ref p n j=>
  kl_no;obtain⟨k,f,h⟩:=j5 h;obtain⟨z,B,h⟩:=j5 h;obtain⟨ks,e,d⟩:=R.u9 j<|rO hn;obtain⟨q,rfl,m⟩:=FI vb f;obtain⟨g,w,hw,c,C⟩:=(d.look k).2 z B;exact ab4 () value slice pins s σ H _ _ v u Q I rx ry ⟨p,q,ks,k,g,w,rfl,rfl,⟨e,d.keys,m⟩,hw,c,h _ _ _ .refl R C⟩ hs
 | _=>exact h.elim
def ZP(hu:X.A.units+64<cLine){ca cb:Ex}(ha:AE X a ca)(hb:AE X b cb)(hs:yF b<|>ο):AE X (.Subscript a b pos) (j7 M4 ca cb):=PE.imp (KL (abU hu) ha hb hs) λσ H Q h=>uI h
abbrev WY (neg:Bool)(x y:A)(S:jV):R A:=match y with
 | .ref n=>opt (p5 S n) λkvs=>opt (CV x) λk=>.ok (.bl<|if neg then !(pL kvs k).isSome else(pL kvs k).isSome) S
 | _=>.no
def TR(hu:X.A.units+64<cLine):pH X (compareOp .NotIn) (r2 X<|WY true):=λpins s σ H x y v u Q I rx ry h9=>by
 x_go
 cases vb with
 | @ref p n f=>
  kl_no;obtain⟨k,c,h⟩:=j5 h;obtain⟨ks,e,d⟩:=R.u9 f<|rO hn;obtain⟨q,rfl,g⟩:=FI va c;exact Nx () pins s σ H _ _ v u Q I rx ry ⟨p,q,ks,k,rfl,rfl,⟨e,d.keys,g⟩,by rw[<- (d.look k).1];exact h _ _ _ .refl R<|.bl _⟩
 | _=>exact h.elim
abbrev Hw (o i v:A)(S:jV):R Unit:=match o with
 | .ref n=>opt (p5 S n) λkvs=>opt (CV i) λk=>gd (kvs.length<sizeLine) (.ok Unit.unit<|S.set n<|.u9<|v_ kvs k v)
 | _=>.no
abbrev aef (X:Cx):Fo:=λo i v H Q=>∃ρ S e d c,Rel X.K ρ H S/\AV X.K ρ H e o/\AV X.K ρ H d i/\AV X.K ρ H c v/\(Hw e d c S).post (λ_ f=>∀ρ' H',Ext ρ ρ' H H'->Rel X.K ρ' H' f->Q H') (XE X ρ H)
def W2(hu:X.A.units+64<cLine):EA X (aef X):=λpins s σ H o i v ov iv u Q I B g G h9=>by
 obtain⟨ρ,S,L,K,J,R,h1,h2,h3,h⟩:=h9
 cases h1 with
 | @ref p n c=>
  kl_no;obtain⟨k,j,h⟩:=j5 h;obtain⟨m,h⟩:=kF h;obtain⟨ks,e,d⟩:=R.u9 c<|rO hn;obtain⟨q,rfl,f⟩:=FI h2 j;refine aay (by omega) pins s σ H _ _ v ov iv u Q I B g G ⟨p,q,ks,k,rfl,rfl,⟨e,d.keys,f⟩,by rw[<- d.length];exact m,λM C=>?_⟩;obtain⟨ex,F⟩:=R.v_ c (rO hn)<|d.put h3 C k f;exact h _ _ ex F
 | _=>exact h.elim
abbrev Q6 (co ci:Ex):Tg:=λa τ S=>(co τ S).bind λo S1=>(ci τ S1).bind λi S2=>(Hw o i a S2).bind λ_ S3=>.ok τ S3
def ET(hu:X.A.units+64<cLine){co ci:Ex}(ho:AE X o co)(hi:AE X i ci)
  (ha:(∀v,assign (.Subscript o i pos) X.env v=(do
   let ov <- holding [v] (eval o X.env)
   let iv <- holding [v,ov] (eval i X.env)
   standAt pos
   holding [v,ov,iv] (setItem ov iv v)
   release [v,ov,iv] []))<|>ν):AG X (.Subscript o i pos) (Q6 co ci):=PG.imp (EC ho hi (W2 hu) ha) λv σ H Q h9=>by
 obtain⟨ρ,S,τ,a,R,r,va,h⟩:=h9;refine⟨ρ,S,τ,R,r,jX (j4 h) .refl λo S1 h1 ρ1 H1 x e1 R1 v1=>⟨ρ1,S1,τ,R1,r.ext e1,jX (j4 h1) e1 λi S2 h2 ρ2 H2 y e2 R2 v2=>?_⟩⟩;refine⟨ρ2,S2,o,i,a,R2,v1.ext e2,v2,va.ext (e1.trans e2),jX (j4 h2) (e1.trans e2) λ_ S3 h3 ρ3 H3 e3 R3=>?_⟩;kpf_c
abbrev IF:Ex:=λ_ S=>.ok (.ref S.length)<|S++[.u9 []]
def QJ:AE X (.Dict [] [] pos) IF:=PE.imp PN λσ H Q ⟨ρ,S,τ,R,r,h⟩ p d=>by
 obtain⟨ex,c,e⟩:=R.adG d;exact h _ _ _ ex c<|.ref e
end
end Am
namespace L2
open PySem PySem.Spec PyProof.Rows
section
variable {X:Cx}
abbrev WD (i j:Int):ag:=(List.range (i-j).toNat).map λk:Nat=>i-(k:Int)
def Vt(i j:Int):(WD i j).length=(i-j).toNat:=by unfold WD;rw[aI,cI]
theorem B7{f:Nat->Int}{h:Nat->af}:∀(l:ar),(∀i∈l,∃t,h i=.int (f i) t)->Vals (l.map λi=>V.int<|f i) (l.map h)
 | [],_=>.nil
 | i::l,e=>.cons (e i<|aK ..)<|B7 l λj c=>e j<|aO _ c
def RO{i:Int}{n:Nat}{acc:Array af}(h:ItemsOf (λk v=>∃t,v=Value.int (i+(k:Int) * (-1)) t) acc n):Vals (((List.range n).map λk:Nat=>i-(k:Int)).map V.int) acc.toList:=by
 obtain⟨hs,h⟩:=h;have e:acc.toList=(List.range n).map λk=>acc.toList.getD k .none:=by
  refine iT (by simp[hs]) λk h1 h2=>?_;rw[di,ef,aL,aH h1];rfl
 rw[e,bK];refine B7 _ λk c=>?_;have c:=dP.mp c;obtain⟨t,d⟩:=h k (acc.toList.getD k .none) (by rw[<- d7,aL,aH<|by simp[hs];exact c];rfl);exact⟨t,by rw[d];congr 1;lia⟩
def CB(l:ak){a b:Int}{t v:Tok}{n:Nat}(hsmall:Builtin.Range.small a b (-1)=true)(hn:Builtin.Range.rangeSize a b (-1)=n)(hlen:n<=1000) :
  Meets (Builtin.«tuple.__new__» ⟨[.type "tuple",.ref l],[]⟩)
   (λA R s=>A.handled=none/\IsRange s.heap l a b (-1) t u v/\∀(h':aq) (tk:Nat) (acc':Array af),(∀b o',s.heap.get? b=some o'->h'.get? b=some o')->ItemsOf (λi v=>∃t,v=.int (a+i * (-1)) t) acc' n->R (.ok<|.ret<|.ref h'.objs.size) { s with heap:=h'.push { cls:=.type "tuple",data:=.seq acc' },toks:=tk }):=
 .of_wp λprog w A R s h=>by
  obtain⟨B,g,d,tk,G⟩:=s;obtain⟨J,k,h⟩:=h;have p:=sub_tuple_self;have j:=init_tuple_lookup;have C:=madeHere_tuple;have F:Shared.TypeIs ⟨B,g,d,tk,G⟩ (.ref l) "range" := ⟨_,k,rfl⟩;have f:A.in1.handled=none:=J
  wp_walk using cT k,fY F,z_ (A:=A.in1) f k hsmall hn ()
  intro h' m acc' q c;show wpAny _ _ (Builtin.Tuple.tupleExact acc'.toList.toArray >>= λv=>ret v) _ _ _;unfold Builtin.Tuple.tupleExact;have e:acc'.toList.toArray=acc':=by simp
  refine aG (cA ?_<|by show acc'.toList.toArray.size<=sizeLine;rw[e,c.1,dJ];lia);refine aQ ⟨_,rfl,?_⟩;rw[e];exact h h' m acc' q c
abbrev DnO (o:Obj)(i j:Int):Prop:=∃t u v:Tok,o={ cls:=.type "range",data:=.fields #[.int i t,.int j u,.int (-1) v]}
def JE:kO X (.type "range") (λxs H Q=>∃i j,xs=[.int i,.int j,.int<|-1]/\∀r o,DnO o i j->H r=none->Q (.ref r) (upd H r<|.frz o<|.own r)):=by
 k_ne;obtain⟨i,j,rfl,q⟩:=h
 cases r with
 | cons r d=>cases d with
  | cons g d=>cases d with
   | cons f d=>
    cases d
    obtain⟨t,rfl⟩:=r;obtain⟨t',rfl⟩:=g;obtain⟨c,rfl⟩:=f;have hn:(s.heap.push { cls:=.type "range",data:=.fields #[.int i t,.int j t',.int (-1) c]}).get? s.heap.objs.size=some { cls:=.type "range",data:=.fields #[.int i t,.int j t',.int (-1) c]}:=bz _ rfl;exact call_range_3 ⋯ ⟨.ref s.heap.objs.size,_,I.laid (o:=.frz _<|.own s.heap.objs.size) (t':=s.toks) (λb o e=>aR _ e) (aP _) ⟨hn,_,hn⟩,rfl,q _ _ ⟨_,_,_,rfl⟩ I.fresh⟩
def JO(hc:X.calm=true):kO X (.type "tuple") (λxs H Q=>∃p i j o u,xs=[.ref p]/\H p=some (.frz o u)/\DnO o i j/\(-(2 ^ 62)<=i/\i<2 ^ 62/\-(2 ^ 62)<=j/\j<2 ^ 62)/\(i-j).toNat<=1000/\∀l,H l=none->Q (.ref l) (upd H l<|.tup<|(WD i j).map V.int)):=by
 k_ne;obtain⟨p,i,j,o,K,rfl,B,⟨t,L,v,rfl⟩,⟨k,J,G,C⟩,hn,q⟩:=h;kpc_g
 cases rx
 have e:=(show lO _ _ H s.heap p (.frz _ K)from I.hok p _ B).1;have sz:Builtin.Range.rangeSize i j (-1)=(((i-j).toNat:Nat):Int):=by rw[Dl];split<;>lia
 refine callType_new F.called_tuple ⋯ (F.typeCall_tuple_1 _) (F.newCall_tuple_1 _) (λf=>iY f _) F.entry_tuple_new
  (CB (n:=(i-j).toNat) p (small_down k J G C) sz hn) ⟨I.ok.hd hc,e,λh' g c m d=>⟨⟨_,bz _ rfl,rfl⟩,?_⟩⟩
 have I1:Inv X pins σ H { s with heap:=h',toks:=g }:=I.kept m;refine⟨.ref h'.objs.size,_,I1.laid (t':=g) (o:=.tup<|(WD i j).map V.int) (λb o e=>aR _ e) (aP _) ⟨?_,c.toList,RO d,?_⟩,rfl,q _<|I1.hok.fresh<|aP _⟩
 ·rw[aI,Vt,dJ];lia
 ·have e:c.toList.toArray=c:=by simp
  rw[e];exact p_.new _ _
end
end L2
namespace Am
open PySem PySem.Spec PyProof.Rows L2
section
variable {X:Cx}{a b c0:aE}{pos:Pos}
abbrev tdF (a b k:A)(S3:jV):R A:=match a,b,k with
 | .int i,.int j,.int m=>gd (m=-1/\bnd i/\bnd j/\(i-j).toNat<=1000) (.ok (.tup<|(WD i j).map .int) S3)
 | _,_,_=>.no
def R9{a b k:A}{P:A->jV->Prop}{E:Str->jV->Prop}(h:(tdF a b k S3).post P E):∃i j,a=.int i/\b=.int j/\k=.int (-1)/\bnd i/\bnd j/\(i-j).toNat<=1000/\P (.tup<|(WD i j).map .int) S3:=by
 unfold tdF at h;split at h
 ·obtain⟨⟨z,h1,h2,h3⟩,h⟩:=kF h;exact⟨_,_,rfl,rfl,by rw[z],h1,h2,h3,h⟩
 ·exact h.elim
abbrev Nk (c d e:Ex):Ex:=λτ S=>(c τ S).bind λa S1=>(d τ S1).bind λb S2=>(e τ S2).bind λk S3=>tdF a b k S3
def SX{x:Str}{p pos:Pos}{c d e:Ex}(hcl:X.calm=true)(hm:X.mg x=none)(hv:bootBuiltins x=some (.type "tuple"))(hm':X.mg y=none)(hv':bootBuiltins y=some (.type "range"))(ha:AE X a c)(hb:AE X b d)(hc:AE X c0 e)
  (hg:Gl X x<|>ι) (hn:x ≠ "__name__"<|>θ) (hdb:(x == ("__debug__" : Str))=false<|>θ) (hg':Gl X y<|>ι) (hn':y ≠ "__name__"<|>θ) (hdb':(y == ("__debug__" : Str))=false<|>θ)
  (hs:starEach [a,b,c0] X.env=(false,eval a X.env)::starEach [b,c0] X.env<|>ι) (hs2:starEach [b,c0] X.env=(false,eval b X.env)::starEach [c0] X.env<|>ι) (hs3:starEach [c0] X.env=(false,eval c0 X.env)::starEach [] X.env<|>ι) (hpl':((backTo cpos<|starEach [b,c0] X.env).any (·.1)=false)<|>ι)
  (he:starEach [.Call (.Name y p') [a,b,c0] [] cpos] X.env=(false,eval (.Call (.Name y p') [a,b,c0] [] cpos) X.env)::starEach [] X.env<|>ι) (hpl:((backTo pos<|starEach [] X.env).any (·.1)=false)<|>ι) :
  AE X (.Call (.Name x p) [.Call (.Name y p') [a,b,c0] [] cpos] [] pos) (Nk c d e):=
 PE.imp (zN (JO hcl) hg hm hv (qk (zN JE hg' hm' hv' (qk ha (qk hb (qk hc xN hs3) hs2) hs) hn' hdb' hs hpl') xN he) hn hdb he hpl) λσ H Q h9=>by
  z_go;refine⟨ρ,S,τ,R,r,jX (j4 h) .refl λx S1 h1 ρ1 H1 v e1 R1 v1=>⟨ρ1,S1,τ,R1,r.ext e1,jX (j4 h1) e1 λy S2 h2 ρ2 H2 w e2 R2 v2=>⟨ρ2,S2,τ,R2,(r.ext e1).ext e2,jX (j4 h2) (e1.trans e2) λz S3 h3 ρ3 H3 u e3 R3 C=>?_⟩⟩⟩;obtain⟨i,j,J,G,F,f,g,k,L⟩:=R9 h3;subst J G F
  cases v1
  cases v2
  cases C
  refine⟨_,_,rfl,λm o K q=>?_⟩;obtain⟨ex,B⟩:=R3.im (u:=.frz o<|.own m) q;exact⟨m,_,_,o,_,rfl,lE,K,⟨f.1,f.2,g.1,g.2⟩,k,uH B (um _) (((e1.trans e2).trans e3).trans ex) L⟩
def WI{c d e:Ex}{i j:Int}(h:c τ S=.ok (.int i) S1)(h':d τ S1=.ok (.int j) S2)(h'':e τ S2=.ok (.int<|-1) S3)(hb:bnd i)(hb':bnd j)(hl:(i-j).toNat<=1000):Nk c d e τ S=.ok (.tup<|(WD i j).map .int) S3:=by
 unfold Nk;rw[h];show(d τ S1).bind _=_;rw[h'];show(e τ S2).bind _=_;rw[h''];exact aM ⟨rfl,hb,hb',hl⟩
end
abbrev Iq {α:Type}(x:ag×α):List (ag×α)->List (ag×α)
 | []=>[x]
 | y::ys=>if HT.lexLt y.1 x.1=true then y::Iq x ys else x::y::ys
abbrev Cg {α:Type}:List (ag×α)->List (ag×α)
 | []=>[]
 | x::xs=>Iq x<|Cg xs
section
variable {α:Type}
theorem Dz(x:ag×α):∀ys:List<|ag×α,(Iq x ys).Perm (x::ys)
 | []=>ff _
 | y::ys=>by
  unfold Iq;by_cases h:HT.lexLt y.1 x.1=true
  ·rw[aM h];exact((Dz x ys).cons y).trans (List.Perm.swap x y ys)
  ·rw[aJ h]
theorem xP:∀xs:List<|ag×α,(Cg xs).Perm xs
 | []=>ff _
 | x::xs=>(Dz x<|Cg xs).trans<|(xP xs).cons x
theorem Hi(x:ag×α):∀ys:List<|ag×α,(Iq x ys).map Prod.fst=FG x.1 (ys.map Prod.fst)
 | []=>rfl
 | y::ys=>by
  unfold Iq;rw[bL];unfold FG;by_cases h:HT.lexLt y.1 x.1=true
  ·rw[aM h,aM h,bL,Hi]
  ·rw[aJ h,aJ h];rfl
theorem C8:∀xs:List<|ag×α,(Cg xs).map Prod.fst=m7 (xs.map Prod.fst)
 | []=>rfl
 | x::xs=>by
  show(Iq x<|Cg xs).map Prod.fst=FG x.1 (m7<|xs.map Prod.fst);rw[Hi,C8]
theorem Ep:∀{l:List<|ag×α},(l.map Prod.fst).Nodup->∀a∈l,∀b∈l,a.1=b.1->a=b
 | [],_,_,h,_,_,_=>nomatch h
 | x::l,nd,a,ha,b,hb,e=>by
  obtain⟨h1,h2⟩:=c5.mp nd
  rcases bB.mp ha with g|d
  ·rcases bB.mp hb with f|c
   ·rw[g,f]
   ·subst g;exact absurd (e ▸ fP c) h1
  ·rcases bB.mp hb with f|c
   ·subst f;exact absurd (e ▸ fP d) h1
   ·exact Ep h2 a d b c e
def Ih{xs ys:List<|ag×α}(nd:(ys.map Prod.fst).Nodup)(p:xs.Perm ys)(h:(xs.map Prod.fst).Pairwise E3):xs=Cg ys:=by
 refine eB (le:=λ(a b:ag×α)=>E3 a.1 b.1) (λ(a b:ag×α) ha hb h1 h2=>Ep nd a (p.mem_iff.mp ha) b ((xP ys).mem_iff.mp hb) (Sx.yD (show HT.lexLt b.1 a.1=false from h1)<|show HT.lexLt a.1 b.1=false from h2).symm) ?_ ?_ (p.trans (xP ys).symm)
 ·exact cO.mp h
 ·have:=vt<|ys.map Prod.fst;rw[<- C8]at this;exact cO.mp this
end
end Am
namespace K34
open PySem L2 Am
abbrev top (i:Nat):aF:=PySem.Challenge.pw_undercells_k34_rests_are_what_the_turnin.main.body.getD i<|.Pass ⟨0,0,0,0⟩
meta abbrev xx:aF:=top 6
meta abbrev xj:ba:=["thing"]
meta abbrev xg:ba:=["thing"]
abbrev xM:Sm:=
 mw (Ql (kZ (f2 W4)<|jR (jS 0)<|jR (eC<|.ty "int") j6)<|aan<|kZ (f2 W4)<|jR (jS 0)<|jR (eC<|.ty "bool") j6)
abbrev rG:ae->jV->R A:=lB xj xM
meta abbrev vG:aF:=top 7
meta abbrev vc:ba:=["one", "other"]
meta abbrev qv:ba:=["one", "other"]
abbrev vJ:Sm:=
 yV (vX<|j7 (yS true) (kZ (f1 sR)<|jR (jS 0) j6)<|kZ (f1 sR)<|jR (jS 1) j6)
 (sNo)
 qU
abbrev mH:ae->jV->R A:=lB vc vJ
meta abbrev IK:aF:=top 8
meta abbrev Ip:ba:=["order", "places", "at", "thing"]
meta abbrev JA:ba:=["order"]
abbrev Ra:Ic:=
 U_ (jS 0)
abbrev G8:Sm:=
 kL (j7 mF (jS 2)<|eC<|.int 1) (Zf (jS 1)<|j7 aSub (jS 3)<|eC<|.int 1)
abbrev Jp:Sm:=
 kC (kL (j7 za (qN<|jR (eC<|.int 0) j6)<|kZ (f1 sR)<|jR (jS 0) j6)<|kR 1)
 (kC (lN Ra (Ac 2<|qW (kR 2)<|qW (kR 3) Af)
 G8)
 (mw<|kZ (f1 xq)<|jR (jS 1) j6))
abbrev CA:ae->jV->R A:=lB Ip Jp
meta abbrev sP:aF:=top 9
meta abbrev tW:ba:=["n", "thing"]
meta abbrev tF:ba:=["n", "thing"]
abbrev tB:Sm:=
 mw (Ql (eFn rG<|jR (jS 1) j6)<|Ux Y0 VB (eC<|.int 1) (jS 1)<|jS 0)
abbrev oH:ae->jV->R A:=lB tW tB
meta abbrev oW:aF:=top 10
meta abbrev oZ:ba:=["order", "i", "j", "things"]
meta abbrev oX:ba:=["order", "i", "j"]
abbrev oY:Sm:=
 kC (kL (kZ (f1 yO)<|jR (jS 0) j6)<|kR 3)
 (kC (kL (qM<|jR (j7 tZ (jS 3)<|j7 aSub (jS 2)<|eC<|.int 1)<|jR (j7 tZ (jS 3)<|j7 aSub (jS 1)<|eC<|.int 1) j6)<|Ac 2<|qW (Zf (jS 3)<|j7 aSub (jS 1)<|eC<|.int 1)<|qW (Zf (jS 3)<|j7 aSub (jS 2)<|eC<|.int 1) Af)
 (mw<|kZ (f1 xq)<|jR (jS 3) j6))
abbrev l9:ae->jV->R A:=lB oZ oY
meta abbrev vp:aF:=top 11
meta abbrev v9:ba:=["order", "k"]
meta abbrev nL:ba:=["order", "k"]
abbrev wg:Sm:=
 kC (yV (V4<|CN<|eFn oH<|jR (kZ (f1 sR)<|jR (jS 0) j6)<|jR (jS 1) j6)
 (sNo)
 qU)
 (mw<|eFn l9<|jR (jS 0)<|jR (jS 1)<|jR (j7 mF (jS 1)<|eC<|.int 1) j6)
abbrev lz:ae->jV->R A:=lB v9 wg
meta abbrev EK:aF:=top 15
meta abbrev Ec:ba:=["order"]
meta abbrev yP:ba:=["order"]
abbrev Ey:Sm:=
 mw (nc [none,some 0] (zX (eC<|.int 1)<|kZ (f1 sR)<|jR (jS 0) j6) (kR 0) (vX<|j7 WW (j7 tZ (jS 1)<|j7 aSub (jS 0)<|eC<|.int 1)<|j7 tZ (jS 1)<|jS 0)<|jS 0)
abbrev pM:ae->jV->R A:=lB Ec Ey
meta abbrev nP:aF:=top 18
meta abbrev nI:ba:=["numbers", "place"]
meta abbrev nF:ba:=["numbers"]
abbrev pP:Te:=
 vX (j7 Y0 (j7 tZ (jS 0)<|j7 aSub (jS 1)<|eC<|.int 1)<|eC<|.int 0)
abbrev pJ:Sm:=
 Ua 1 Nl (eC<|.int 1)
abbrev nK:Sm:=
 kC (kL (eC<|.int 1)<|kR 1)
 (kC (oz pP
 pJ 1000000)
 (mw<|jS 1))
abbrev lG:ae->jV->R A:=lB nI nK
meta abbrev QZ:aF:=top 17
meta abbrev RV:ba:=["one", "other", "more", "at", "j"]
meta abbrev Ul:ba:=["one", "other"]
abbrev Li:Ic:=
 ug (j7 tZ (jS 0)<|jS 3)
abbrev J5:Sm:=
 Ca (jS 2) (jS 4) (eC<|.int 1) Nl
abbrev ML:Ic:=
 ug (j7 tZ (jS 1)<|jS 3)
abbrev MF:Sm:=
 Ca (jS 2) (jS 4) (eC<|.int 1) aSub
abbrev Vg:Ic:=
 ug (kZ (f1 sR)<|jR (jS 0) j6)
abbrev J_:Sm:=
 kC (lN Li (kR 4)
 J5)
 (kC (lN ML (kR 4)
 MF)
 (yV (vX<|j7 WW (kZ (f1 Qt)<|jR (jS 2) j6)<|eC<|.int 0)
 (mw<|qM<|jR (j7 mF (jS 3)<|eC<|.int 1)<|jR (eFn lG<|jR (jS 2) j6) j6)
 qU))
abbrev Uv:Sm:=
 kC (pX<|eFn mH<|jR (jS 0)<|jR (jS 1) j6)
 (kC (kL (j7 za (qN<|jR (eC<|.int 0) j6)<|kZ (f1 sR)<|jR (jS 0) j6)<|kR 2)
 (kC (lN Vg (kR 3)
 J_)
 (mw<|eC .non)))
abbrev Dg:ae->jV->R A:=lB RV Uv
meta abbrev xB:aF:=top 19
meta abbrev uA:ba:=["one", "other"]
meta abbrev uS:ba:=["one", "other"]
abbrev uC:Sm:=
 mw (j7 (N3 false) (eFn Dg<|jR (jS 0)<|jR (jS 1) j6)<|eC .non)
abbrev oS:ae->jV->R A:=lB uA uC
meta abbrev sU:aF:=top 21
meta abbrev tM:ba:=["one", "other", "free_things", "most_things", "most_pairs"]
meta abbrev sY:ba:=["one", "other", "free_things", "most_things", "most_pairs"]
abbrev sZ:Sm:=
 kC (yV (vX<|j7 Y0 (kZ (f1 sR)<|jR (jS 0) j6)<|jS 2)
 (T_)
 qU)
 (sNo)
abbrev oE:ae->jV->R A:=lB tM sZ
meta abbrev qK:aF:=top 24
meta abbrev qE:ba:=["numbers"]
meta abbrev oR:ba:=["numbers"]
abbrev qJ:Sm:=
 mw (nc [none,some 0] (pI<|kZ (f1 zp)<|jR (jS 0) j6) (kR 0) (vX<|j7 (yS true) (j7 zO (jS 1)<|jS 0)<|eC<|.int 0)<|qM<|jR (jS 0)<|jR (j7 zO (jS 1)<|jS 0) j6)
abbrev lK:ae->jV->R A:=lB qE qJ
meta abbrev IT:aF:=top 25
meta abbrev Ir:ba:=["one", "other", "numbers", "power", "number"]
meta abbrev EB:ba:=["one", "other"]
abbrev yI:Ic:=
 pI (jS 1)
abbrev GH:Sm:=
 kL (j7 mF (F4 wX (jS 2)<|jR (jS 3)<|jR (eC<|.int 0) j6)<|jS 4) (G_ (jS 2)<|jS 3)
abbrev Je:Sm:=
 kC (kL (kZ (f1 I0)<|jR (jS 0) j6)<|kR 2)
 (kC (lN yI (Ac 2<|qW (kR 3)<|qW (kR 4) Af)
 GH)
 (mw<|eFn lK<|jR (jS 2) j6))
abbrev xE:ae->jV->R A:=lB Ir Je
meta abbrev Et:aF:=top 26
meta abbrev Fi:ba:=["one", "other", "numbers", "power", "number", "high", "many"]
meta abbrev wB:ba:=["one", "other"]
abbrev M6:Ic:=
 pI (jS 1)
abbrev NI:Sm:=
 kL (j7 mF (F4 wX (jS 2)<|jR (j7 mF (jS 3)<|jS 5)<|jR (eC<|.int 0) j6)<|j7 GY (jS 4)<|jS 6) (G_ (jS 2)<|j7 mF (jS 3)<|jS 5)
abbrev DK:Ic:=
 pI (jS 0)
abbrev D6:Sm:=
 lN M6 (Ac 2<|qW (kR 5)<|qW (kR 6) Af)
 NI
abbrev Ff:Sm:=
 kC (kL B8<|kR 2)
 (kC (lN DK (Ac 2<|qW (kR 3)<|qW (kR 4) Af)
 D6)
 (mw<|eFn lK<|jR (jS 2) j6))
abbrev nX:ae->jV->R A:=lB Fi Ff
meta abbrev Ce:aF:=top 27
meta abbrev Bu:ba:=["one"]
meta abbrev Bg:ba:=["one"]
abbrev BE:Sm:=
 mw (nc [none,none] (iRv<|jS 0) (Ac 2<|qW (kR 0)<|qW (kR 1) Af) Np<|qM<|jR (N5 zq<|jS 0)<|jR (jS 1) j6)
abbrev vQ:ae->jV->R A:=lB Bu BE
meta abbrev vh:aF:=top 32
meta abbrev vj:ba:=["one", "other"]
meta abbrev vq:ba:=["one", "other"]
abbrev vV:Sm:=
 kC (pX<|eFn mH<|jR (jS 0)<|jR (jS 1) j6)
 (pX<|eFn oE<|jR (jS 0)<|jR (jS 1)<|jR (eC<|.int 5)<|jR (eC<|.int 8)<|jR (eC<|.int 6) j6)
abbrev qu:ae->jV->R A:=lB vj vV
meta abbrev r9:aF:=top 35
meta abbrev mW:ba:=["one", "other", "known", "k", "less", "told"]
meta abbrev nS:ba:=["one", "other", "known"]
abbrev lD (Fs:ae->jV->R A):Sm:=
 kC (kL (j7 tZ (eFn pM<|jR (jS 1) j6)<|eC<|.int 0)<|kR 3)
 (kC (kL (eFn lz<|jR (jS 1)<|jR (jS 3) j6)<|kR 4)
 (kC (kL (eFn Fs<|jR (eFn lz<|jR (jS 0)<|jR (jS 3) j6)<|jR (jS 4)<|jR (jS 2) j6)<|kR 5)
 (kC (yV (vX<|j7 (aIn false) (jS 3)<|eFn pM<|jR (jS 0) j6)
 (mw<|jS 5)
 qU)
 (mw<|eFn xE<|jR (jS 5)<|jR (eFn nX<|jR (qN<|jR (qM<|jR (eC<|.int 1)<|jR (eC<|.int 1) j6) j6)<|jR (eFn Fs<|jR (jS 0)<|jR (jS 4)<|jR (jS 2) j6) j6) j6))))
meta abbrev qR:aF:=top 34
meta abbrev kY:ba:=["one", "other", "known", "pair"]
meta abbrev mO:ba:=["one", "other", "known"]
abbrev kW (Fs:ae->jV->R A):Sm:=
 kC (kL (qM<|jR (jS 0)<|jR (jS 1) j6)<|kR 3)
 (kC (yV (vX<|j7 (WY true) (jS 3)<|jS 2)
 (yV (vX<|j7 (yS false) (jS 0)<|jS 1)
 (kL (qN<|jR (qM<|jR (eC<|.int 0)<|jR (eC<|.int 1) j6) j6)<|Q6 (jS 2)<|jS 3)
 (yV (V4<|CN<|eFn oS<|jR (jS 0)<|jR (jS 1) j6)
 (kL (qN j6)<|Q6 (jS 2)<|jS 3)
 (kL (eFn (lB mW<|lD Fs)<|jR (jS 0)<|jR (jS 1)<|jR (jS 2) j6)<|Q6 (jS 2)<|jS 3)))
 qU)
 (mw<|j7 M4 (jS 2)<|jS 3))
abbrev lC:Nat->ae->jV->R A
 | 0=>λ_ _=>.no
 | k+1=>lB kY<|kW<|lC k
abbrev uJ:ae->jV->R A:=lC 26
meta abbrev Jm:aF:=top 33
meta abbrev Ib:ba:=["one", "other"]
meta abbrev IV:ba:=["one", "other"]
abbrev JB:Sm:=
 kC (pX<|eFn qu<|jR (jS 0)<|jR (jS 1) j6)
 (mw<|eFn uJ<|jR (jS 0)<|jR (jS 1)<|jR (IF) j6)
abbrev zm:ae->jV->R A:=lB Ib JB
meta abbrev uT:aF:=top 38
meta abbrev uN:ba:=["found", "order", "poly"]
meta abbrev nZ:ba:=["found", "order", "poly"]
abbrev uO:Sm:=
 kL (eFn xE<|jR (Rw Rg (jS 0)<|jR (jS 1)<|jR (qN j6) j6)<|jR (jS 2) j6) (T7 (jS 0)<|jS 1)
abbrev kX:ae->jV->R A:=lB uN uO
meta abbrev Br:aF:=top 39
meta abbrev Cs:ba:=["found"]
meta abbrev ue:ba:=["found"]
abbrev Be:Sm:=
 mw (nc [none,some 0] (pI<|kZ (f1 Fe)<|jR (jS 0) j6) (kR 0) (CN<|j7 CW (jS 1)<|jS 0)<|qM<|jR (jS 0)<|jR (j7 CW (jS 1)<|jS 0) j6)
abbrev nR:ae->jV->R A:=lB Cs Be
meta abbrev vY:aF:=top 40
meta abbrev vK:ba:=["one", "other"]
meta abbrev ve:ba:=["one", "other"]
abbrev vZ:Sm:=
 yV (OJ (CN<|jS 0)<|CN<|jS 1)
 (pX<|eFn mH<|jR (j7 tZ (j7 tZ (jS 0)<|eC<|.int 0)<|eC<|.int 0)<|jR (j7 tZ (j7 tZ (jS 1)<|eC<|.int 0)<|eC<|.int 0) j6)
 qU
abbrev qq:ae->jV->R A:=lB vK vZ
meta abbrev ED:aF:=top 41
meta abbrev FH:ba:=["one", "other", "found", "order", "poly"]
meta abbrev AJ:ba:=["one", "other"]
abbrev wG:Ic:=
 pI (j7 mF (jS 0)<|jS 1)
abbrev Dv:Sm:=
 pX (eFn kX<|jR (jS 2)<|jR (jS 3)<|jR (jS 4) j6)
abbrev FD:Sm:=
 kC (pX<|eFn qq<|jR (jS 0)<|jR (jS 1) j6)
 (kC (kL Cj<|kR 2)
 (kC (lN wG (Ac 2<|qW (kR 3)<|qW (kR 4) Af)
 Dv)
 (mw<|eFn nR<|jR (jS 2) j6)))
abbrev wK:ae->jV->R A:=lB FH FD
meta abbrev Bk:aF:=top 42
meta abbrev Cm:ba:=["poly", "one", "found", "order", "many"]
meta abbrev yc:ba:=["poly", "one"]
abbrev uP:Ic:=
 pI (jS 1)
abbrev uY:Sm:=
 pX (eFn kX<|jR (jS 2)<|jR (jS 3)<|jR (eFn nX<|jR (jS 0)<|jR (jS 4) j6) j6)
abbrev BA:Sm:=
 kC (kL Cj<|kR 2)
 (kC (lN uP (Ac 2<|qW (kR 3)<|qW (kR 4) Af)
 uY)
 (mw<|eFn nR<|jR (jS 2) j6))
abbrev uv:ae->jV->R A:=lB Cm BA
meta abbrev sS:aF:=top 43
meta abbrev tU:ba:=["one", "k", "found", "order", "poly"]
meta abbrev qp:ba:=["one", "k"]
abbrev oQ:Ic:=
 pI (jS 0)
abbrev nh:Sm:=
 kC (pX<|eFn kX<|jR (jS 2)<|jR (eFn lz<|jR (jS 3)<|jR (jS 1) j6)<|jR (jS 4) j6)
 (yV (vX<|j7 (aIn false) (jS 1)<|eFn pM<|jR (jS 3) j6)
 (pX<|eFn kX<|jR (jS 2)<|jR (jS 3)<|jR (eFn nX<|jR (kZ (f1 yO)<|jR (eC<|.frz<|[((-1:Int),(1:Int)),((1:Int),(-1:Int))].map kA) j6)<|jR (jS 4) j6) j6)
 qU)
abbrev sV:Sm:=
 kC (kL Cj<|kR 2)
 (kC (lN oQ (Ac 2<|qW (kR 3)<|qW (kR 4) Af)
 nh)
 (mw<|eFn nR<|jR (jS 2) j6))
abbrev nv:ae->jV->R A:=lB tU sV
meta abbrev uQ:aF:=top 45
meta abbrev uZ:ba:=["order", "left", "word", "can_begin"]
meta abbrev qX:ba:=["order"]
abbrev rq:Te:=
 CN (jS 3)
abbrev rE:Sm:=
 kC (pX<|eMe ya (jS 2)<|jR (j7 tZ (jS 3)<|eC<|.int 0) j6)
 (kC (kL (eFn lz<|jR (jS 1)<|jR (j7 tZ (jS 3)<|eC<|.int 0) j6)<|kR 1)
 (kL (eFn pM<|jR (jS 1) j6)<|kR 3))
abbrev uG:Sm:=
 kC (kL (eFn CA<|jR (jS 0) j6)<|kR 1)
 (kC (kL (qN j6)<|kR 2)
 (kC (kL (eFn pM<|jR (jS 1) j6)<|kR 3)
 (kC (oz rq
 rE 1000000)
 (mw<|jS 2))))
abbrev nW:ae->jV->R A:=lB uZ uG
meta abbrev pO:aF:=top 47
meta abbrev nQ:ba:=["order", "known", "word", "ahead"]
meta abbrev mV:ba:=["order", "known"]
abbrev nG (Fs:ae->jV->R A):Sm:=
 kC (yV (vX<|j7 (Ve true) (jS 0)<|jS 1)
 (kC (kL (eFn nW<|jR (jS 0) j6)<|kR 2)
 (yV (CN<|jS 2)
 (kC (kL (eFn Fs<|jR (eFn lz<|jR (jS 0)<|jR (j7 tZ (jS 2)<|N5 zq<|eC<|.int 1) j6)<|jR (jS 1) j6)<|kR 3)
 (kL (eFn wK<|jR (eFn nv<|jR (jS 3)<|jR (j7 tZ (jS 2)<|N5 zq<|eC<|.int 1) j6)<|jR (eFn uv<|jR (kZ (f1 yO)<|jR (eC<|.frz<|[((-1:Int),(-1:Int)),((1:Int),(1:Int))].map kA) j6)<|jR (jS 3) j6) j6)<|T7 (jS 1)<|jS 0))
 (kL (qN<|jR (qM<|jR (jS 0)<|jR (qN<|jR (qM<|jR (eC<|.int 0)<|jR (eC<|.int 1) j6) j6) j6) j6)<|T7 (jS 1)<|jS 0)))
 qU)
 (mw<|j7 CW (jS 1)<|jS 0)
abbrev m8:Nat->ae->jV->R A
 | 0=>λ_ _=>.no
 | k+1=>lB nQ<|nG<|m8 k
abbrev rZ:ae->jV->R A:=m8 26
meta abbrev yZ:aF:=top 48
meta abbrev zP:ba:=["one", "found", "known", "order", "poly", "at", "many"]
meta abbrev zA:ba:=["one"]
abbrev vM:Ic:=
 pI (eFn rZ<|jR (jS 3)<|jR (jS 2) j6)
abbrev vB:Sm:=
 pX (eFn kX<|jR (jS 1)<|jR (jS 5)<|jR (eFn nX<|jR (eFn vQ<|jR (jS 4) j6)<|jR (jS 6) j6) j6)
abbrev sN:Ic:=
 pI (jS 0)
abbrev sJ:Sm:=
 lN vM (Ac 2<|qW (kR 5)<|qW (kR 6) Af)
 vB
abbrev y_:Sm:=
 kC (kL Cj<|kR 1)
 (kC (kL Cj<|kR 2)
 (kC (lN sN (Ac 2<|qW (kR 3)<|qW (kR 4) Af)
 sJ)
 (mw<|eFn nR<|jR (jS 1) j6)))
abbrev rf:ae->jV->R A:=lB zP y_
meta abbrev zg:aF:=top 50
meta abbrev zc:ba:=["_law_script", "_law_at", "_law_cell", "_law_great"]
meta abbrev zC:ba:=["_law_script", "_law_at"]
abbrev zQ:Sm:=
 kC (kL (eC<|.int 0)<|kR 2)
 (kC (yV (vX<|j7 VB (jS 1)<|kZ (f1 sR)<|jR (jS 0) j6)
 (kL (j7 tZ (jS 0)<|jS 1)<|kR 2)
 qU)
 (kC (kL (eC<|.int 0)<|kR 3)
 (kC (yV (vX<|j7 aGe (jS 2)<|j7 W0 (eC<|.int 10)<|eC<|.int 18)
 (kL (jS 2)<|kR 3)
 qU)
 (mw<|qN<|jR (jS 3)<|jR (j7 Ah (j7 mF (j7 mF (jS 2)<|j7 za (eC<|.int 7919)<|jS 1)<|eC<|.int 13)<|eC<|.int 2147483647) j6))))
abbrev ud:ae->jV->R A:=lB zc zQ
meta abbrev vR:aF:=top 51
meta abbrev sI:ba:=["_law_bag_here", "_law_many", "_law_found"]
meta abbrev qy:ba:=["_law_bag_here", "_law_many"]
abbrev su:Sm:=
 kC (yV (vX<|j7 WW (j7 tZ (jS 0)<|eC<|.int 0)<|eC<|.int 0)
 (kC (kL (j7 Ah (j7 tZ (jS 0)<|eC<|.int 0)<|jS 1)<|kR 2)
 (kC (kL (j7 J1 (j7 tZ (jS 0)<|eC<|.int 0)<|jS 1)<|Zf (jS 0)<|eC<|.int 0)
 (mw<|jS 2)))
 qU)
 (kC (kL (j7 Ah (j7 mF (j7 za (j7 tZ (jS 0)<|eC<|.int 1)<|eC<|.int 48271)<|eC<|.int 11)<|eC<|.int 2147483647)<|Zf (jS 0)<|eC<|.int 1)
 (mw<|j7 Ah (j7 Ah (j7 za (j7 J1 (j7 tZ (jS 0)<|eC<|.int 1)<|eC<|.int 8)<|eC<|.int 69621)<|eC<|.int 2147483629)<|jS 1))
abbrev kH:ae->jV->R A:=lB sI su
meta abbrev rC:aF:=top 52
meta abbrev rH:ba:=["_law_held"]
meta abbrev pQ:ba:=["_law_held"]
abbrev rj:Sm:=
 mw (nc [none,some 0] (pI<|kZ (f1 zp)<|jR (jS 0) j6) (kR 0) (vX<|j7 (yS true) (j7 zO (jS 1)<|jS 0)<|eC<|.int 0)<|qM<|jR (jS 0)<|jR (j7 zO (jS 1)<|jS 0) j6)
abbrev mz:ae->jV->R A:=lB rH rj
meta abbrev rY:aF:=top 53
meta abbrev rR:ba:=["_law_one", "_law_other", "_law_held", "_law_power", "_law_number"]
meta abbrev se:ba:=["_law_one", "_law_other"]
abbrev n6:Ic:=
 pI (j7 mF (jS 0)<|jS 1)
abbrev uw:Sm:=
 kL (j7 mF (F4 wX (jS 2)<|jR (jS 3)<|jR (eC<|.int 0) j6)<|jS 4) (G_ (jS 2)<|jS 3)
abbrev rP:Sm:=
 kC (kL B8<|kR 2)
 (kC (lN n6 (Ac 2<|qW (kR 3)<|qW (kR 4) Af)
 uw)
 (mw<|eFn mz<|jR (jS 2) j6))
abbrev nU:ae->jV->R A:=lB rR rP
meta abbrev qG:aF:=top 54
meta abbrev qF:ba:=["_law_one", "_law_other", "_law_held", "_law_power", "_law_number", "_law_more", "_law_many"]
meta abbrev qC:ba:=["_law_one", "_law_other"]
abbrev xZ:Ic:=
 pI (jS 1)
abbrev yt:Sm:=
 kL (j7 mF (F4 wX (jS 2)<|jR (j7 mF (jS 3)<|jS 5)<|jR (eC<|.int 0) j6)<|j7 GY (jS 4)<|jS 6) (G_ (jS 2)<|j7 mF (jS 3)<|jS 5)
abbrev sL:Ic:=
 pI (jS 0)
abbrev sF:Sm:=
 lN xZ (Ac 2<|qW (kR 5)<|qW (kR 6) Af)
 yt
abbrev qH:Sm:=
 kC (kL B8<|kR 2)
 (kC (lN sL (Ac 2<|qW (kR 3)<|qW (kR 4) Af)
 sF)
 (mw<|eFn mz<|jR (jS 2) j6))
abbrev m9:ae->jV->R A:=lB qF qH
meta abbrev vO:aF:=top 55
meta abbrev vF:ba:=["_law_bag_here", "_law_n", "_law_left", "_law_made"]
meta abbrev wm:ba:=["_law_bag_here", "_law_n"]
abbrev tY:Te:=
 vX (j7 WW (kZ (f1 sR)<|jR (jS 2) j6)<|eC<|.int 0)
abbrev tR:Sm:=
 pX (eMe ya (jS 3)<|jR (eMe JT (jS 2)<|jR (eFn kH<|jR (jS 0)<|jR (kZ (f1 sR)<|jR (jS 2) j6) j6) j6) j6)
abbrev vd:Sm:=
 kC (kL (kZ (f1 yO)<|jR (kZ (f2 Ez)<|jR (eC<|.int 1)<|jR (j7 mF (jS 1)<|eC<|.int 1) j6) j6)<|kR 2)
 (kC (kL (qN j6)<|kR 3)
 (kC (oz tY
 tR 1000000)
 (mw<|kZ (f1 xq)<|jR (jS 3) j6)))
abbrev nH:ae->jV->R A:=lB vF vd
meta abbrev tX:aF:=top 56
meta abbrev tN:ba:=["_law_one", "_law_i", "_law_j"]
meta abbrev tD:ba:=["_law_one", "_law_i", "_law_j"]
abbrev s_:Sm:=
 mw (j7 mF (j7 mF (j7 mF (j7 mF (Zg (jS 0) LK<|wY<|jS 1)<|qM<|jR (j7 tZ (jS 0)<|jS 2) j6)<|Zg (jS 0) (wY<|j7 mF (jS 1)<|eC<|.int 1)<|wY<|jS 2)<|qM<|jR (j7 tZ (jS 0)<|jS 1) j6)<|Zg (jS 0) (wY<|j7 mF (jS 2)<|eC<|.int 1) LK)
abbrev oA:ae->jV->R A:=lB tN s_
meta abbrev qd:aF:=top 57
meta abbrev qe:ba:=["_law_one", "_law_left", "_law_found", "_law_i", "_law_j", "_law_amid"]
meta abbrev qh:ba:=["_law_one", "_law_left"]
abbrev o8:Ic:=
 zX (j7 mF (jS 3)<|eC<|.int 1) (kZ (f1 sR)<|jR (jS 0) j6)
abbrev mZ:Sm:=
 kC (kL (kZ (f1 sR)<|jR (nc [none,some 0,some 4,some 3] (pI<|Zg (jS 0) (wY<|j7 mF (jS 3)<|eC<|.int 1)<|wY<|jS 4) (kR 0) (vX<|Ux VB VB (j7 tZ (jS 1)<|jS 2) (jS 0)<|j7 tZ (jS 1)<|jS 3)<|jS 0) j6)<|kR 5)
 (yV (OJ (vX<|j7 WW (j7 tZ (jS 0)<|jS 3)<|j7 tZ (jS 0)<|jS 4)<|vX<|j7 Y0 (j7 mF (eC<|.int 1)<|j7 za (eC<|.int 2)<|jS 5)<|jS 1)
 (pX<|eMe ya (jS 2)<|jR (qM<|jR (jS 3)<|jR (jS 4)<|jR (j7 mF (eC<|.int 1)<|j7 za (eC<|.int 2)<|jS 5) j6) j6)
 qU)
abbrev oU:Ic:=
 ug (kZ (f1 sR)<|jR (jS 0) j6)
abbrev rm:Sm:=
 lN o8 (kR 4)
 mZ
abbrev p7:Sm:=
 kC (kL (qN j6)<|kR 2)
 (kC (lN oU (kR 3)
 rm)
 (mw<|jS 2))
abbrev mX:ae->jV->R A:=lB qe p7
meta abbrev wc:aF:=top 58
meta abbrev vN:ba:=["_law_bag_here", "_law_other", "_law_left", "_law_one", "_law_k", "_law_some", "_law_i", "_law_j", "_law_more"]
meta abbrev vP:ba:=["_law_bag_here", "_law_other", "_law_left"]
abbrev sX:Ic:=
 ug (eFn kH<|jR (jS 0)<|jR (eC<|.int 7) j6)
abbrev sW:Sm:=
 kC (kL (eFn mX<|jR (jS 3)<|jR (jS 2) j6)<|kR 5)
 (yV (vX<|j7 (yS true) (jS 5)<|qN j6)
 (kC (kL (j7 tZ (jS 5)<|eFn kH<|jR (jS 0)<|jR (kZ (f1 sR)<|jR (jS 5) j6) j6)<|Ac 3<|qW (kR 6)<|qW (kR 7)<|qW (kR 8) Af)
 (kC (kL (eFn oA<|jR (jS 3)<|jR (jS 6)<|jR (jS 7) j6)<|kR 3)
 (kL (j7 aSub (jS 2)<|jS 8)<|kR 2)))
 qU)
abbrev vC:Sm:=
 kC (kL (jS 1)<|kR 3)
 (kC (lN sX (kR 4)
 sW)
 (mw<|jS 3))
abbrev pF:ae->jV->R A:=lB vN vC
meta abbrev zw:aF:=top 59
meta abbrev y9:ba:=["_law_some", "_law_found", "_law_power", "_law_number", "_law_made", "_law_k"]
meta abbrev yW:ba:=["_law_some"]
abbrev qw:Ic:=
 ug (jS 2)
abbrev qB:Sm:=
 kL (eFn m9<|jR (qN<|jR (qM<|jR (N5 zq<|eC<|.int 1)<|jR (N5 zq<|eC<|.int 1) j6)<|jR (qM<|jR (eC<|.int 1)<|jR (eC<|.int 1) j6) j6)<|jR (jS 4) j6) (kR 4)
abbrev z8:Ic:=
 pI (jS 0)
abbrev zV:Sm:=
 kC (kL (qN<|jR (qM<|jR (eC<|.int 0)<|jR (jS 3) j6) j6)<|kR 4)
 (kC (lN qw (kR 5)
 qB)
 (kL (eFn nU<|jR (jS 1)<|jR (jS 4) j6)<|kR 1))
abbrev zl:Sm:=
 kC (kL (qN j6)<|kR 1)
 (kC (lN z8 (Ac 2<|qW (kR 2)<|qW (kR 3) Af)
 zV)
 (mw<|jS 1))
abbrev q_:ae->jV->R A:=lB y9 zl
meta abbrev Sy:aF:=top 60
meta abbrev RA:ba:=["_law_script", "_law_k", "_law_bag_here", "_law_n", "_law_other", "_law_held", "_law_step", "_law_one"]
meta abbrev XS:ba:=["_law_script"]
abbrev yo:Ic:=
 ug (j7 mF (eC<|.int 2)<|eFn kH<|jR (jS 2)<|jR (j7 tZ (qN<|jR (eC<|.int 9)<|jR (eC<|.int 2) j6)<|kZ (f1 F1)<|jR (j7 (yS false) (jS 3)<|eC<|.int 5) j6) j6)
abbrev AB:Sm:=
 kC (kL (eFn nH<|jR (jS 2)<|jR (jS 3) j6)<|kR 7)
 (kC (yV (vX<|j7 (yS false) (j7 Ah (jS 6)<|eC<|.int 2)<|eC<|.int 0)
 (kL (eFn pF<|jR (jS 2)<|jR (jS 4)<|jR (eC<|.int 20) j6)<|kR 7)
 qU)
 (yV (vX<|j7 (yS true) (Rw Rg (jS 5)<|jR (jS 7)<|jR (qN j6) j6)<|eFn q_<|jR (eFn zm<|jR (jS 7)<|jR (jS 4) j6) j6)
 (mw<|eC<|.bl false)
 qU))
abbrev Kh:Ic:=
 ug (kZ (f2 Sd)<|jR (eC<|.int 1)<|jR (kZ (f2 UA)<|jR (kZ (f1 sR)<|jR (jS 0) j6)<|jR (eC<|.int 4) j6) j6)
abbrev Eg:Sm:=
 kC (kL (eFn ud<|jR (jS 0)<|jR (jS 1) j6)<|kR 2)
 (kC (kL (j7 mF (eC<|.int 2)<|eFn kH<|jR (jS 2)<|jR (j7 tZ (qN<|jR (eC<|.int 4)<|jR (eC<|.int 3) j6)<|kZ (f1 F1)<|jR (j7 WW (jS 1)<|eC<|.int 0) j6) j6)<|kR 3)
 (kC (kL (eFn nH<|jR (jS 2)<|jR (jS 3) j6)<|kR 4)
 (kC (yV (vX<|j7 (yS false) (eFn kH<|jR (jS 2)<|jR (eC<|.int 8) j6)<|eC<|.int 3)
 (kL (Nk (jS 3) (eC<|.int 0)<|N5 zq<|eC<|.int 1)<|kR 4)
 qU)
 (kC (kL (kZ (f1 JQ)<|jR (eFn rf<|jR (qN<|jR (qM<|jR (jS 4)<|jR (qN<|jR (qM<|jR (eC<|.int 0)<|jR (eC<|.int 1) j6) j6) j6) j6) j6) j6)<|kR 5)
 (lN yo (kR 6)
 AB)))))
abbrev Rf:Sm:=
 kC (lN Kh (kR 1)
 Eg)
 (mw<|eC<|.bl true)
abbrev DW:ae->jV->R A:=lB RA Rf
section
variable {P:aj}{w:ah}{K:au}{mg:Str->bi}{base:aq}{f:ak}{fd:FuncData}
def F8:FnScope xj xg (j9 xx):=uW rfl rfl rfl ∅
def GR(F:Fun K "is_whole" "is_whole" xx f fd)(ac9:mg "isinstance" = none)(adb:mg "bool" = none)(abG:mg "int" = none):FnOk P w K mg base qi 1 f fd xg (qP K 1 rG):=u7 (m:=xM) F F8 λd B c s H E e=>
 jY (kI<|OA (kN Yo ac9 w4<|jT (jQ 0)<|jT (Yv abG Jv) jZ)<|PM<|YE<|kN Yo ac9 w4<|jT (jQ 0)<|jT (Yv adb Xf) jZ)
def EY:FnScope vc qv (j9 vG):=uW rfl rfl rfl ∅
def Fx(F:Fun K "need_pair" "need_pair" vG f fd)(aaQ:mg "len" = none):FnOk P w K mg base qi 1 f fd qv (qP K 2 mH):=u7 (m:=vJ) F EY λe B c s H E d=>
 jY (pD (mE (P8 d.units) (kN qO aaQ ow<|jT (jQ 0) jZ)<|kN qO aaQ ow<|jT (jQ 1) jZ)
 (jY<|QS)
 mK)
def Ay:FnScope Ip JA (j9 IK):=uW rfl rfl rfl ∅
def WZ(F:Fun K "back" "back" IK f fd)(aaQ:mg "len" = none)(ade:mg "enumerate" = none)(aa_:mg "tuple" = none):FnOk P w K mg base qi 1 f fd JA (qP K 1 CA):=u7 (m:=Jp) F Ay λd B c s H E e=>
 jW (kB (i:=1) Ay.nd<|kj Cf (mQ<|jT j0 jZ)<|kN qO aaQ ow<|jT (jQ 0) jZ)
 (jW (mD bO rfl (ZH ade<|jQ 0) (oh rfl<|ku (ki (i:=2) Ay.nd)<|ku (ki (i:=3) Ay.nd) mS)
 (jY<|oV (kj mG (jQ 2) j0)<|B3 (jQ 1)<|kj z0 (jQ 3) j0))
 (jY<|kI<|m5 (Fg rfl) aa_ yL<|jT (jQ 1) jZ))
def BP:FnScope tW tF (j9 sP):=uW rfl rfl rfl ∅
def BD(F:Fun K "is_exchange" "is_exchange" sP f fd)(adf:ng P w K mg base 1 "is_whole" xg rG):FnOk P w K mg base qi 2 f fd tF (qP K 2 oH):=u7 (m:=tB) F BP λe B c s H E d=>
 jY (kI<|OA (GO adf d<|jQ 1)<|PM<|acT U6 (UZ d.units) j0 (jQ 1)<|jQ 0)
def qQ:FnScope oZ oX (j9 oW):=uW rfl rfl rfl ∅
def wU(F:Fun K "exchanged_places" "exchanged_places" oW f fd)(aa8:mg "list" = none)(aa_:mg "tuple" = none):FnOk P w K mg base qi 1 f fd oX (qP K 3 l9):=u7 (m:=oY) F qQ λd B c s H E e=>
 jW (kB (i:=3) qQ.nd<|m5 (E6 rfl) aa8 AZ<|jT (jQ 0) jZ)
 (jW (oV (mY<|jT (lZ (jQ 3)<|kj z0 (jQ 2) j0)<|jT (lZ (jQ 3)<|kj z0 (jQ 1) j0) jZ)<|oh rfl<|ku (B3 (jQ 3)<|kj z0 (jQ 1) j0)<|ku (B3 (jQ 3)<|kj z0 (jQ 2) j0) mS)
 (jY<|kI<|m5 (Fg rfl) aa_ yL<|jT (jQ 3) jZ))
def EH:FnScope v9 nL (j9 vp):=uW rfl rfl rfl ∅
def EI(F:Fun K "exchanged" "exchanged" vp f fd)(aaQ:mg "len" = none)(adg:ng P w K mg base 2 "is_exchange" tF oH)(adh:ng P w K mg base 1 "exchanged_places" oX l9):FnOk P w K mg base qi 3 f fd nL (qP K 2 lz):=u7 (m:=wg) F EH λe B c s H E d=>
 jW (pD (Q0<|xO<|zx adg d (kN qO aaQ ow<|jT (jQ 0) jZ)<|jQ 1)
 (jY<|QS)
 mK)
 (jY<|kI<|VC adh d (jQ 0) (jQ 1)<|kj mG (jQ 1) j0)
def Up:FnScope Ec yP (j9 EK):=uW rfl rfl rfl ∅
def Sw(F:Fun K "falls" "falls" EK f fd)(aa6:mg "range" = none)(aaQ:mg "len" = none):FnOk P w K mg base qi 1 f fd yP (qP K 1 pM):=u7 (m:=Ey) F Up λe B c s H E d=>
 jY (kI<|wo (N:=["k", "order"]) (cap:=[none,some 0]) rfl (C4 ["order"] rfl ∅ ∅ ∅ ∅ ∅ (dW.mpr ⟨by first|exact Or.inl rfl|exact Or.inr rfl,(nofun)⟩) ⟨rfl,by decide +kernel,trivial⟩) (Dh aa6 j0<|kN qO aaQ ow<|jT (jQ 0) jZ) (λ_ _ _ _=>ki (i:=0) (show(["k", "order"]:ba).Nodup by decide +kernel) rfl (Or.inl rfl)<|.inr rfl) (λ_ _ _ _=>yk<|mE (Nj d.units) (lZ (jQ 1)<|kj z0 (jQ 0) j0)<|lZ (jQ 1)<|jQ 0) λ_ _ _ _=>jQ 0)
def nA:FnScope nI nF (j9 nP):=uW rfl rfl rfl ∅
def u_(F:Fun K "first_above_nought" "first_above_nought" nP f fd):FnOk P w K mg base qi 1 f fd nF (qP K 1 lG):=u7 (m:=nK) F nA λd B c s H E e=>
 jW (kB (i:=1) nA.nd j0)
 (jW (Co 1000000 bO (mE U6 (lZ (jQ 0)<|kj z0 (jQ 1) j0) j0)
 (jY<|Y9 (i:=1) nA.nd j0 Kc))
 (jY<|kI<|jQ 1))
def CC:FnScope RV Ul (j9 QZ):=uW rfl rfl rfl ∅
def Zu(F:Fun K "bar" "bar" QZ f fd)(aaQ:mg "len" = none)(aa6:mg "range" = none)(abH:mg "max" = none)(abB:ng P w K mg base 1 "need_pair" qv mH)(adi:ng P w K mg base 1 "first_above_nought" nF lG):FnOk P w K mg base qi 2 f fd Ul (qP K 2 Dg):=u7 (m:=Uv) F CC λe B d s H E c=>
 jW (nB<|zx abB c (jQ 0)<|jQ 1)
 (jW (kB (i:=2) CC.nd<|kj Cf (mQ<|jT j0 jZ)<|kN qO aaQ ow<|jT (jQ 0) jZ)
 (jW (mD bO rfl (o_ aa6<|kN qO aaQ ow<|jT (jQ 0) jZ) (ki (i:=3) CC.nd)
 (jW (mD bO rfl (o_ aa6<|lZ (jQ 0)<|jQ 3) (ki (i:=4) CC.nd)
 (jY<|LC (jQ 2) (jQ 4) j0 Kc))
 (jW (mD bO rfl (o_ aa6<|lZ (jQ 1)<|jQ 3) (ki (i:=4) CC.nd)
 (jY<|LC (jQ 2) (jQ 4) j0 WS))
 (jY (pD (mE (Nj c.units) (kN (Za rfl) abH OQ<|jT (jQ 2) jZ) j0)
 (jY<|kI<|mY<|jT (kj mG (jQ 3) j0)<|jT (GO adi c<|jQ 2) jZ)
 mK)))))
 (jY<|kI<|PR)))
def Hf:FnScope uA uS (j9 xB):=uW rfl rfl rfl ∅
def Gf(F:Fun K "is_below" "is_below" xB f fd)(adj:ng P w K mg base 2 "bar" Ul Dg):FnOk P w K mg base qi 3 f fd uS (qP K 2 oS):=u7 (m:=uC) F Hf λe B c s H E d=>
 jY (kI<|IB aea (zx adj d (jQ 0)<|jQ 1)<|PR)
def B4:FnScope tM sY (j9 sU):=uW rfl rfl rfl ∅
def Bm(F:Fun K "need_bounds" "need_bounds" sU f fd)(aaQ:mg "len" = none):FnOk P w K mg base qi 1 f fd sY (qP K 5 oE):=u7 (m:=sZ) F B4 λd B c s H E e=>
 jW (pD (mE U6 (kN qO aaQ ow<|jT (jQ 0) jZ)<|jQ 2)
 (jY<|UO)
 mK)
 (jY<|QS)
def zI:FnScope qE oR (j9 qK):=uW rfl rfl rfl ∅
def zJ(F:Fun K "as_polynomial" "as_polynomial" qK f fd)(abE:mg "sorted" = none):FnOk P w K mg base qi 1 f fd oR (qP K 1 lK):=u7 (m:=qJ) F zI λe B d s H E c=>
 jY (kI<|wo (N:=["power", "numbers"]) (cap:=[none,some 0]) rfl (C4 ["numbers"] rfl ∅ ∅ ∅ ∅ ∅ (dW.mpr ⟨by first|exact Or.inl rfl|exact Or.inr rfl,(nofun)⟩) ⟨rfl,by decide +kernel,trivial⟩) (n_<|kN (K9 rfl) abE zz<|jT (jQ 0) jZ) (λ_ _ _ _=>ki (i:=0) (show(["power", "numbers"]:ba).Nodup by decide +kernel) rfl (Or.inl rfl)<|.inr rfl) (λ_ _ _ _=>yk<|mE (P8 c.units) (FP c.units (jQ 1)<|jQ 0) j0) λ_ _ _ _=>mY<|jT (jQ 0)<|jT (FP c.units (jQ 1)<|jQ 0) jZ)
def AD:FnScope Ir EB (j9 IT):=uW rfl rfl rfl ∅
def Vq(F:Fun K "plus" "plus" IT f fd)(abM:mg "dict" = none)(abN:ng P w K mg base 1 "as_polynomial" oR lK):FnOk P w K mg base qi 2 f fd EB (qP K 2 xE):=u7 (m:=Je) F AD λe B d s H E c=>
 jW (kB (i:=2) AD.nd<|m5 (U9 rfl) abM Lk<|jT (jQ 0) jZ)
 (jW (mD bO rfl (n_<|jQ 1) (oh rfl<|ku (ki (i:=3) AD.nd)<|ku (ki (i:=4) AD.nd) mS)
 (jY<|oV (kj mG (EV cU d9 (FN c.units) (jQ 2)<|jT (jQ 3)<|jT j0 jZ)<|jQ 4)<|A1 c.units (jQ 2)<|jQ 3))
 (jY<|kI<|GO abN c<|jQ 2))
def ux:FnScope Fi wB (j9 Et):=uW rfl rfl rfl ∅
def Tj(F:Fun K "times" "times" Et f fd)(abN:ng P w K mg base 1 "as_polynomial" oR lK):FnOk P w K mg base qi 2 f fd wB (qP K 2 nX):=u7 (m:=Ff) F ux λe B d s H E c=>
 jW (kB (i:=2) ux.nd Cc)
 (jW (mD bO rfl (n_<|jQ 0) (oh rfl<|ku (ki (i:=3) ux.nd)<|ku (ki (i:=4) ux.nd) mS)
 (jY (mD bO rfl (n_<|jQ 1) (oh rfl<|ku (ki (i:=5) ux.nd)<|ku (ki (i:=6) ux.nd) mS)
 (jY<|oV (kj mG (EV cU d9 (FN c.units) (jQ 2)<|jT (kj mG (jQ 3)<|jQ 5)<|jT j0 jZ)<|kj OM (jQ 4)<|jQ 6)<|A1 c.units (jQ 2)<|kj mG (jQ 3)<|jQ 5))))
 (jY<|kI<|GO abN c<|jQ 2))
def Na:FnScope Bu Bg (j9 Ce):=uW rfl rfl rfl ∅
def M8(F:Fun K "turned" "turned" Ce f fd)(adk:mg "reversed" = none):FnOk P w K mg base qi 1 f fd Bg (qP K 1 vQ):=u7 (m:=BE) F Na λd B c s H E e=>
 jY (kI<|wo (N:=["power", "number"]) (cap:=[none,none]) rfl (C4 [] rfl ∅ ∅ ∅ ∅ ∅ (nofun) trivial) (aaG adk<|jQ 0) (λ_ _ _ _=>oh rfl<|ku (ki (i:=0) (show(["power", "number"]:ba).Nodup by decide +kernel) rfl (Or.inl rfl)<|.inr rfl)<|ku (ki (i:=1) (show(["power", "number"]:ba).Nodup by decide +kernel) rfl (Or.inl rfl)<|.inr rfl) mS) (λ_ _ _ _=>Vc) λ_ _ _ _=>mY<|jT (zB<|jQ 0)<|jT (jQ 1) jZ)
def FT:FnScope vj vq (j9 vh):=uW rfl rfl rfl ∅
def E5(F:Fun K "need_rest" "need_rest" vh f fd)(adl:∃t,mg "MOST_PAIRS" = some (.int 6 t))(adm:∃t,mg "MOST_THINGS" = some (.int 8 t))(ado:∃t,mg "FREE_THINGS" = some (.int 5 t))(abB:ng P w K mg base 1 "need_pair" qv mH)(adq:ng P w K mg base 1 "need_bounds" sY oE):FnOk P w K mg base qi 2 f fd vq (qP K 2 qu):=u7 (m:=vV) F FT λe B c s H E d=>
 jW (nB<|zx abB d (jQ 0)<|jQ 1)
 (jY<|nB<|pB adq (d.mono ⋯) (jT (jQ 0)<|jT (jQ 1)<|jT (BS ado.choose_spec)<|jT (BS adm.choose_spec)<|jT (BS adl.choose_spec) jZ)<|kc<|kc<|kc<|kc<|kc lI)
def oN:FnScope mW nS (j9 r9):=uW rfl rfl rfl ∅
def Ae{Fs:ae->jV->R A}(F:Fun K "rest_by_fall" "rest_by_fall" r9 f fd)(abu:ng P w K mg base 1 "falls" yP pM)(aa7:ng P w K mg base 3 "exchanged" nL lz)(acn:ng P w K mg base 2 "plus" EB xE)(aba:ng P w K mg base 2 "times" wB nX)(ac_:ng P w K mg base (4+2 * kr) "found_rest" mO Fs):FnOk P w K mg base qi (4+2 * kr+1) f fd nS (qP K 3<|lB mW<|lD Fs):=u7 (m:=lD Fs) F oN λe B d s H E c=>
 jW (kB (i:=3) oN.nd<|lZ (pB abu (c.mono<|by omega) (jT (jQ 1) jZ)<|kc lI) j0)
 (jW (kB (i:=4) oN.nd<|pB aa7 (c.mono<|by omega) (jT (jQ 1)<|jT (jQ 3) jZ)<|kc<|kc lI)
 (jW (kB (i:=5) oN.nd<|pB ac_ (c.mono<|by omega) (jT (pB aa7 (c.mono<|by omega) (jT (jQ 0)<|jT (jQ 3) jZ)<|kc<|kc lI)<|jT (jQ 4)<|jT (jQ 2) jZ)<|kc<|kc<|kc lI)
 (jW (pD (mE (abW c.units) (jQ 3)<|pB abu (c.mono<|by omega) (jT (jQ 0) jZ)<|kc lI)
 (jY<|kI<|jQ 5)
 mK)
 (jY<|kI<|pB acn (c.mono<|by omega) (jT (jQ 5)<|jT (pB aba (c.mono<|by omega) (jT (mQ<|jT (mY<|jT j0<|jT j0 jZ) jZ)<|jT (pB ac_ (c.mono<|by omega) (jT (jQ 0)<|jT (jQ 4)<|jT (jQ 2) jZ)<|kc<|kc<|kc lI) jZ)<|kc<|kc lI) jZ)<|kc<|kc lI))))
def wZ:FnScope kY mO (j9 qR):=uW rfl rfl rfl ∅
def C2{Fs:ae->jV->R A}(F:Fun K "found_rest" "found_rest" qR f fd)(acZ:ng P w K mg base 3 "is_below" uS oS)(aez:ng P w K mg base (4+2 * kr+1) "rest_by_fall" nS<|lB mW<|lD Fs):FnOk P w K mg base qi (4+2 * kr+2) f fd mO (qP K 3<|lB kY<|kW Fs):=u7 (m:=kW Fs) F wZ λe B d s H E c=>
 jW (kB (i:=3) wZ.nd<|mY<|jT (jQ 0)<|jT (jQ 1) jZ)
 (jW (pD (mE (TR c.units) (jQ 3)<|jQ 2)
 (jY (pD (mE (Wa c.units) (jQ 0)<|jQ 1)
 (jY<|oV (mQ<|jT (mY<|jT j0<|jT j0 jZ) jZ)<|ET c.units (jQ 2)<|jQ 3)
 (jY (pD (Q0<|xO<|pB acZ (c.mono ()) (jT (jQ 0)<|jT (jQ 1) jZ)<|kc<|kc lI)
 (jY<|oV (mQ jZ)<|ET c.units (jQ 2)<|jQ 3)
 (jY<|oV (pB aez (c.mono ()) (jT (jQ 0)<|jT (jQ 1)<|jT (jQ 2) jZ)<|kc<|kc<|kc lI)<|ET c.units (jQ 2)<|jQ 3)))))
 mK)
 (jY<|kI<|ZP c.units (jQ 2)<|jQ 3))
theorem vU(F:Fun K "found_rest" "found_rest" qR f fd)(acZ:ng P w K mg base 3 "is_below" uS oS)(M_rest_by_fall:∀{Fs:ae->jV->R A} {kr:Nat},ng P w K mg base (4+2 * kr) "found_rest" mO Fs->ng P w K mg base (4+2 * kr+1) "rest_by_fall" nS (lB mW<|lD Fs))(hm:mg "found_rest" = some (.ref f))(hk:PySem.W.keepIn K (.ref f)=true)(hb:Binds K fd mO []):∀kr,FnOk P w K mg base qi (4+2 * kr) f fd mO (qP K 3<|lC kr)
 | 0=>QA rfl
 | kr+1=>C2 F acZ<|M_rest_by_fall ⟨f,fd,vU F acZ M_rest_by_fall hm hk hb kr,hm,hk,hb⟩
def WN:FnScope Ib IV (j9 Jm):=uW rfl rfl rfl ∅
def VG(F:Fun K "rest" "rest" Jm f fd)(ads:ng P w K mg base 2 "need_rest" vq qu)(adv:ng P w K mg base 56 "found_rest" mO uJ):FnOk P w K mg base qi 57 f fd IV (qP K 2 zm):=u7 (m:=JB) F WN λe B c s H E d=>
 jW (nB<|zx ads d (jQ 0)<|jQ 1)
 (jY<|kI<|VC adv d (jQ 0) (jQ 1)<|QJ)
def C1:FnScope uN nZ (j9 uT):=uW rfl rfl rfl ∅
def CH(F:Fun K "put_before" "put_before" uT f fd)(acn:ng P w K mg base 2 "plus" EB xE):FnOk P w K mg base qi 3 f fd nZ (qP K 3 kX):=u7 (m:=uO) F C1 λe B d s H E c=>
 jY (oV (zx acn c (OT cU d9 (X8 c.units) (jQ 0)<|jT (jQ 1)<|jT (mQ jZ) jZ)<|jQ 2)<|Ea c.units (jQ 0)<|jQ 1)
def Nf:FnScope Cs ue (j9 Br):=uW rfl rfl rfl ∅
def NK(F:Fun K "as_sum" "as_sum" Br f fd)(abE:mg "sorted" = none):FnOk P w K mg base qi 1 f fd ue (qP K 1 nR):=u7 (m:=Be) F Nf λe B c s H E d=>
 jY (kI<|wo (N:=["order", "found"]) (cap:=[none,some 0]) rfl (C4 ["found"] rfl ∅ ∅ ∅ ∅ ∅ (dW.mpr ⟨by first|exact Or.inl rfl|exact Or.inr rfl,(nofun)⟩) ⟨rfl,by decide +kernel,trivial⟩) (n_<|kN (We rfl) abE zz<|jT (jQ 0) jZ) (λ_ _ _ _=>ki (i:=0) (show(["order", "found"]:ba).Nodup by decide +kernel) rfl (Or.inl rfl)<|.inr rfl) (λ_ _ _ _=>yk<|xO<|Ij d.units (jQ 1)<|jQ 0) λ_ _ _ _=>mY<|jT (jQ 0)<|jT (Ij d.units (jQ 1)<|jQ 0) jZ)
def E7:FnScope vK ve (j9 vY):=uW rfl rfl rfl ∅
def Fl(F:Fun K "need_like" "need_like" vY f fd)(abB:ng P w K mg base 1 "need_pair" qv mH):FnOk P w K mg base qi 2 f fd ve (qP K 2 qq):=u7 (m:=vZ) F E7 λe B c s H E d=>
 jY (pD (AW.at<|Pg (xO<|jQ 0)<|KW<|xO<|jQ 1)
 (jY<|nB<|zx abB d (lZ (lZ (jQ 0) j0) j0)<|lZ (lZ (jQ 1) j0) j0)
 mK)
def xS:FnScope FH AJ (j9 ED):=uW rfl rfl rfl ∅
def QL(F:Fun K "added" "added" ED f fd)(adA:ng P w K mg base 2 "need_like" ve qq)(aa9:ng P w K mg base 3 "put_before" nZ kX)(abe:ng P w K mg base 1 "as_sum" ue nR):FnOk P w K mg base qi 4 f fd AJ (qP K 2 wK):=u7 (m:=FD) F xS λe B d s H E c=>
 jW (nB<|zx adA c (jQ 0)<|jQ 1)
 (jW (kB (i:=2) xS.nd yg)
 (jW (mD bO rfl (n_<|kj mG (jQ 0)<|jQ 1) (oh rfl<|ku (ki (i:=3) xS.nd)<|ku (ki (i:=4) xS.nd) mS)
 (jY<|nB<|VC aa9 c (jQ 2) (jQ 3)<|jQ 4))
 (jY<|kI<|GO abe c<|jQ 2)))
def wN:FnScope Cm yc (j9 Bk):=uW rfl rfl rfl ∅
def N9(F:Fun K "scaled" "scaled" Bk f fd)(aa9:ng P w K mg base 3 "put_before" nZ kX)(aba:ng P w K mg base 2 "times" wB nX)(abe:ng P w K mg base 1 "as_sum" ue nR):FnOk P w K mg base qi 4 f fd yc (qP K 2 uv):=u7 (m:=BA) F wN λe B d s H E c=>
 jW (kB (i:=2) wN.nd yg)
 (jW (mD bO rfl (n_<|jQ 1) (oh rfl<|ku (ki (i:=3) wN.nd)<|ku (ki (i:=4) wN.nd) mS)
 (jY<|nB<|VC aa9 c (jQ 2) (jQ 3)<|zx aba c (jQ 0)<|jQ 4))
 (jY<|kI<|GO abe c<|jQ 2))
def pS:FnScope tU qp (j9 sS):=uW rfl rfl rfl ∅
def Ba(F:Fun K "by_exchange" "by_exchange" sS f fd)(aa8:mg "list" = none)(h_AT_A_FALL:∃a,mg "AT_A_FALL" = some (.ref a)/\UH K a=some [((-1:Int),(1:Int)),((1:Int),(-1:Int))])(aa9:ng P w K mg base 3 "put_before" nZ kX)(aa7:ng P w K mg base 3 "exchanged" nL lz)(abu:ng P w K mg base 1 "falls" yP pM)(aba:ng P w K mg base 2 "times" wB nX)(abe:ng P w K mg base 1 "as_sum" ue nR):FnOk P w K mg base qi 4 f fd qp (qP K 2 nv):=u7 (m:=sV) F pS λe B d s H E c=>
 jW (kB (i:=2) pS.nd yg)
 (jW (mD bO rfl (n_<|jQ 0) (oh rfl<|ku (ki (i:=3) pS.nd)<|ku (ki (i:=4) pS.nd) mS)
 (jW (nB<|VC aa9 c (jQ 2) (zx aa7 c (jQ 3)<|jQ 1)<|jQ 4)
 (jY (pD (mE (abW c.units) (jQ 1)<|GO abu c<|jQ 3)
 (jY<|nB<|VC aa9 c (jQ 2) (jQ 3)<|zx aba c (m5 (E6 rfl) aa8 AZ<|jT (Hx h_AT_A_FALL.choose_spec.1 h_AT_A_FALL.choose_spec.2) jZ)<|jQ 4)
 mK))))
 (jY<|kI<|GO abe c<|jQ 2))
def nu:FnScope uZ qX (j9 uQ):=uW rfl rfl rfl ∅
def CK(F:Fun K "first_word" "first_word" uQ f fd)(adE:ng P w K mg base 1 "back" JA CA)(abu:ng P w K mg base 1 "falls" yP pM)(aa7:ng P w K mg base 3 "exchanged" nL lz):FnOk P w K mg base qi 4 f fd qX (qP K 1 nW):=u7 (m:=uG) F nu λe B d s H E c=>
 jW (kB (i:=1) nu.nd<|GO adE c<|jQ 0)
 (jW (kB (i:=2) nu.nd<|mQ jZ)
 (jW (kB (i:=3) nu.nd<|GO abu c<|jQ 1)
 (jW (Co 1000000 bO (xO<|jQ 3)
 (jW (nB<|JV gP gQ Bs (jQ 2)<|jT (lZ (jQ 3) j0) jZ)
 (jW (kB (i:=1) nu.nd<|zx aa7 c (jQ 1)<|lZ (jQ 3) j0)
 (jY<|kB (i:=3) nu.nd<|GO abu c<|jQ 1))))
 (jY<|kI<|jQ 2))))
def qI:FnScope nQ mV (j9 pO):=uW rfl rfl rfl ∅
def Aq{Fs:ae->jV->R A}(F:Fun K "turned_order" "turned_order" pO f fd)(aa8:mg "list" = none)(h_LESS_BACK:∃a,mg "LESS_BACK" = some (.ref a)/\UH K a=some [((-1:Int),(-1:Int)),((1:Int),(1:Int))])(ac4:ng P w K mg base 4 "first_word" qX nW)(aa7:ng P w K mg base 3 "exchanged" nL lz)(ac5:ng P w K mg base 4 "added" AJ wK)(ac6:ng P w K mg base 4 "scaled" yc uv)(ac7:ng P w K mg base 4 "by_exchange" qp nv)(ac_:ng P w K mg base (5+kr) "turned_order" mV Fs):FnOk P w K mg base qi (5+kr+1) f fd mV (qP K 2<|lB nQ<|nG Fs):=u7 (m:=nG Fs) F qI λe B d s H E c=>
 jW (pD (mE (Sk c.units) (jQ 0)<|jQ 1)
 (jW (kB (i:=2) qI.nd<|pB ac4 (c.mono ()) (jT (jQ 0) jZ)<|kc lI)
 (jY (pD (xO<|jQ 2)
 (jW (kB (i:=3) qI.nd<|pB ac_ (c.mono ()) (jT (pB aa7 (c.mono ()) (jT (jQ 0)<|jT (lZ (jQ 2)<|zB j0) jZ)<|kc<|kc lI)<|jT (jQ 1) jZ)<|kc<|kc lI)
 (jY<|oV (pB ac5 (c.mono ()) (jT (pB ac7 (c.mono ()) (jT (jQ 3)<|jT (lZ (jQ 2)<|zB j0) jZ)<|kc<|kc lI)<|jT (pB ac6 (c.mono ()) (jT (m5 (E6 rfl) aa8 AZ<|jT (Hx h_LESS_BACK.choose_spec.1 h_LESS_BACK.choose_spec.2) jZ)<|jT (jQ 3) jZ)<|kc<|kc lI) jZ)<|kc<|kc lI)<|Ea c.units (jQ 1)<|jQ 0))
 (jY<|oV (mQ<|jT (mY<|jT (jQ 0)<|jT (mQ<|jT (mY<|jT j0<|jT j0 jZ) jZ) jZ) jZ)<|Ea c.units (jQ 1)<|jQ 0))))
 mK)
 (jY<|kI<|Ij c.units (jQ 1)<|jQ 0)
theorem t8(F:Fun K "turned_order" "turned_order" pO f fd)(aa8:mg "list" = none)(h_LESS_BACK:∃a,mg "LESS_BACK" = some (.ref a)/\UH K a=some [((-1:Int),(-1:Int)),((1:Int),(1:Int))])(ac4:ng P w K mg base 4 "first_word" qX nW)(aa7:ng P w K mg base 3 "exchanged" nL lz)(ac5:ng P w K mg base 4 "added" AJ wK)(ac6:ng P w K mg base 4 "scaled" yc uv)(ac7:ng P w K mg base 4 "by_exchange" qp nv)(hm:mg "turned_order" = some (.ref f))(hk:PySem.W.keepIn K (.ref f)=true)(hb:Binds K fd mV []):∀kr,FnOk P w K mg base qi (5+kr) f fd mV (qP K 2<|m8 kr)
 | 0=>QA rfl
 | kr+1=>Aq F aa8 h_LESS_BACK ac4 aa7 ac5 ac6 ac7 ⟨f,fd,t8 F aa8 h_LESS_BACK ac4 aa7 ac5 ac6 ac7 hm hk hb kr,hm,hk,hb⟩
def o6:FnScope zP zA (j9 yZ):=uW rfl rfl rfl ∅
def JG(F:Fun K "turning" "turning" yZ f fd)(adF:ng P w K mg base 31 "turned_order" mV rZ)(aa9:ng P w K mg base 3 "put_before" nZ kX)(aba:ng P w K mg base 2 "times" wB nX)(adN:ng P w K mg base 1 "turned" Bg vQ)(abe:ng P w K mg base 1 "as_sum" ue nR):FnOk P w K mg base qi 32 f fd zA (qP K 1 rf):=u7 (m:=y_) F o6 λe B d s H E c=>
 jW (kB (i:=1) o6.nd yg)
 (jW (kB (i:=2) o6.nd yg)
 (jW (mD bO rfl (n_<|jQ 0) (oh rfl<|ku (ki (i:=3) o6.nd)<|ku (ki (i:=4) o6.nd) mS)
 (jY (mD bO rfl (n_<|zx adF c (jQ 3)<|jQ 2) (oh rfl<|ku (ki (i:=5) o6.nd)<|ku (ki (i:=6) o6.nd) mS)
 (jY<|nB<|VC aa9 c (jQ 1) (jQ 5)<|zx aba c (GO adN c<|jQ 4)<|jQ 6))))
 (jY<|kI<|GO abe c<|jQ 1)))
def rK:FnScope zc zC (j9 zg):=uW rfl rfl rfl ∅
def Jw(F:Fun K "_law_bag" "_law_bag" zg f fd)(aaQ:mg "len" = none):FnOk P w K mg base qi 1 f fd zC (qP K 2 ud):=u7 (m:=zQ) F rK λe B c s H E d=>
 jW (kB (i:=2) rK.nd j0)
 (jW (pD (mE (UZ d.units) (jQ 1)<|kN qO aaQ ow<|jT (jQ 0) jZ)
 (jY<|kB (i:=2) rK.nd<|lZ (jQ 0)<|jQ 1)
 mK)
 (jW (kB (i:=3) rK.nd j0)
 (jW (pD (mE aeF (jQ 2)<|kj ab_ j0 j0)
 (jY<|kB (i:=3) rK.nd<|jQ 2)
 mK)
 (jY<|kI<|mQ<|jT (jQ 3)<|jT (kj DU (kj mG (kj mG (jQ 2)<|kj Cf j0<|jQ 1) j0) j0) jZ))))
def yh:FnScope sI qy (j9 vR):=uW rfl rfl rfl ∅
def EG(F:Fun K "_law_digit" "_law_digit" vR f fd):FnOk P w K mg base qi 1 f fd qy (qP K 2 kH):=u7 (m:=su) F yh λe B c s H E d=>
 jW (pD (mE (Nj d.units) (lZ (jQ 0) j0) j0)
 (jW (kB (i:=2) yh.nd<|kj DU (lZ (jQ 0) j0)<|jQ 1)
 (jW (oV (kj SG (lZ (jQ 0) j0)<|jQ 1)<|B3 (jQ 0) j0)
 (jY<|kI<|jQ 2)))
 mK)
 (jW (oV (kj DU (kj mG (kj Cf (lZ (jQ 0) j0) j0) j0) j0)<|B3 (jQ 0) j0)
 (jY<|kI<|kj DU (kj DU (kj Cf (kj SG (lZ (jQ 0) j0) j0) j0) j0)<|jQ 1))
def An:FnScope rH pQ (j9 rC):=uW rfl rfl rfl ∅
def Ar(F:Fun K "_law_own_poly" "_law_own_poly" rC f fd)(abE:mg "sorted" = none):FnOk P w K mg base qi 1 f fd pQ (qP K 1 mz):=u7 (m:=rj) F An λe B d s H E c=>
 jY (kI<|wo (N:=["_law_power", "_law_held"]) (cap:=[none,some 0]) rfl (C4 ["_law_held"] rfl ∅ ∅ ∅ ∅ ∅ (dW.mpr ⟨by first|exact Or.inl rfl|exact Or.inr rfl,(nofun)⟩) ⟨rfl,by decide +kernel,trivial⟩) (n_<|kN (K9 rfl) abE zz<|jT (jQ 0) jZ) (λ_ _ _ _=>ki (i:=0) (show(["_law_power", "_law_held"]:ba).Nodup by decide +kernel) rfl (Or.inl rfl)<|.inr rfl) (λ_ _ _ _=>yk<|mE (P8 c.units) (FP c.units (jQ 1)<|jQ 0) j0) λ_ _ _ _=>mY<|jT (jQ 0)<|jT (FP c.units (jQ 1)<|jQ 0) jZ)
def oO:FnScope rR se (j9 rY):=uW rfl rfl rfl ∅
def Ak(F:Fun K "_law_own_plus" "_law_own_plus" rY f fd)(ac8:ng P w K mg base 1 "_law_own_poly" pQ mz):FnOk P w K mg base qi 2 f fd se (qP K 2 nU):=u7 (m:=rP) F oO λe B d s H E c=>
 jW (kB (i:=2) oO.nd Cc)
 (jW (mD bO rfl (n_<|kj mG (jQ 0)<|jQ 1) (oh rfl<|ku (ki (i:=3) oO.nd)<|ku (ki (i:=4) oO.nd) mS)
 (jY<|oV (kj mG (EV cU d9 (FN c.units) (jQ 2)<|jT (jQ 3)<|jT j0 jZ)<|jQ 4)<|A1 c.units (jQ 2)<|jQ 3))
 (jY<|kI<|GO ac8 c<|jQ 2))
def lX:FnScope qF qC (j9 qG):=uW rfl rfl rfl ∅
def zj(F:Fun K "_law_own_times" "_law_own_times" qG f fd)(ac8:ng P w K mg base 1 "_law_own_poly" pQ mz):FnOk P w K mg base qi 2 f fd qC (qP K 2 m9):=u7 (m:=qH) F lX λe B d s H E c=>
 jW (kB (i:=2) lX.nd Cc)
 (jW (mD bO rfl (n_<|jQ 0) (oh rfl<|ku (ki (i:=3) lX.nd)<|ku (ki (i:=4) lX.nd) mS)
 (jY (mD bO rfl (n_<|jQ 1) (oh rfl<|ku (ki (i:=5) lX.nd)<|ku (ki (i:=6) lX.nd) mS)
 (jY<|oV (kj mG (EV cU d9 (FN c.units) (jQ 2)<|jT (kj mG (jQ 3)<|jQ 5)<|jT j0 jZ)<|kj OM (jQ 4)<|jQ 6)<|A1 c.units (jQ 2)<|kj mG (jQ 3)<|jQ 5))))
 (jY<|kI<|GO ac8 c<|jQ 2))
def uR:FnScope vF wm (j9 vO):=uW rfl rfl rfl ∅
def Fv(F:Fun K "_law_order" "_law_order" vO f fd)(aa8:mg "list" = none)(aa6:mg "range" = none)(aaQ:mg "len" = none)(aa_:mg "tuple" = none)(abt:ng P w K mg base 1 "_law_digit" qy kH):FnOk P w K mg base qi 2 f fd wm (qP K 2 nH):=u7 (m:=vd) F uR λe B c s H E d=>
 jW (kB (i:=2) uR.nd<|m5 (E6 rfl) aa8 AZ<|jT (m5 Rk aa6 Gk<|jT j0<|jT (kj mG (jQ 1) j0) jZ) jZ)
 (jW (kB (i:=3) uR.nd<|mQ jZ)
 (jW (Co 1000000 bO (mE (Nj d.units) (kN qO aaQ ow<|jT (jQ 2) jZ) j0)
 (jY<|nB<|JV gP gQ Bs (jQ 3)<|jT (JV PySem.F.slot_list_pop PySem.F.type_list_pop Wx (jQ 2)<|jT (zx abt d (jQ 0)<|kN qO aaQ ow<|jT (jQ 2) jZ) jZ) jZ))
 (jY<|kI<|m5 (Fg rfl) aa_ yL<|jT (jQ 3) jZ)))
def BX:FnScope tN tD (j9 tX):=uW rfl rfl rfl ∅
def BC(F:Fun K "_law_swapped" "_law_swapped" tX f fd):FnOk P w K mg base qi 1 f fd tD (qP K 3 oA):=u7 (m:=s_) F BX λd B c s H E e=>
 jY (kI<|kj mG (kj mG (kj mG (kj mG (LO (jQ 0) Kg<|wL<|jQ 1)<|mY<|jT (lZ (jQ 0)<|jQ 2) jZ)<|LO (jQ 0) (wL<|kj mG (jQ 1) j0)<|wL<|jQ 2)<|mY<|jT (lZ (jQ 0)<|jQ 1) jZ)<|LO (jQ 0) (wL<|kj mG (jQ 2) j0) Kg)
def mL:FnScope qe qh (j9 qd):=uW rfl rfl rfl ∅
def yR(F:Fun K "_law_pairs_less" "_law_pairs_less" qd f fd)(aa6:mg "range" = none)(aaQ:mg "len" = none):FnOk P w K mg base qi 1 f fd qh (qP K 2 mX):=u7 (m:=p7) F mL λe B d s H E c=>
 jW (kB (i:=2) mL.nd<|mQ jZ)
 (jW (mD bO rfl (o_ aa6<|kN qO aaQ ow<|jT (jQ 0) jZ) (ki (i:=3) mL.nd)
 (jY (mD bO rfl (Dh aa6 (kj mG (jQ 3) j0)<|kN qO aaQ ow<|jT (jQ 0) jZ) (ki (i:=4) mL.nd)
 (jW (kB (i:=5) mL.nd<|kN qO aaQ ow<|jT (wo (N:=["_law_thing", "_law_one", "_law_j", "_law_i"]) (cap:=[none,some 0,some 4,some 3]) rfl (C4 ["_law_one", "_law_j", "_law_i"] rfl ∅ ∅ ∅ ∅ ∅ (dW.mpr ⟨by first|exact Or.inl rfl|exact Or.inr rfl,(dW.mpr ⟨by first|exact Or.inl rfl|exact Or.inr rfl,(dW.mpr ⟨by first|exact Or.inl rfl|exact Or.inr rfl,(nofun)⟩)⟩)⟩) ⟨rfl,by decide +kernel,⟨rfl,by decide +kernel,⟨rfl,by decide +kernel,trivial⟩⟩⟩) (n_<|LO (jQ 0) (wL<|kj mG (jQ 3) j0)<|wL<|jQ 4) (λ_ _ _ _=>ki (i:=0) (show(["_law_thing", "_law_one", "_law_j", "_law_i"]:ba).Nodup by decide +kernel) rfl (Or.inl rfl)<|.inr rfl) (λ_ _ _ _=>yk<|acD (UZ c.units) (UZ c.units) (lZ (jQ 1)<|jQ 2) (jQ 0)<|lZ (jQ 1)<|jQ 3) λ_ _ _ _=>jQ 0) jZ)
 (jY (pD (AW.at<|Pg (mE (Nj c.units) (lZ (jQ 0)<|jQ 3)<|lZ (jQ 0)<|jQ 4)<|KW<|mE U6 (kj mG j0<|kj Cf j0<|jQ 5)<|jQ 1)
 (jY<|nB<|JV gP gQ Bs (jQ 2)<|jT (mY<|jT (jQ 3)<|jT (jQ 4)<|jT (kj mG j0<|kj Cf j0<|jQ 5) jZ) jZ)
 mK))))))
 (jY<|kI<|jQ 2))
def lU:FnScope vN vP (j9 wc):=uW rfl rfl rfl ∅
def Fb(F:Fun K "_law_under" "_law_under" wc f fd)(aa6:mg "range" = none)(aaQ:mg "len" = none)(abt:ng P w K mg base 1 "_law_digit" qy kH)(adT:ng P w K mg base 1 "_law_pairs_less" qh mX)(adU:ng P w K mg base 1 "_law_swapped" tD oA):FnOk P w K mg base qi 2 f fd vP (qP K 3 pF):=u7 (m:=vC) F lU λe B d s H E c=>
 jW (kB (i:=3) lU.nd<|jQ 1)
 (jW (mD bO rfl (o_ aa6<|zx abt c (jQ 0) j0) (ki (i:=4) lU.nd)
 (jW (kB (i:=5) lU.nd<|zx adT c (jQ 3)<|jQ 2)
 (jY (pD (mE (P8 c.units) (jQ 5)<|mQ jZ)
 (jW (oV (lZ (jQ 5)<|zx abt c (jQ 0)<|kN qO aaQ ow<|jT (jQ 5) jZ)<|oh rfl<|ku (ki (i:=6) lU.nd)<|ku (ki (i:=7) lU.nd)<|ku (ki (i:=8) lU.nd) mS)
 (jW (kB (i:=3) lU.nd<|VC adU c (jQ 3) (jQ 6)<|jQ 7)
 (jY<|kB (i:=2) lU.nd<|kj z0 (jQ 2)<|jQ 8)))
 mK))))
 (jY<|kI<|jQ 3))
def nO:FnScope y9 yW (j9 zw):=uW rfl rfl rfl ∅
def Jl(F:Fun K "_law_put" "_law_put" zw f fd)(aa6:mg "range" = none)(adW:ng P w K mg base 2 "_law_own_times" qC m9)(adZ:ng P w K mg base 2 "_law_own_plus" se nU):FnOk P w K mg base qi 3 f fd yW (qP K 1 q_):=u7 (m:=zl) F nO λe B c s H E d=>
 jW (kB (i:=1) nO.nd<|mQ jZ)
 (jW (mD bO rfl (n_<|jQ 0) (oh rfl<|ku (ki (i:=2) nO.nd)<|ku (ki (i:=3) nO.nd) mS)
 (jW (kB (i:=4) nO.nd<|mQ<|jT (mY<|jT j0<|jT (jQ 3) jZ) jZ)
 (jW (mD bO rfl (o_ aa6<|jQ 2) (ki (i:=5) nO.nd)
 (jY<|kB (i:=4) nO.nd<|zx adW d (mQ<|jT (mY<|jT (zB j0)<|jT (zB j0) jZ)<|jT (mY<|jT j0<|jT j0 jZ) jZ)<|jQ 4))
 (jY<|kB (i:=1) nO.nd<|zx adZ d (jQ 1)<|jQ 4))))
 (jY<|kI<|jQ 1))
def tQ:FnScope RA XS (j9 Sy):=uW rfl rfl rfl ∅
set_option smartUnfolding false in
theorem Ze(F:Fun K "law" "law" Sy f fd)(aa6:mg "range" = none)(abH:mg "max" = none)(ad6:mg "min" = none)(aaQ:mg "len" = none)(abG:mg "int" = none)(aa_:mg "tuple" = none)(abM:mg "dict" = none)(aeb:ng P w K mg base 1 "_law_bag" zC ud)(abt:ng P w K mg base 1 "_law_digit" qy kH)(ada:ng P w K mg base 2 "_law_order" wm nH)(aee:ng P w K mg base 32 "turning" zA rf)(ael:ng P w K mg base 2 "_law_under" vP pF)(aem:ng P w K mg base 3 "_law_put" yW q_)(aeo:ng P w K mg base 57 "rest" IV zm):FnOk P w K mg base qi 58 f fd XS (qP K 1 DW):=u7 (m:=Rf) F tQ λe B d s H E c=>
 jW (mD bO rfl (o_ aa6<|kN (aaz rfl) abH OQ<|jT j0<|jT (kN (aad rfl) ad6 ZO<|jT (kN qO aaQ ow<|jT (jQ 0) jZ)<|jT j0 jZ) jZ) (ki (i:=1) tQ.nd)
 (jW (kB (i:=2) tQ.nd<|zx aeb c (jQ 0)<|jQ 1)
 (jW (kB (i:=3) tQ.nd<|kj mG j0<|zx abt c (jQ 2)<|lZ (mQ<|jT j0<|jT j0 jZ)<|m5 Uu abG Jv<|jT (IB (Nj c.units) (jQ 1) j0) jZ)
 (jW (kB (i:=4) tQ.nd<|zx ada c (jQ 2)<|jQ 3)
 (jW (pD (mE (Wa c.units) (zx abt c (jQ 2) j0) j0)
 (jY<|kB (i:=4) tQ.nd<|SX rfl aa_ yL aa6 Gk (jQ 3) j0<|zB j0)
 mK)
 (jW (kB (i:=5) tQ.nd<|m5 (V7 rfl c.units) abM Lk<|jT (GO aee c<|mQ<|jT (mY<|jT (jQ 4)<|jT (mQ<|jT (mY<|jT j0<|jT j0 jZ) jZ) jZ) jZ) jZ)
 (jY (mD bO rfl (o_ aa6<|kj mG j0<|zx abt c (jQ 2)<|lZ (mQ<|jT j0<|jT j0 jZ)<|m5 Uu abG Jv<|jT (IB (Wa c.units) (jQ 3) j0) jZ) (ki (i:=6) tQ.nd)
 (jW (kB (i:=7) tQ.nd<|zx ada c (jQ 2)<|jQ 3)
 (jW (pD (mE (Wa c.units) (kj DU (jQ 6) j0) j0)
 (jY<|kB (i:=7) tQ.nd<|VC ael c (jQ 2) (jQ 4) j0)
 mK)
 (jY (pD (mE (P8 c.units) (OT cU d9 (X8 c.units) (jQ 5)<|jT (jQ 7)<|jT (mQ jZ) jZ)<|GO aem c<|zx aeo c (jQ 7)<|jQ 4)
 (jY<|kI XU)
 mK))))))))))))
 (jY<|kI XU)
end
end K34
namespace Po
open Am
meta abbrev Pl:=List<|Int×Int
abbrev val (d:Pl)(k:Int):Int:=((d.find? λp=>decide<|p.1=k).map (·.2)).getD 0
abbrev has (d:Pl)(k:Int):Bool:=d.any λp=>decide<|p.1=k
abbrev put (d:Pl)(k v:Int):Pl:=if has d k=true then d.map (λp=>if p.1=k then(p.1,v)else p)else d++[(k,v)]
abbrev acc (d:Pl)(k v:Int):Pl:=put d k<|val d k+v
abbrev cf:Pl->Int->Int
 | [],_=>0
 | p::l,k=>(if p.1=k then p.2 else 0)+cf l k
def qx{p:Int×Int}{d:Pl}{k:Int}:val (p::d) k=if p.1=k then p.2 else val d k:=by
 unfold val;rw[cC];by_cases h:p.1=k
 ·rw[aW h,aM h];rfl
 ·rw[bq h,aJ h]
def BG{p:Int×Int}{d:Pl}{k:Int}:has (p::d) k=(decide (p.1=k) || has d k):=rfl
def yK{d:Pl}{k:Int}:has d k=true ↔ k∈d.map Prod.fst:=by
 unfold has;rw[gE,bI];constructor
 ·rintro⟨p,h1,h2⟩;exact⟨p,h1,bN h2⟩
 ·rintro⟨p,h1,h2⟩;exact⟨p,h1,aW h2⟩
def Ov{d:Pl}{k:Int}(h:has d k=false):val d k=0:=by
 induction d with
 | nil=>rfl
 | cons p d c=>
  rw[BG,i9]at h;rw[qx,aJ<|c_ h.1,c h.2]
def Wh{d:Pl}{k v j:Int}(h:has d k=false):val (d++[(k,v)]) j=if j=k then v else val d j:=by
 induction d with
 | nil=>
  show val [(k,v)] j=_;rw[qx];by_cases c:k=j
  ·rw[aM c,aM c.symm]
  ·rw[aJ c,aJ λz=>c z.symm]
 | cons p d e=>
  rw[BG,i9]at h;have:=c_ h.1;rw[gF,qx,qx,e h.2];by_cases c:p.1=j
  ·rw[aM c,aM c,aJ λz=>this<|c.trans z]
  ·rw[aJ c,aJ c]
def U5{d:Pl}{k v j:Int}:val (d.map λp=>if p.1=k then(p.1,v)else p) j=if j=k/\has d k=true then v else val d j:=by
 induction d with
 | nil=>
  rw[aJ λz=>by cases z.2];rfl
 | cons p d f=>
  rw[bL,qx,qx,f,BG];by_cases c:p.1=k
  ·rw[aM c,aW c,Bool.true_or];by_cases e:j=k
   ·rw[aM<|show p.1=j by lia,aM ⟨e,rfl⟩]
   ·rw[aJ<|show ¬p.1=j by lia,aJ λz=>e z.1,aJ λz=>e z.1,aJ<|show ¬p.1=j by lia]
  ·rw[aJ c,bq c,gK];by_cases e:p.1=j
   ·rw[aM e,aM e,aJ λz=>c<|e.trans z.1]
   ·rw[aJ e,aJ e]
def Wr{d:Pl}{k v j:Int}:val (put d k v) j=if j=k then v else val d j:=by
 unfold put
 cases h:has d k with
 | true=>
  rw[aM rfl,U5,h];by_cases c:j=k
  ·rw[aM ⟨c,rfl⟩,aM c]
  ·rw[aJ λz=>c z.1,aJ c]
 | false=>rw[aJ<|by simp,Wh h]
def Xc{d:Pl}{k v j:Int}:val (acc d k v) j=val d j+if k=j then v else 0:=by
 unfold acc;rw[Wr];by_cases c:j=k
 ·subst c;rw[aM rfl,aM rfl]
 ·rw[aJ c,aJ λz=>c z.symm,cY]
def O9{d:Pl}{k v:Int}:(put d k v).map Prod.fst=if has d k=true then d.map Prod.fst else d.map Prod.fst++[k]:=by
 unfold put;split
 ·rw[bK];apply dj;intro p _;show(if p.1=k then(p.1,v)else p).1=p.1;split<;>rfl
 ·rw[bZ];rfl
def Zc{d:Pl}{k v:Int}(h:(d.map Prod.fst).Nodup):((put d k v).map Prod.fst).Nodup:=by
 rw[O9];split
 ·exact h
 ·rename_i c;rw[c8];refine⟨h,cg _ _,λa f b e z=>c ?_⟩;rw[aS]at e;rw[yK,<- e,<- z];exact f
def Vp{d:Pl}{k v:Int}:(put d k v).length<=d.length+1:=by
 unfold put;split
 ·rw[aI];lia
 ·rw[aV];exact aP _
abbrev Bd (c:Nat)(d:Pl):Prop:=∀p∈d,p.2.natAbs<=c
theorem Bd.val{c:Nat}{d:Pl}(h:Bd c d)(k:Int):(val d k).natAbs<=c:=by
 induction d with
 | nil=>exact bY _
 | cons p d e=>
  rw[qx];split
  ·exact h p (aK ..)
  ·exact e λq f=>h q<|aO _ f
abbrev rQ (d ps:Pl):Pl:=ps.foldl (λd p=>acc d p.1 p.2) d
def SQ(d:Pl):rQ d []=d:=rfl
def Cw(d ps qs:Pl):rQ d (ps++qs)=rQ (rQ d ps) qs:=by unfold rQ;rw[cR]
def yp(ps:Pl):∀(d:Pl) (k:Int),val (rQ d ps) k=val d k+cf ps k:=by
 induction ps with
 | nil=>intro d k;rw[SQ];show _=_+0;rw[cY]
 | cons p ps c=>
  intro d k;show val (rQ (acc d p.1 p.2) ps) k=_;rw[c,Xc];show _=_+(_+_);rw[iX]
def wI(ps:Pl):∀{d:Pl},(d.map Prod.fst).Nodup->((rQ d ps).map Prod.fst).Nodup:=by
 induction ps with
 | nil=>intro d h;exact h
 | cons p ps c=>intro d h;exact c<|Zc h
def oG(ps:Pl):∀(d:Pl),(rQ d ps).length<=d.length+ps.length:=by
 induction ps with
 | nil=>intro d;exact aP _
 | cons p ps c=>
  intro d;have h1:=c<|acc d p.1 p.2;have h2:(acc d p.1 p.2).length<=d.length+1:=Vp;show(rQ (acc d p.1 p.2) ps).length<=_;rw[bu]
  lia
structure Ok (l:Pl):Prop where
 up:l.Pairwise λp q=>p.1<q.1
 nz:∀p∈l,p.2≠0
def Ok.tail{p:Int×Int}{l:Pl}(h:Ok (p::l)):Ok l:=⟨(bV.mp h.up).2,λq c=>h.nz q<|aO _ c⟩
def HL{l:Pl}{k:Int}(h:∀p∈l,k<p.1):cf l k=0:=by
 induction l with
 | nil=>rfl
 | cons p l c=>
  show(if p.1=k then p.2 else 0)+cf l k=0;have:=h p<|aK ..;rw[aJ (),c λq d=>h q<|aO _ d];rfl
def Ok.head{p:Int×Int}{l:Pl}(h:Ok (p::l)):cf (p::l) p.1=p.2:=by
 show(if p.1=p.1 then p.2 else 0)+cf l p.1=p.2;rw[aM rfl,HL (bV.mp h.up).1,cY]
def Ok.low{p:Int×Int}{l:Pl}(h:Ok (p::l)){k:Int}(hk:k<p.1):cf (p::l) k=0:=HL λq c=>by
 rcases bB.mp c with rfl|z
 ·exact hk
 ·have:=(bV.mp h.up).1 q z;lia
theorem uniq:∀{l m:Pl},Ok l->Ok m->(∀k,cf l k=cf m k)->l=m
 | [],[],_,_,_=>rfl
 | [],q::m,_,h,e=>by
  have:=e q.1;rw[h.head]at this;exact absurd this.symm<|h.nz q<|aK ..
 | p::l,[],h,_,e=>by
  have:=e p.1;rw[h.head]at this;exact absurd this<|h.nz p<|aK ..
 | p::l,q::m,h,h',e=>by
  have d:=h.nz p<|aK ..;have f:=h'.nz q<|aK ..;have e1:p.1=q.1:=by
   rcases Int.lt_trichotomy p.1 q.1 with c|c|c
   ·have:=e p.1;rw[h.head,h'.low c]at this;exact absurd this d
   ·exact c
   ·have:=e q.1;rw[h'.head,h.low c]at this;exact absurd this.symm f
  have e2:p.2=q.2:=by
   have:=e p.1;rw[h.head,e1,h'.head]at this;exact this
  have e3:p=q:=Prod.ext e1 e2;subst e3;rw[uniq h.tail h'.tail λk=>by
   have:(if p.1=k then p.2 else 0)+cf l k=(if p.1=k then p.2 else 0)+cf m k:=e k
   lia]
abbrev IE (d:Pl):Pl:=((sortI<|d.map Prod.fst).filter λk=>val d k != 0).map λk=>(k,val d k)
def WH{ks:ag}(h:ks.Nodup):(sortI ks).Pairwise (· < ·):=by
 have p:=Bf ks;have n:(sortI ks).Nodup:=(sortI_perm ks).nodup_iff.mpr h;have:(sortI ks).Pairwise λa b=>a<=b/\a≠b:=p.and n;exact this.imp λ⟨a,b⟩=>()
def D_{d:Pl}(h:(d.map Prod.fst).Nodup):Ok (IE d):=by
 refine⟨?_,λp e=>?_⟩
 ·unfold IE;rw[cO];exact(WH h).filter _
 ·obtain⟨k,c,rfl⟩:=bI.mp e;have:=(cD.mp c).2;simpa using this
theorem Rq{d:Pl}{k:Int}:∀{ks:ag},ks.Nodup->cf (ks.map λj=>(j,val d j)) k=if k∈ks then val d k else 0
 | [],_=>by rw[aJ<|by simp];rfl
 | j::ks,h=>by
  obtain⟨h1,h2⟩:=c5.mp h;show(if j=k then val d j else 0)+cf (ks.map λj=>(j,val d j)) k=_;rw[Rq h2];by_cases c:j=k
  ·subst c;rw[aM rfl,aJ h1,aM<|aK ..,cY]
  ·rw[aJ c,cL];by_cases e:k∈ks
   ·rw[aM e,aM<|aO _ e]
   ·rw[aJ e,aJ λz=>(bB.mp z).elim (λz=>c z.symm) e]
def Ei{d:Pl}(h:(d.map Prod.fst).Nodup)(k:Int):cf (IE d) k=val d k:=by
 unfold IE;rw[Rq<|((sortI_perm _).nodup_iff.mpr h).filter _];split
 ·rfl
 ·rename_i c
  cases e:has d k with
  | false=>exact(Ov e).symm
  | true=>
   by_cases z:val d k=0
   ·exact z.symm
   ·exact absurd (cD.mpr ⟨(sortI_perm _).mem_iff.mpr<|yK.mp e,by simpa using z⟩) c
def Z6{d e:Pl}(h:(d.map Prod.fst).Nodup)(h':(e.map Prod.fst).Nodup)(hv:∀k,val d k=val e k):IE d=IE e:=
 uniq (D_ h) (D_ h') λk=>by rw[Ei h,Ei h',hv]
def Ok.nd{l:Pl}(h:Ok l):(l.map Prod.fst).Nodup:=by
 unfold List.Nodup;rw[cO];exact h.up.imp λa=>()
def Rj{l:Pl}(h:(l.map Prod.fst).Nodup)(k:Int):val l k=cf l k:=by
 induction l with
 | nil=>rfl
 | cons p l d=>
  obtain⟨h1,h2⟩:=c5.mp h;rw[qx];show _=(if p.1=k then p.2 else 0)+cf l k;rw[<- d h2];by_cases c:p.1=k
  ·have:has l k=false:=by
    cases e:has l k with
    | false=>rfl
    | true=>exact absurd (yK.mp e)<|by rw[<- c];exact h1
   rw[aM c,aM c,Ov this,cY]
  ·rw[aJ c,aJ c,cL]
abbrev SJ (d ps:Pl):Pl:=ps.foldl (λd p=>put d p.1 p.2) d
theorem Ll:∀(ps d:Pl),((d++ps).map Prod.fst).Nodup->SJ d ps=d++ps
 | [],d,_=>by rw[cZ];rfl
 | p::ps,d,h=>by
  have hn:has d p.1=false:=by
   cases e:has d p.1 with
   | false=>rfl
   | true=>
    rw[bZ,c8]at h;exact absurd rfl<|h.2.2 _ (yK.mp e) p.1<|fP<|aK ..
  have e:put d p.1 p.2=d++[p]:=by unfold put;rw[hn];rfl
  show SJ (put d p.1 p.2) ps=_;rw[e,Ll ps (d++[p])<|by rw[bM];exact h,bM];rfl
def Vk{l:Pl}(h:Ok l):SJ [] l=l:=Ll l [] h.nd
abbrev plus (a b:Pl):Pl:=IE<|rQ a b
abbrev pG (a b:Pl):Pl:=IE<|rQ []<|a++b
def V_{a:Pl}(h:Ok a):plus a b=pG a b:=by
 refine Z6 (wI _ h.nd) (wI _ dR) λk=>?_;rw[yp,yp,Rj h.nd];have:∀(a b:Pl),cf (a++b) k=cf a k+cf b k:=λa b=>by
  induction a with
  | nil=>exact(cL _).symm
  | cons p a c=>
   show _+cf (a++b) k=_+_+_;rw[c,iX]
 rw[this];show _=0+_;rw[cL]
def yC(a b:Pl):Ok (pG a b):=D_<|wI _ dR
abbrev C5 (a b:Pl):Pl:=a.flatMap λp=>b.map λq=>(p.1+q.1,p.2 * q.2)
abbrev times (a b:Pl):Pl:=IE<|rQ []<|C5 a b
def qA(a b:Pl):Ok (times a b):=D_<|wI _ dR
def QC(a:Pl)(p:Int×Int)(b:Pl):C5 (a++[p]) b=C5 a b++b.map λq=>(p.1+q.1,p.2 * q.2):=by
 unfold C5;rw[List.flatMap_append,List.flatMap_cons,List.flatMap_nil,cZ]
def yJ(a b:Pl):(C5 a b).length=a.length * b.length:=by
 induction a with
 | nil=>simp[C5]
 | cons p a c=>
  show((b.map _)++C5 a b).length=_;rw[aV,aI,c,bu,fC]
  lia
theorem Bd.C5{c:Nat}{a:Pl}(h:Bd c a)(h':Bd c' b):Bd (c * c') (C5 a b):=λr d=>by
 obtain⟨p,f,d⟩:=fW.mp d;obtain⟨q,e,rfl⟩:=bI.mp d
 skip
 rw[jN];exact eG (h p f)<|h' q e
def Eh(d:Pl):(IE d).length<=d.length:=by
 unfold Po.IE;rw[aI];refine bH (gq _ _) ?_;rw[(sortI_perm _).length_eq,aI];exact aP _
abbrev turn (a:Pl):Pl:=a.reverse.map λp=>(-p.1,p.2)
abbrev iv (d:Pl):List (Int×A):=d.map λp=>(p.1,.int p.2)
abbrev pA (p:Int×Int):A:=.tup [.int p.1,.int p.2]
abbrev pl (l:Pl):ae:=l.map pA
def FJ(d:Pl)(k:Int):oB (iv d) k=(d.find? λp=>decide<|p.1=k).map λp=>.int p.2:=by
 unfold oB iv;rw[jv,iG];rfl
def RN(d:Pl)(k:Int):(oB (iv d) k).getD (.int 0)=.int (val d k):=by
 rw[FJ];unfold val
 cases d.find? λp=>decide (p.1=k)<;>rfl
def HY{d:Pl}{k:Int}(h:k∈d.map Prod.fst):oB (iv d) k=some (.int<|val d k):=by
 have:=yK.mpr h;unfold has at this;rw[FJ];unfold val
 cases e:d.find? λp=>decide (p.1=k)with
 | some p=>rfl
 | none=>
  obtain⟨p,f,c⟩:=gE.mp this;exact absurd c<|gU.mp e p f
def JH(d:Pl)(k v:Int):zK (iv d) k (.int v)=iv (put d k v):=by
 have e:(oB (iv d) k).isSome=has d k:=by
  rw[FJ,iy];unfold has;rw[Bool.eq_iff_iff,jB,gE]
 unfold zK put;rw[e];unfold iv;split
 ·rw[bK,bK];apply dj;intro p _;show(if p.1=k then(p.1,A.int v)else(p.1,.int p.2))=_;show _=((if p.1=k then(p.1,v)else p).1,A.int (if p.1=k then(p.1,v)else p).2);split<;>rfl
 ·rw[bZ];rfl
def Wm(d:Pl):(iv d).map Prod.fst=d.map Prod.fst:=by
 unfold iv;rw[bK];rfl
theorem Xl:∀l:Pl,Wy (pl l)=some (iv l)
 | []=>rfl
 | p::l=>by
  show(Wy<|pl l).map _=_;rw[Xl l];rfl
def WR(l:Pl):Wt (iv l)=iv (SJ [] l):=by
 have:∀(l d:Pl),(iv l).foldl (λacc p=>zK acc p.1 p.2) (iv d)=iv (SJ d l):=by
  intro l
  induction l with
  | nil=>intro d;rfl
  | cons p l c=>
   intro d;show(iv l).foldl _ (zK (iv d) p.1<|.int p.2)=_;rw[JH,c];rfl
 exact this l []
end Po
namespace Tb
abbrev fg (r:ag)(x:Int):Nat:=r.findIdx λy=>decide<|x<y
abbrev put:List (ag)->Int->List (ag)
 | [],x=>[[x]]
 | r::rs,x=>if fg r x=r.length then(r++[x])::rs else r.set (fg r x) x::put rs (r.getD (fg r x) 0)
abbrev row:List (ag)->Int->Nat
 | [],_=>0
 | r::rs,x=>if fg r x=r.length then 0 else row rs (r.getD (fg r x) 0)+1
def Vf{r:ag}{x:Int}(h:fg r x=r.length):put (r::rs) x=(r++[x])::rs:=aM h
def Y3{r:ag}{x:Int}(h:fg r x≠r.length):put (r::rs) x=r.set (fg r x) x::put rs (r.getD (fg r x) 0):=aJ h
def Lr{r:ag}{x:Int}(h:fg r x=r.length):row (r::rs) x=0:=aM h
def O6{r:ag}{x:Int}(h:fg r x≠r.length):row (r::rs) x=row rs (r.getD (fg r x) 0)+1:=aJ h
theorem Tp:∀(T:List<|ag) (x:Int),row T x<=T.length
 | [],_=>aP _
 | r::rs,x=>by
  by_cases h:fg r x=r.length
  ·rw[Lr h];exact bY _
  ·rw[O6 h,bu];exact Nat.succ_le_succ<|Tp rs _
abbrev bump:ar->Nat->ar
 | [],_=>[1]
 | n::ns,0=>(n+1)::ns
 | n::ns,i+1=>n::bump ns i
theorem D4:∀(T:List<|ag) (x:Int),(put T x).map List.length=bump (T.map List.length) (row T x)
 | [],_=>rfl
 | r::rs,x=>by
  by_cases h:fg r x=r.length
  ·rw[Vf h,Lr h,bL,bL,aV];rfl
  ·rw[Y3 h,O6 h,bL,bL,bW,D4 rs];rfl
theorem GX:∀(ns:ar) (i:Nat),i<=ns.length->(bump ns i).length=if i=ns.length then ns.length+1 else ns.length
 | [],i,h=>by
  have:i=0:=by simpa using h
  subst this;rfl
 | n::ns,0,_=>by rw[aJ<|by simp];rfl
 | n::ns,i+1,h=>by
  have h':i<=ns.length:=Nat.le_of_succ_le_succ h;show(bump ns i).length+1=_;rw[GX ns i h'];by_cases e:i=ns.length
  ·rw[aM e,aM<|by rw[bu,e]];rfl
  ·rw[aJ e,aJ<|by rw[bu];lia];rfl
def K2(T:List<|ag)(x:Int):(put T x).length=if row T x=T.length then T.length+1 else T.length:=by
 have:=dQ List.length<|D4 T x;rw[aI,GX _ _<|by rw[aI];exact Tp T x,aI]at this;exact this
abbrev add:List (ag)->Nat->Int->List (ag)
 | [],_,k=>[[k]]
 | q::qs,0,k=>(q++[k])::qs
 | q::qs,i+1,k=>q::add qs i k
abbrev gs (r:ag)(x:Int):ar:=(List.range r.length).filter λk=>decide<|x<r.getD k 0
end Tb
namespace Am
open PySem L2
abbrev Rows (S:jV):ar->List (ag)->Prop
 | [],[]=>True
 | r::rs,x::T=>jU S r=some (x.map .int)/\Rows S rs T
 | _,_=>False
structure Tab (S:jV)(n:Nat)(rs:ar)(T:List (ag)):Prop where
 top:jU S n=some (rs.map .ref)
 rows:Rows S rs T
 nd:(n::rs).Nodup
def eq_nil{a:Nat}{xs:ae}(h:jU S a=some xs)(h':jU S b=some []):xV S 12 (.ref a) (.ref b)=some xs.isEmpty:=by
 show(jU S a).bind (λxs=>(jU S b).bind λys=>vI (xV S 11) xs ys)=_;rw[h,fX,h',fX]
 cases xs<;>rfl
def Y4{a:A}{k:Bool}(h:xV S 12 a b=some k):yS false a b S=.ok (.bl k) S:=by unfold yS;rw[h];rfl
def JP{a:A}{k:Bool}(h:xV S 12 a b=some k):yS true a b S=.ok (.bl<|!k) S:=by unfold yS;rw[h];rfl
def SK{xs:ae}{n:Nat}{src:Ic}{t:Te}{e:Ex}{S:jV}(hs:src τ S=.ok (om n xs.length) S)(hx:jU S n=some xs)(p:A->Bool)(f:A->A)
  (ht:∀x∈xs,t (x::ni cap τ) S=.ok (p x) S) (he:∀x∈xs,p x=true->e (x::ni cap τ) S=.ok (f x) S) (hl:xs.length<=16777216) :
  nc (none::cap) src (kR 0) t e τ S=.ok (.ref S.length) (S++[.lst<|(xs.filter p).map f]):=by
 have c:∀i,i<xs.length->xs.getD i .unb∈xs:=λi hi=>by
  rw[aL,aH hi];exact eg hi
 rw[yY hs (λi=>xs.getD i .unb) (λi=>p<|xs.getD i .unb) (λi=>f<|xs.getD i .unb) (λi hi=>by
  have hi:i<xs.length:=hi;show(jU S n).bind _=_;rw[hx,fX,aL,aH hi];rfl) (by
   show(match jU S n with
    | some ys=>decide (ys.length<=xs.length)
    | none=>false)=true
   rw[hx];simp) (λi hi=>ht _<|c i hi) (λi hi=>he _<|c i hi) hl]
 have:=p8 xs p f .unb;show R.ok _ (S++[O.lst<|((List.range xs.length).filter _).map _])=_;rw[this]
def getD_at{r:ag}{k:Nat}(h:k<r.length):r[k]?=some (r.getD k 0):=by rw[aL,aH h];rfl
end Am
namespace Am
open PySem L2 Po
meta abbrev g01:Tg:=Ac 2<|qW (kR 0)<|qW (kR 1) Af
def JN{s:Src}{src:Ic}{e:Ex}{S1:jV}(hs:src τ S=.ok s S1)(a b f:Nat->A)(hget:∀i,i<s.k->s.get i S1=some (.tup [a i,b i]))(hfin:s.fin S1=true)
  (he:∀i,i<s.k->e (a i::b i::ni cap τ) S1=.ok (f i) S1) (hl:s.k<=16777216) :
  nc (none::none::cap) src g01 Np e τ S=.ok (.ref S1.length) (S1++[.lst<|(List.range s.k).map f]):=by
 unfold nc;rw[hs,R.nV];obtain⟨j,h1,h2⟩:=ye (s:=s) (g:=g01) (t:=Np) (e:=e) (P:=λS=>S=S1) (T:=λc=>∃y z,c=y::z::ni cap τ) (λi=>.tup [a i,b i]) (λ_=>true) f (λi S hi h=>by subst h;exact hget i hi) (λS h=>by subst h;exact hfin)
  (λi c S hi ⟨y,z,d⟩ h=>by
   subst h d;exact⟨a i::b i::ni cap τ,S,S,rfl,rfl,⟨_,_,rfl⟩,λh=>(nomatch h),λm=>⟨S,he i hi,rfl⟩⟩) s.k 0 (ni (none::none::cap) τ) S1 rfl ⟨_,_,rfl⟩ rfl
 subst h2;rw[h1,R.o9,gw,List.filter_eq_self.mpr λ_ _=>rfl];refine mT ?_;rw[aI,List.length_range'];exact hl
def acK{l:Pl}{i:Nat}(h:i<l.length):(pl l)[i]?=some (.tup [.int (l.getD i (0,0)).1,.int (l.getD i (0,0)).2]):=by
 unfold pl;rw[aX,aH h,aL,aH h];rfl
def zk(l:Pl):(pl l).length=l.length:=aI ..
def Qu{l:Pl}{n:Nat}{src:Ic}{e:Ex}{S1:jV}(hs:src τ S=.ok (J2 n (pl l).length) S1)(hx:jU S1 n=some (pl l))(f:Int×Int->A)
  (he:∀p:Int×Int,e (.int p.1::.int p.2::ni cap τ) S1=.ok (f p) S1) (hl:l.length<=16777216) :
  nc (none::none::cap) src g01 Np e τ S=.ok (.ref S1.length) (S1++[.lst<|l.reverse.map f]):=by
 have rg:∀i,i<l.length->l.reverse.getD i (0,0)=l.getD (l.length-1-i) (0,0):=λi hi=>by
  rw[aL,aL,List.getElem?_reverse hi]
 rw[JN hs (λi=>.int (l.reverse.getD i (0,0)).1) (λi=>.int (l.reverse.getD i (0,0)).2) (λi=>f<|l.reverse.getD i (0,0)) (λi hi=>by
  have hi:i<(pl l).length:=hi;rw[zk]at hi;show(jU S1 n).bind _=_;rw[hx,fX,zk,aM hi,acK<|by omega,rg i hi]) rfl (λi _=>he _)<|by show(pl l).length<=_;rw[zk];exact hl]
 have:=range_getD l.reverse (0,0)
 skip
 rw[zk]
 conv=>rhs;rw[<- this,bK,fQ]
 rfl
def Nm{xs:ae}{n:Nat}{src:Ic}{t:Te}{e:Ex}{S1:jV}(hs:src τ S=.ok (om n xs.length) S1)(hx:jU S1 n=some xs)(p:A->Bool)(f:A->A)
  (ht:∀x∈xs,t (x::ni cap τ) S1=.ok (p x) S1) (he:∀x∈xs,p x=true->e (x::ni cap τ) S1=.ok (f x) S1) (hl:xs.length<=16777216) :
  nc (none::cap) src (kR 0) t e τ S=.ok (.ref S1.length) (S1++[.lst<|(xs.filter p).map f]):=by
 have:=SK (S:=S1) (src:=λ_ _=>.ok (om n xs.length) S1) (τ:=τ) rfl hx p f ht he hl;unfold nc at this ⊢;rw[hs];exact this
def FF{S:jV}{d:List<|Int×A}:l_ (S++[.pZ d]) S.length=some d:=E9 Ja
def Ud{o:O}{n:Nat}{d:List<|Int×A}(h:l_ S n=some d):l_ (S++[o]) n=some d:=by
 have h':=qZ h;exact E9<|by rw[bF (aN.mp h').1];exact h'
def XX{S:jV}{n:Nat}{d:List<|Int×A}(h:l_ S n=some d):n<S.length:=(aN.mp<|qZ h).1
def Pd{S:jV}{n:Nat}{d:List<|Int×A}(h:n<S.length):l_ (S.set n<|.pZ d) n=some d:=E9<|bJ h
def J8{n:Nat}{d:List<|Int×A}(h:l_ S n=some d)(h':jU S m=some xs):n≠m:=λz=>by
 subst z;have e1:=qZ h;rw[kg h']at e1
 cases e1
def Mw{f:A->ae->jV->R A}{co:Ex}{d:tH}:F4 f co d τ S=(co τ S).bind λx S1=>opt (dk? x S1) λ_=>(d τ S1).bind λas S2=>f x as S2:=rfl
def Ow{n:Nat}:dk? (.ref n) S=(l_ S n).map λ_=>Unit.unit:=rfl
def G3{n:Nat}{k:Int}:wX (.ref n) [.int k,y] S=opt (l_ S n) λkvs=>.ok ((oB kvs k).getD y) S:=rfl
def KR{co ci:Ex}{a:A}:G_ co ci a τ S=(co τ S).bind λo S1=>(ci τ S1).bind λi S2=>(DQ o i a S2).bind λ_ S3=>.ok τ S3:=rfl
def HS{n:Nat}{k:Int}{v:A}{S:jV}:DQ (.ref n) (.int k) v S=opt (l_ S n) λkvs=>gd (kvs.length<sizeLine) (.ok Unit.unit<|S.set n<|.pZ<|zK kvs k v):=rfl
def MC{n:Nat}{k:Int}:zO (.ref n) (.int k) S=opt (l_ S n) λkvs=>opt (oB kvs k) λv=>.ok v S:=rfl
def yX{S:jV}:B8 τ S=.ok (.ref S.length) (S++[.pZ []]):=rfl
def ND{n:Nat}{S:jV}:zp (.ref n) S=opt (l_ S n) λkvs=>.ok (.ref S.length) (S++[.lst<|(sortI<|kvs.map Prod.fst).map .int]):=rfl
def N_{n:Nat}{S:jV}:I0 (.ref n) S=opt (jU S n) λxs=>opt (Wy xs) λps=>.ok (.ref S.length) (S++[.pZ<|Wt ps]):=rfl
def adB{i j:Int}(h:i.natAbs<big)(h':j.natAbs<big):GY (.int i) (.int j) S=.ok (.int<|i * j) S:=m_ ⟨h,h'⟩
def Pq(d:Pl):(iv d).length=d.length:=aI ..
meta abbrev YJ:Sm:=kL (j7 mF (F4 wX (jS 2)<|jR (jS 3)<|jR (eC<|.int 0)<|j6)<|jS 4)<|G_ (jS 2)<|jS 3
def acc_step{S:jV}{d:Nat}{D:Pl}{k v:Int}(hd:l_ S d=some (iv D))(hl:D.length<16777216):YJ [x0,x1,.ref d,.int k,.int v] S=.nx [x0,x1,.ref d,.int k,.int v] (S.set d<|.pZ<|iv<|acc D k v):=by
 unfold YJ;dsimp[kG,bools,Mw,Ow,hd,dz,G3,RN,KR,HS,zT<|show(iv D).length<16777216 by rw[Pq];exact hl,JH];rfl
meta abbrev R_:Tg:=Ac 2<|qW (kR 3)<|qW (kR 4) Af
def Lg{d n:Nat}{D l:Pl}{src:Ic}(hs:src [x0,x1,.ref d,x3,x4] S=.ok (om n (pl l).length) S1)(hn:jU S1 n=some (pl l))(hd:l_ S1 d=some (iv D))(hl:D.length+l.length<16777216) :
  ∃y3 y4 S',lN src R_ YJ [x0,x1,.ref d,x3,x4] S=.nx [x0,x1,.ref d,y3,y4] S'/\l_ S' d=some (iv<|rQ D l)/\Kp (·=d) S1 S':=by
 have nd:=J8 hd hn;refine uX (n:=n) (xs:=pl l) hs (λi τ T=>(∃y3 y4,τ=[x0,x1,.ref d,y3,y4])/\l_ T d=some (iv<|rQ D<|l.take i)/\Kp (·=d) S1 T)
  (λr=>∃y3 y4 S',r=.nx [x0,x1,.ref d,y3,y4] S'/\l_ S' d=some (iv<|rQ D l)/\Kp (·=d) S1 S') ⟨⟨_,_,rfl⟩,hd,Kp.refl⟩ (λi τ T h=>h.2.2.lst _ _ (c9 nd) hn) ?_ ?_
 ·rintro i z τ T f ⟨⟨y3,y4,rfl⟩,c,kp⟩;unfold pl at f;rw[aX]at f;obtain⟨p,g,rfl⟩:=bg.mp f;refine⟨[x0,x1,.ref d,.int p.1,.int p.2],T,rfl,.inl ?_⟩;have e:=oG (l.take i) D;have hi:=(aN.mp g).1;rw[bE]at e;refine⟨_,_,acc_step c<|by omega,⟨_,_,rfl⟩,?_,kp.GP<|.inl rfl⟩;rw[Pd<|XX c,dM,g,Cw];rfl
 ·rintro τ T ⟨⟨y3,y4,rfl⟩,c,kp⟩;rw[zk,dU]at c;exact⟨y3,y4,T,rfl,c,kp⟩
meta abbrev VN:Sm:=kL (j7 mF (F4 wX (jS 2)<|jR (j7 mF (jS 3)<|jS 5)<|jR (eC<|.int 0)<|j6)<|j7 GY (jS 4)<|jS 6)<|G_ (jS 2)<|j7 mF (jS 3)<|jS 5
meta abbrev g56:Tg:=Ac 2<|qW (kR 5)<|qW (kR 6) Af
def RJ{S:jV}{d:Nat}{D:Pl}{k v j u:Int}(hd:l_ S d=some (iv D))(hl:D.length<16777216)(hv:v.natAbs<big)(hu:u.natAbs<big):VN [x0,x1,.ref d,.int k,.int v,.int j,.int u] S=.nx [x0,x1,.ref d,.int k,.int v,.int j,.int u] (S.set d<|.pZ<|iv<|acc D (k+j)<|v * u):=by
 unfold VN;dsimp[kG,bools,Mw,Ow,hd,dz,G3,RN,adB hv hu,KR,HS,zT<|show(iv D).length<16777216 by rw[Pq];exact hl,JH];rfl
def VZ{d n:Nat}{D l:Pl}{k v:Int}(hn:jU S n=some (pl l))(hd:l_ S d=some (iv D))(hl:D.length+l.length<16777216)(hv:v.natAbs<big)(hu:∀p∈l,p.2.natAbs<big) :
  ∃y5 y6 S',lN (pI<|jS 1) g56 VN [x0,.ref n,.ref d,.int k,.int v,x5,x6] S=.nx [x0,.ref n,.ref d,.int k,.int v,y5,y6] S'/\l_ S' d=some (iv<|rQ D<|l.map λq=>(k+q.1,v * q.2))/\Kp (·=d) S S':=by
 have nd:=J8 hd hn;refine uX (n:=n) (xs:=pl l) (S1:=S) (qD (by dsimp[kG,bools]) hn) (λi τ T=>(∃y5 y6,τ=[x0,.ref n,.ref d,.int k,.int v,y5,y6])/\l_ T d=some (iv<|rQ D<|(l.take i).map λq=>(k+q.1,v * q.2))/\Kp (·=d) S T)
  (λr=>∃y5 y6 S',r=.nx [x0,.ref n,.ref d,.int k,.int v,y5,y6] S'/\l_ S' d=some (iv<|rQ D<|l.map λq=>(k+q.1,v * q.2))/\Kp (·=d) S S') ⟨⟨_,_,rfl⟩,hd,Kp.refl⟩ (λi τ T h=>h.2.2.lst _ _ (c9 nd) hn) ?_ ?_
 ·rintro i z τ T g ⟨⟨y5,y6,rfl⟩,c,kp⟩;unfold pl at g;rw[aX]at g;obtain⟨p,f,rfl⟩:=bg.mp g;refine⟨[x0,.ref n,.ref d,.int k,.int v,.int p.1,.int p.2],T,rfl,.inl ?_⟩;have e:=oG ((l.take i).map λq=>(k+q.1,v * q.2)) D;have hi:=(aN.mp f).1;rw[aI,bE]at e;refine⟨_,_,RJ c (by omega) hv<|hu p<|aY f,⟨_,_,rfl⟩,?_,kp.GP<|.inl rfl⟩;rw[Pd<|XX c,dM,f,bZ,Cw];rfl
 ·rintro τ T ⟨⟨y5,y6,rfl⟩,c,kp⟩;rw[zk,dU]at c;exact⟨y5,y6,T,rfl,c,kp⟩
meta abbrev TV:Sm:=lN (pI<|jS 1) g56 VN
def A9(f:Int×Int->A)(hf:∀p τ S,R_ (f p) τ S=R_ (pA p) τ S){d n:Nat}{a b:Pl}(hn:jU S n=some (a.map f))(hm:jU S m=some (pl b))(hd:l_ S d=some [])(hl:a.length * b.length<16777216)(ha:∀p∈a,p.2.natAbs<big)(hb:∀p∈b,p.2.natAbs<big) :
  ∃y3 y4 y5 y6 S',lN (pI<|jS 0) R_ TV [.ref n,.ref m,.ref d,x3,x4,x5,x6] S=.nx [.ref n,.ref m,.ref d,y3,y4,y5,y6] S'/\l_ S' d=some (iv<|rQ []<|C5 a b)/\Kp (·=d) S S':=by
 have nd:=J8 hd hn;have G:=J8 hd hm;refine uX (n:=n) (xs:=a.map f) (S1:=S) (qD (by dsimp[kG,bools]) hn) (λi τ T=>(∃y3 y4 y5 y6,τ=[.ref n,.ref m,.ref d,y3,y4,y5,y6])/\l_ T d=some (iv<|rQ []<|C5 (a.take i) b)/\Kp (·=d) S T)
  (λr=>∃y3 y4 y5 y6 S',r=.nx [.ref n,.ref m,.ref d,y3,y4,y5,y6] S'/\l_ S' d=some (iv<|rQ []<|C5 a b)/\Kp (·=d) S S') ⟨⟨_,_,_,_,rfl⟩,hd,Kp.refl⟩ (λi τ T h=>h.2.2.lst _ _ (c9 nd) hn) ?_ ?_
 ·rintro i z τ T C ⟨⟨y3,y4,y5,y6,rfl⟩,g,kp⟩;rw[aX]at C;obtain⟨p,j,rfl⟩:=bg.mp C;refine⟨[.ref n,.ref m,.ref d,.int p.1,.int p.2,y5,y6],T,hf _ _ _,.inl ?_⟩;have c:=oG (C5 (a.take i) b) [];have hi:=(aN.mp j).1;rw[yJ,bE,f_<|jH hi,bX,cF]at c;have F:i * b.length+b.length<=a.length * b.length:=by rw[<- fC];exact cH _ hi
  obtain⟨J,L,K,e,q,B⟩:=VZ (x0:=.ref n) (x5:=y5) (x6:=y6) (k:=p.1) (v:=p.2) (kp.lst _ _ (c9 G) hm) g () (ha p<|aY j) hb;refine⟨_,_,e,⟨_,_,_,_,rfl⟩,?_,kp.trans B⟩;rw[q,dM,j,Option.toList_some,QC,Cw]
 ·rintro τ T ⟨⟨y3,y4,y5,y6,rfl⟩,g,kp⟩;rw[aI,dU]at g;exact⟨y3,y4,y5,y6,T,rfl,g,kp⟩
def Ni{d n:Nat}{a b:Pl}(hn:jU S n=some (pl a))(hm:jU S m=some (pl b))(hd:l_ S d=some [])(hl:a.length * b.length<16777216)(ha:∀p∈a,p.2.natAbs<big)(hb:∀p∈b,p.2.natAbs<big) :
  ∃y3 y4 y5 y6 S',lN (pI<|jS 0) R_ TV [.ref n,.ref m,.ref d,x3,x4,x5,x6] S=.nx [.ref n,.ref m,.ref d,y3,y4,y5,y6] S'/\l_ S' d=some (iv<|rQ []<|C5 a b)/\Kp (·=d) S S':=A9 pA (λ_ _ _=>rfl) hn hm hd hl ha hb
meta abbrev aeh:Ex:=nc [none,some 0] (pI<|kZ (f1 zp)<|jR (jS 0)<|j6) (kR 0) (vX<|j7 (yS true) (j7 zO (jS 1)<|jS 0)<|eC<|.int 0)<|qM<|jR (jS 0)<|jR (j7 zO (jS 1)<|jS 0)<|j6
def T6{S:jV}{d:Nat}{D:Pl}(hd:l_ S d=some (iv D))(hl:D.length<=16777216):∃S',aeh [.ref d] S=.ok (.ref<|S.length+1) S'/\jU S' (S.length+1)=some (pl<|IE D)/\lY S S':=by
 have f:l_ (S++[.lst<|(sortI<|D.map Prod.fst).map .int]) d=some (iv D):=Ud hd;have j:(S++[O.lst<|(sortI<|D.map Prod.fst).map A.int]).length=S.length+1:=by simp
 have m:=Nm (n:=S.length) (xs:=(sortI<|D.map Prod.fst).map A.int) (cap:=[some 0]) (src:=pI<|kZ (f1 zp)<|jR (jS 0)<|j6) (t:=vX<|j7 (yS true) (j7 zO (jS 1)<|jS 0)<|eC<|.int 0) (e:=qM<|jR (jS 0)<|jR (j7 zO (jS 1)<|jS 0)<|j6) (τ:=[.ref d]) (S:=S) (S1:=S++[.lst<|(sortI<|D.map Prod.fst).map .int])
  (qD (by dsimp[kG,bools,ND,hd,Wm]) kh) kh (λx=>match x with | .int k=>val D k != 0|_=>false) (λx=>match x with | .int k=>pA (k,val D k)|_=>.non) (λx g=>by
   obtain⟨k,c,rfl⟩:=bI.mp g;have c:=(sortI_perm _).mem_iff.mp c;dsimp[kG,bools,MC,f,HY c];rfl) (λx g _=>by
   obtain⟨k,c,rfl⟩:=bI.mp g;have c:=(sortI_perm _).mem_iff.mp c;dsimp[kG,bools,MC,f,HY c];exact Ct<|show 2<=16777216 by decide) (by rw[aI,(sortI_perm _).length_eq,aI];exact hl)
 refine⟨_,m.trans<|by rw[j],?_,Kp.refl.lay.lay⟩;rw[<- j,kh];congr 1;unfold pl IE;rw[bK,jd,bK];rfl
end Am
namespace Su
open Am Po PySem L2
meta abbrev En:=ag×Nat×Pl
meta abbrev Es:=List En
abbrev ent (e:En):A:=.tup [.tup<|e.1.map .int,.ref e.2.1]
abbrev kv (e:En):ag×A:=(e.1,.ref e.2.1)
abbrev At (S:jV)(es:Es):Prop:=∀e∈es,jU S e.2.1=some (pl e.2.2)
meta abbrev Ps:=List<|ag×Pl
abbrev sm (es:Es):Ps:=es.map λe=>(e.1,e.2.2)
def zy(es:Es):(sm es).length=es.length:=aI ..
def SN(a b:Es):sm (a++b)=sm a++sm b:=bZ
abbrev vS (D:Ps)(o:ag):Pl:=((D.find? λe=>decide<|e.1=o).map (·.2)).getD []
abbrev hS (D:Ps)(o:ag):Bool:=D.any λe=>decide<|e.1=o
abbrev BJ (D:Ps)(o:ag)(p:Pl):Ps:=if hS D o=true then D.map (λe=>if e.1=o then(e.1,p)else e)else D++[(o,p)]
abbrev Ao (D:Ps)(o:ag)(p:Pl):Ps:=BJ D o<|pG (vS D o) p
abbrev adds (D l:Ps):Ps:=l.foldl (λD e=>Ao D e.1 e.2) D
def GK(D a b:Ps):adds D (a++b)=adds (adds D a) b:=by unfold adds;rw[cR]
abbrev toS (D:Ps):Ps:=((m7<|D.map Prod.fst).filter λo=>!(vS D o).isEmpty).map λo=>(o,vS D o)
abbrev fE (D:Es)(o:ag):Option En:=D.find? λe=>decide<|e.1=o
abbrev r_ (D:Es)(o:ag)(r:Nat)(p:Pl):Es:=if (fE D o).isSome=true then D.map (λe=>if e.1=o then(e.1,r,p)else e)else D++[(o,r,p)]
def WB(D:Es)(o:ag):(sm D).find? (λe=>decide<|e.1=o)=(fE D o).map λe=>(e.1,e.2.2):=by
 unfold sm fE;rw[jv];rfl
def QT(D:Es)(o:ag):vS (sm D) o=((fE D o).map λe=>e.2.2).getD []:=by
 unfold vS;rw[WB,iG];rfl
def aed(D:Es)(o:ag):hS (sm D) o=(fE D o).isSome:=by
 unfold hS sm fE;rw[List.any_map,Bool.eq_iff_iff,jB,gE];rfl
def Se(D:Es)(o:ag)(r:Nat)(p:Pl):sm (r_ D o r p)=BJ (sm D) o p:=by
 unfold r_ BJ;rw[aed];unfold sm;split
 ·rw[bK,bK];apply dj;intro e _;show((if e.1=o then(e.1,r,p)else e).1,(if e.1=o then(e.1,r,p)else e).2.2)=if e.1=o then(e.1,p)else(e.1,e.2.2)
  split<;>rfl
 ·rw[bZ];rfl
def wM(D:Es)(o:ag):mC (D.map kv) o=(fE D o).map λe=>.ref e.2.1:=by
 unfold mC fE;rw[jv,iG];rfl
def R0(D:Es)(o:ag)(r:Nat)(p:Pl):putD (D.map kv) o (.ref r)=(r_ D o r p).map kv:=by
 unfold putD r_;rw[wM,iy];split
 ·rw[bK,bK];apply dj;intro e _;show(if e.1=o then(e.1,A.ref r)else(e.1,.ref e.2.1))=kv (if e.1=o then(e.1,r,p)else e);split<;>rfl
 ·rw[bZ];rfl
def wQ{D:Es}{r:Nat}{p:Pl}{e:En}(h:e∈r_ D o r p):e∈D\/e=(o,r,p):=by
 unfold r_ at h;split at h
 ·obtain⟨d,h1,rfl⟩:=bI.mp h;split
  ·rename_i c;exact .inr (by rw[c])
  ·exact .inl h1
 ·rcases bG.mp h with z|z
  ·exact .inl z
  ·exact .inr<|aS.mp z
def K2{D:Es}{r:Nat}{p:Pl}:(r_ D o r p).length<=D.length+1:=by
 unfold r_;split
 ·rw[aI];lia
 ·rw[aV];exact aP _
def vA{D:Es}{e:En}(h:fE D o=some e):e∈D/\e.1=o:=⟨gH h,by
 unfold fE at h;have:=je h;simpa using this⟩
def At.put{D:Es}{r:Nat}{p:Pl}(h:At S D)(hr:jU S r=some (pl p)):At S (r_ D o r p):=λe c=>by
 rcases wQ c with z|z
 ·exact h e z
 ·rw[z];exact hr
def At.kp{D:Es}{b:Nat->Prop}(h:At S D)(k:Kp b S S')(hb:∀e∈D,¬b e.2.1):At S' D:=λe c=>k.lst _ _ (hb e c)<|h e c
def At.CF{D:Es}(h:At S D)(k:lY S S'):At S' D:=h.kp k λ_ _ z=>z
def At.app{a:Es}(h:At S a)(h':At S b):At S (a++b):=λe c=>(bG.mp c).elim (h e)<|h' e
def rW{n:Nat}{d:List<|ag×A}(h:kK S n=some d)(h':jU S m=some xs):n≠m:=λz=>by
 subst z;have e1:=pT h;rw[kg h']at e1
 cases e1
def At.Mq{D:Es}{d:Nat}(h:At S D)(k:Kp (·=d) S S')(hd:kK S d=some kvs):At S' D:=h.kp k λe c z=>rW hd (h e c) z.symm
abbrev Vl (k b:Nat)(D:Es):Prop:=∀e∈D,Ok e.2.2/\e.2.2.length<=k/\b<=e.2.1
def Vl.mono{k:Nat}{D:Es}(h:Vl k b D)(hk:k<=k'):Vl k' b D:=λe c=>⟨(h e c).1,bH (h e c).2.1 hk,(h e c).2.2⟩
def Vl.v{k:Nat}{D:Es}(h:Vl k b D)(o:ag):Ok (vS (sm D) o)/\(vS (sm D) o).length<=k:=by
 rw[QT]
 cases e:fE D o with
 | none=>exact⟨⟨List.Pairwise.nil,nofun⟩,bY _⟩
 | some c=>exact⟨(h c (vA e).1).1,(h c (vA e).1).2.1⟩
def Nh(a b:Pl):(pG a b).length<=a.length+b.length:=by
 refine bH (Eh _)<|bH (oG _ _) ?_;rw[aV,bX];lia
def wJ(a b:Pl):(times a b).length<=a.length * b.length:=by
 refine bH (Eh _)<|bH (oG _ _) ?_;rw[yJ,bX];lia
def Vl.add{k r:Nat}{D:Es}{p:Pl}(h:Vl k b D)(hp:p.length<=j)(hr:b<=r):Vl (k+j) b (r_ D o r<|pG (vS (sm D) o) p):=λe c=>by
 rcases wQ c with z|z
 ·exact(h.mono<|Nat.le_add_right _ _) e z
 ·rw[z];refine⟨yC _ _,?_,hr⟩;have:=Nh (vS (sm D) o) p;have:=(h.v o).2;show(pG (vS (sm D) o) p).length<=_
  lia
def qV{S:jV}:kK (S++[.dct xs]) S.length=some xs:=yw Ja
def E8{o:O}{n:Nat}(h:kK S n=some xs):kK (S++[o]) n=some xs:=by
 have h':=pT h;exact yw<|by rw[bF (aN.mp h').1];exact h'
def IZ{S:jV}{n:Nat}(h:kK S n=some xs):n<S.length:=(aN.mp<|pT h).1
def KQ{S:jV}{n:Nat}(h:n<S.length):kK (S.set n<|.dct ys) n=some ys:=yw<|bJ h
def KS{f:A->ae->jV->R A}{co:Ex}{d:tH}:Rw f co d τ S=(co τ S).bind λx S1=>opt (dct? x S1) λ_=>(d τ S1).bind λas S2=>f x as S2:=rfl
def L8{n:Nat}:dct? (.ref n) S=(kK S n).map λ_=>Unit.unit:=rfl
def yG{S:jV}:Cj τ S=.ok (.ref S.length) (S++[.dct []]):=rfl
def EE{co ci:Ex}{a:A}:T7 co ci a τ S=(co τ S).bind λo S1=>(ci τ S1).bind λi S2=>(Gz o i a S2).bind λ_ S3=>.ok τ S3:=rfl
def ER{n:Nat}{o:ag}:Rg (.ref n) [.tup<|o.map .int,y] S=opt (kK S n) λkvs=>.ok ((mC kvs o).getD y) S:=by
 show opt (kK S n) (λkvs=>opt (A.ints<|o.map .int) λk=>.ok ((mC kvs k).getD y) S)=_;rw[ints_map];rfl
def Hh{n:Nat}{o:ag}{v:A}{S:jV}:Gz (.ref n) (.tup<|o.map .int) v S=opt (kK S n) λkvs=>gd (kvs.length<sizeLine) (.ok Unit.unit<|S.set n<|.dct<|putD kvs o v):=by
 show opt (kK S n) (λkvs=>opt (A.ints<|o.map .int) λc=>gd (kvs.length<sizeLine)<|.ok Unit.unit<|S.set n<|.dct<|putD kvs c v)=_;rw[ints_map];rfl
def AA{n:Nat}{o:ag}:CW (.ref n) (.tup<|o.map .int) S=opt (kK S n) λkvs=>opt (mC kvs o) λv=>.ok v S:=by
 show opt (kK S n) (λkvs=>opt (A.ints<|o.map .int) λc=>opt (mC kvs c) λv=>.ok v S)=_;rw[ints_map];rfl
def get_or{S:jV}{d:Nat}{D:Es}(hd:kK S d=some (D.map kv))(hA:At S D):∃x:Nat,(mC (D.map kv) o).getD (.ref S.length)=.ref x/\jU (S++[.lst []]) x=some (pl<|vS (sm D) o):=by
 rw[wM,QT]
 cases e:fE D o with
 | none=>exact⟨S.length,rfl,kh⟩
 | some c=>exact⟨c.2.1,rfl,lg<|hA c (vA e).1⟩
def V3{α:Type}{xs:List α}(g:α->A){n:Nat}{src:Ic}{t:Te}{e:Ex}(hs:src τ S=.ok (om n (xs.map g).length) S1)(hx:jU S1 n=some (xs.map g))(d:α)(p:α->Bool)(f:α->A)
  (step:∀x∈xs,∀T,lY S1 T->∃T1,t (g x::ni cap τ) T=.ok (p x) T1/\lY S1 T1/\(p x=true->∃T2,e (g x::ni cap τ) T1=.ok (f x) T2/\lY S1 T2)) (hl:xs.length<=16777216) :
  ∃S',nc (none::cap) src (kR 0) t e τ S=.ok (.ref S'.length) (S'++[.lst<|(xs.filter p).map f])/\lY S1 S':=by
 have j:∀i,i<xs.length->xs.getD i d∈xs:=λi hi=>by
  rw[aL,aH hi];exact eg hi
 have k:(xs.map g).length=xs.length:=aI ..;obtain⟨S',h1,h2⟩:=ye (s:=om n (xs.map g).length) (g:=kR 0) (t:=t) (e:=e) (P:=λT=>lY S1 T) (T:=λc=>∃y,c=y::ni cap τ) (λi=>g<|xs.getD i d) (λi=>p<|xs.getD i d) (λi=>f<|xs.getD i d) (λi T hi h=>by
   have hi:i<(xs.map g).length:=hi;show(jU T n).bind _=_;rw[h.lst _ _ (λz=>z) hx,fX,aX,aH (),aL,aH ()];rfl) (λT h=>by
   show(match jU T n with
    | some ys=>decide (ys.length<=(xs.map g).length)
    | none=>false)=true
   rw[h.lst _ _ (λz=>z) hx];simp)
  (λi c T hi ⟨y,q⟩ h=>by
   have hi:i<(xs.map g).length:=hi;subst q;obtain⟨T1,e1,m,e2⟩:=step _ (j i ()) T h;exact⟨g (xs.getD i d)::ni cap τ,T,T1,rfl,e1,⟨_,rfl⟩,λ_=>m,e2⟩) (xs.map g).length 0 (ni (none::cap) τ) S1 rfl ⟨_,rfl⟩ Kp.refl
 refine⟨S',?_,h2⟩;unfold nc;rw[hs,R.nV];show(rX (om n (xs.map g).length) (kR 0) t e (xs.map g).length 0 (ni (none::cap) τ) S1).yz _=_;rw[h1,R.o9,<- gw,k,p8 xs p f d];refine mT ?_;rw[aI];exact bH (gq _ _) hl
def MD{D:Es}{o:ag}(h:o∈D.map Prod.fst):∃e,fE D o=some e:=by
 unfold fE
 cases e:D.find? λe=>decide (e.1=o)with
 | some x=>exact⟨x,rfl⟩
 | none=>
  obtain⟨x,c,rfl⟩:=bI.mp h;exact absurd (aW rfl)<|gU.mp e x c
abbrev CQ (k:ag):A:=.tup<|k.map .int
def OX{S:jV}{d:Nat}{D:Es}(hd:kK S d=some (D.map kv))(hne:∀e∈D,e.1≠[]):Fe (.ref d) S=.ok (.ref S.length) (S++[.lst<|(m7<|D.map Prod.fst).map CQ]):=by
 have c:(D.map kv).map Prod.fst=D.map Prod.fst:=by rw[bK];rfl
 show opt (kK S d) _=_;rw[hd,kD];have:((D.map kv).map Prod.fst).all (λks=>!ks.isEmpty)=true:=by
  rw[c,all_map,jE];intro e f;have:=hne e f;show(!(e.1).isEmpty)=true
  cases h:e.1 with
  | nil=>exact absurd h this
  | cons=>rfl
 rw[c]at this ⊢;rw[this];rfl
abbrev w_ (D:Es)(p:Pl->Bool):Es:=((m7<|D.map Prod.fst).filter λo=>p<|vS (sm D) o).map λo=>(o,((fE D o).map λe=>e.2.1).getD 0,vS (sm D) o)
def A2(D:Es):sm (w_ D λp=>!p.isEmpty)=toS (sm D):=by
 unfold w_ toS sm;rw[bK,bK];rfl
def A0{D:Es}{p:Pl->Bool}{e:En}(h:e∈w_ D p):e∈D/\p e.2.2=true:=by
 obtain⟨o,d,rfl⟩:=bI.mp h;obtain⟨h1,h2⟩:=cD.mp d;obtain⟨e,c⟩:=MD<|(kP _).mem_iff.mp h1;rw[QT,c]at h2;rw[QT,c];obtain⟨m,rfl⟩:=vA c;exact⟨m,h2⟩
def Pa{S:jV}{d:Nat}{D:Es}{src:Ic}{t:Te}{e:Ex}(hd:kK S d=some (D.map kv))(hA:At S D)(hs:src τ S=.ok (om S.length ((m7<|D.map Prod.fst).map CQ).length) (S++[.lst<|(m7<|D.map Prod.fst).map CQ]))(p:Pl->Bool)
  (ht:∀(o:ag) (r:Nat) (q:Pl) (T:jV),kK T d=some (D.map kv)->mC (D.map kv) o=some (.ref r)->jU T r=some (pl q)->∃T1,t (CQ o::ni cap τ) T=.ok (p q) T1/\lY T T1)
  (he:∀(o:ag) (r:Nat) (T:jV),kK T d=some (D.map kv)->mC (D.map kv) o=some (.ref r)->e (CQ o::ni cap τ) T=.ok (.tup [CQ o,.ref r]) T) (hl:D.length<=16777216) :
  ∃(n:Nat) (S':jV),nc (none::cap) src (kR 0) t e τ S=.ok (.ref n) S'/\jU S' n=some ((w_ D p).map ent)/\At S' (w_ D p)/\S.length<n/\lY S S':=by
 have B:lY S (S++[.lst<|(m7<|D.map Prod.fst).map CQ]):=Kp.refl.lay;obtain⟨S',e1,m⟩:=V3 CQ (t:=t) (e:=e) (cap:=cap) hs kh [] (λo=>p<|vS (sm D) o) (λo=>ent (o,((fE D o).map λe=>e.2.1).getD 0,vS (sm D) o)) (λo F T j=>by
  obtain⟨f,c⟩:=MD<|(kP _).mem_iff.mp F;have k:mC (D.map kv) o=some (.ref f.2.1):=by rw[wM,c];rfl
  have g:=B.trans j;have dT:=g.dct _ _ (λz=>z) hd;have G:=g.lst _ _ (λz=>z)<|hA f (vA c).1;obtain⟨T1,h1,h2⟩:=ht o f.2.1 f.2.2 T dT k G;rw[QT,c];exact⟨T1,h1,j.trans h2,λ_=>⟨T1,he o f.2.1 T1 (h2.dct _ _ (λz=>z) dT) k,j.trans h2⟩⟩) (by
  rw[(kP _).length_eq,aI];exact hl)
 have C:=B.trans m;refine⟨S'.length,_,e1,?_,(?_:At S'<|w_ D p).CF Kp.refl.lay,?_,C.lay⟩
 ·rw[kh];unfold w_;rw[bK];rfl
 ·exact λe h=>C.lst _ _ (λz=>z) (hA e (A0 h).1)
 ·have:=m.len;rw[aV]at this;exact this
abbrev E2 (F:ae->jV->R A):Prop:=∀{S:jV}{d r:Nat}{D:Es}{o:ag}{p:Pl}{k b:Nat},kK S d=some (D.map kv)->At S D->Vl k b D->jU S r=some (pl p)->D.length<16777216->k+p.length<16777216 ->
  ∃(L:Nat) (c:jV),F [.ref d,.tup<|o.map .int,.ref r] S=.ok .non c/\kK c d=some ((r_ D o L<|pG (vS (sm D) o) p).map kv)/\At c (r_ D o L<|pG (vS (sm D) o) p)/\S.length<=L/\Kp (·=d) S c
abbrev NB (F:ae->jV->R A):Prop:=∀{S:jV}{n m:Nat}{a b:Pl},jU S n=some (pl a)->jU S m=some (pl b)->a.length * b.length<16777216->(∀p∈a,p.2.natAbs<big)->(∀p∈b,p.2.natAbs<big) ->
  ∃(L:Nat) (c:jV),F [.ref n,.ref m] S=.ok (.ref L) c/\jU c L=some (pl<|times a b)/\S.length<=L/\lY S c
abbrev Ap (D:Es):Prop:=D.Pairwise λe f=>e.1≠f.1/\e.2.1≠f.2.1
def Ap.put{D:Es}{r:Nat}{p:Pl}(h:Ap D)(hr:∀e∈D,e.2.1≠r):Ap (r_ D o r p):=by
 unfold r_;split
 ·unfold Ap;rw[cO];refine gR (λ{e f} d hf z=>?_) h;by_cases c1:e.1=o
  ·have c2:¬f.1=o:=λg=>z.1<|c1.trans g.symm;rw[aM c1,aJ c2];exact⟨z.1,λy=>hr f hf y.symm⟩
  ·rw[aJ c1];by_cases c2:f.1=o
   ·rw[aM c2];exact⟨z.1,hr e d⟩
   ·rw[aJ c2];exact z
 ·rename_i c;unfold Ap;rw[cG];refine⟨h,cg _ _,λe d f hf=>?_⟩;rw[aS.mp hf];refine⟨λz=>c ?_,hr e d⟩;unfold fE;rw[jB];exact⟨e,d,aW z⟩
theorem Ap.at{D:Es}(h:Ap D):∀e∈D,∀f∈D,e.1≠f.1->e.2.1≠f.2.1:=by
 unfold Ap at h
 induction h with
 | nil=>exact λe c=>nomatch c
 | @cons a D d _ g=>
  intro e c f hf z
  rcases bB.mp c with h1|h1<;>rcases bB.mp hf with h2|h2
  ·exact absurd (by rw[h1,h2]) z
  ·rw[h1];exact(d f h2).2
  ·rw[h2];exact(d e h1).2.symm
  ·exact g e h1 f h2 z
def Ap.nd{D:Es}(h:Ap D):(D.map Prod.fst).Nodup:=by
 unfold List.Nodup;rw[cO];exact h.imp λz=>z.1
def Ap.out{D:Es}(h:Ap D)(p:Pl->Bool):Ap (w_ D p):=by
 unfold Ap w_;rw[cO];have n:(m7<|D.map Prod.fst).Pairwise (·≠·):=(kP _).nodup_iff.mpr h.nd;refine gR (λ{a b} ha hb z=>?_)<|n.filter _;obtain⟨e,c⟩:=MD<|(kP _).mem_iff.mp (cD.mp ha).1;obtain⟨f,hf⟩:=MD<|(kP _).mem_iff.mp (cD.mp hb).1;obtain⟨g,e1⟩:=vA c;obtain⟨d,e2⟩:=vA hf;refine⟨z,?_⟩;rw[c,hf];exact h.at e g f d<|by rw[e1,e2];exact z
structure Fil (T:jV)(d b i j:Nat)(P:Ps)(D:Es):Prop where
 dd:kK T d=some (D.map kv)
 aa:At T D
 ss:sm D=P
 vv:Vl (i * j) b D
 kk:∀e∈D,e.1≠[]
 ll:D.length<=i
 pw:Ap D
def Fil.mono{d:Nat}{P:Ps}{D:Es}(h:Fil T d b i j P D)(hi:i<=i'):Fil T d b i' j P D:=⟨h.dd,h.aa,h.ss,h.vv.mono<|cH _ hi,h.kk,bH h.ll hi,h.pw⟩
def Fil.new{d:Nat}(hd:kK S d=some []):Fil S d b 0 j [] []:=⟨hd,(nofun),rfl,(nofun),(nofun),aP _,List.Pairwise.nil⟩
def Fil.CF{d:Nat}{P:Ps}{D:Es}(h:Fil S d b i j P D)(k:lY S T):Fil T d b i j P D:=⟨k.dct _ _ (λz=>z) h.dd,h.aa.CF k,h.ss,h.vv,h.kk,h.ll,h.pw⟩
def Fil.add{F:ae->jV->R A}(hF:E2 F){T:jV}{d r:Nat}{P:Ps}{D:Es}{o:ag}{p:Pl}(h:Fil T d b i j P D)(hr:jU T r=some (pl p))(hp:p.length<=j)(ho:o≠[])(hb:b<=T.length)(hl:i * j+j<16777216)(hi:i<16777216) :
  ∃(D':Es) (T':jV),F [.ref d,.tup<|o.map .int,.ref r] T=.ok .non T'/\Fil T' d b (i+1) j (Ao P o p) D'/\Kp (·=d) T T':=by
 have f:=h.ll;obtain⟨L,T',e,h1,h2,h3,g⟩:=hF (o:=o) h.dd h.aa h.vv hr () ();refine⟨_,T',e,⟨h1,h2,by rw[Se,h.ss];rfl,?_,λe c=>?_,?_,h.pw.put λe c z=>by have:=p6<|h.aa e c;lia⟩,g⟩
 ·have:=h.vv.add (o:=o) (p:=p) (j:=j) hp (show b<=L by lia);rw[fC];exact this
 ·rcases wQ c with z|z
  ·exact h.kk e z
  ·rw[z];exact ho
 ·have:=K2 (D:=D) (o:=o) (r:=L) (p:=pG (vS (sm D) o) p)
  lia
def US{d n w:Nat}{P:Ps}{es:Es}{src:Ic}{c:Sm}(G:En->Ps->Ps)(hs:src (x0::x1::.ref d::x3::x4::xs) S=.ok (om n (es.map ent).length) S1)(hn:jU S1 n=some (es.map ent))(hd:Fil S1 d b i0 j P D0)
  (step:∀(i:Nat) (e:En) (T:jV) (Q:Ps) (D:Es),i<es.length->e∈es->Kp (·=d) S1 T->Fil T d b (i0+w * i) j Q D->∃(D':Es) (T':jV),c (x0::x1::.ref d::.tup (e.1.map .int)::.ref e.2.1::xs) T=.nx (x0::x1::.ref d::.tup (e.1.map .int)::.ref e.2.1::xs) T'/\Fil T' d b (i0+w * (i+1)) j (G e Q) D'/\Kp (·=d) T T') :
  ∃(y3 y4:A) (D:Es) (S':jV),lN src R_ c (x0::x1::.ref d::x3::x4::xs) S=.nx (x0::x1::.ref d::y3::y4::xs) S'/\Fil S' d b (i0+w * es.length) j (es.foldl (λQ e=>G e Q) P) D/\Kp (·=d) S1 S':=by
 have k:(es.map ent).length=es.length:=aI ..;refine uX (n:=n) (xs:=es.map ent) (S1:=S1) hs (λi τ T=>(∃y3 y4,τ=x0::x1::.ref d::y3::y4::xs)/\(∃D,Fil T d b (i0+w * i) j ((es.take i).foldl (λQ e=>G e Q) P) D)/\Kp (·=d) S1 T)
  (λr=>∃(y3 y4:A) (D:Es) (S':jV),r=.nx (x0::x1::.ref d::y3::y4::xs) S'/\Fil S' d b (i0+w * es.length) j (es.foldl (λQ e=>G e Q) P) D/\Kp (·=d) S1 S') ⟨⟨_,_,rfl⟩,⟨D0,hd⟩,Kp.refl⟩ (λi τ T h=>h.2.2.lst _ _ (c9<|rW hd.dd hn) hn) ?_ ?_
 ·rintro i z τ T m ⟨⟨y3,y4,rfl⟩,⟨D,f⟩,kp⟩;rw[aX]at m;obtain⟨e,g,rfl⟩:=bg.mp m;refine⟨x0::x1::.ref d::.tup (e.1.map .int)::.ref e.2.1::xs,T,rfl,.inl ?_⟩;obtain⟨D',T',e1,p,q⟩:=step i e T _ D (aN.mp g).1 (aY g) kp f;refine⟨_,T',e1,⟨_,_,rfl⟩,⟨D',?_⟩,kp.trans q⟩;rw[dM,g,cR];exact p
 ·rintro τ T ⟨⟨y3,y4,rfl⟩,⟨D,f⟩,kp⟩;rw[k,dU]at f;exact⟨y3,y4,D,T,rfl,f,kp⟩
def Nq(P:Ps)(es:Es):es.foldl (λQ e=>Ao Q e.1 e.2.2) P=adds P (sm es):=by
 unfold adds sm;rw[jO]
def DL(q:Pl)(P:Ps)(es:Es):es.foldl (λQ e=>Ao Q e.1<|times q e.2.2) P=adds P ((sm es).map λe=>(e.1,times q e.2)):=by
 unfold adds sm;rw[jO,jO]
def WV{F:ae->jV->R A}(hF:E2 F){S1:jV}{d n:Nat}{P:Ps}{es:Es}{src:Ic}(hs:src (x0::x1::.ref d::x3::x4::xs) S=.ok (om n (es.map ent).length) S1)(hn:jU S1 n=some (es.map ent))(hA:At S1 es)(hd:Fil S1 d b i0 j P D0)(hb:b<=S1.length)
  (hj:∀e∈es,e.2.2.length<=j/\e.1≠[]) (hl:(i0+es.length) * j+j<16777216) (hl':i0+es.length<16777216) :
  ∃(y3 y4:A) (D:Es) (S':jV),lN src R_ (pX<|eFn F<|jR (jS 2)<|jR (jS 3)<|jR (jS 4) j6) (x0::x1::.ref d::x3::x4::xs) S=.nx (x0::x1::.ref d::y3::y4::xs) S'/\Fil S' d b (i0+es.length) j (adds P<|sm es) D/\Kp (·=d) S1 S':=by
 have:=US (w:=1) (c:=pX<|eFn F<|jR (jS 2)<|jR (jS 3)<|jR (jS 4) j6) (λe Q=>Ao Q e.1 e.2.2) hs hn hd λi e T Q D hi g kp f=>by
  have m:=kp.len;rw[fH]at f ⊢;have k:(i0+i) * j<=(i0+es.length) * j:=cH _ ();obtain⟨B,p,e1,C,q⟩:=f.add hF (o:=e.1) ((hA.Mq kp hd.dd) e g) (hj e g).1 (hj e g).2 () () ();exact⟨B,p,by dsimp[kG,bools,e1],C,q⟩
 rw[fH,Nq]at this;exact this
def Bo{d n w:Nat}{P:Ps}{es:Es}{src:Ic}{c:Sm}{g:Tg}(Fm:A->A->ae->ae)(Z:ae->Prop)(G:En->Ps->Ps)(hg:∀(e:En) (y z:A) (xs:ae) (T:jV),g (ent e) (Fm y z xs) T=.ok (Fm (.tup<|e.1.map .int) (.ref e.2.1) xs) T)
  {x3 x4:A} {xs0:ae} (hz:Z xs0) (hs:src (Fm x3 x4 xs0) S=.ok (om n (es.map ent).length) S1) (hn:jU S1 n=some (es.map ent)) (hd:Fil S1 d b i0 j P D0)
  (step:∀(i:Nat) (e:En) (T:jV) (Q:Ps) (D:Es) (xs:ae),i<es.length->e∈es->Z xs->Kp (·=d) S1 T->Fil T d b (i0+w * i) j Q D->∃(D':Es) (T':jV) (xs':ae),Z xs'/\c (Fm (.tup<|e.1.map .int) (.ref e.2.1) xs) T=.nx (Fm (.tup<|e.1.map .int) (.ref e.2.1) xs') T'/\Fil T' d b (i0+w * (i+1)) j (G e Q) D'/\Kp (·=d) T T') :
  ∃(y3 y4:A) (xs:ae) (D:Es) (S':jV),Z xs/\lN src g c (Fm x3 x4 xs0) S=.nx (Fm y3 y4 xs) S'/\Fil S' d b (i0+w * es.length) j (es.foldl (λQ e=>G e Q) P) D/\Kp (·=d) S1 S':=by
 have q:(es.map ent).length=es.length:=aI ..;refine uX (n:=n) (xs:=es.map ent) (S1:=S1) hs (λi τ T=>(∃y3 y4 xs,τ=Fm y3 y4 xs/\Z xs)/\(∃D,Fil T d b (i0+w * i) j ((es.take i).foldl (λQ e=>G e Q) P) D)/\Kp (·=d) S1 T)
  (λr=>∃(y3 y4:A) (xs:ae) (D:Es) (S':jV),Z xs/\r=.nx (Fm y3 y4 xs) S'/\Fil S' d b (i0+w * es.length) j (es.foldl (λQ e=>G e Q) P) D/\Kp (·=d) S1 S') ⟨⟨_,_,_,rfl,hz⟩,⟨D0,hd⟩,Kp.refl⟩ (λi τ T h=>h.2.2.lst _ _ (c9<|rW hd.dd hn) hn) ?_ ?_
 ·rintro i z τ T hz ⟨⟨y3,y4,xs,rfl,p⟩,⟨D,f⟩,kp⟩;rw[aX]at hz;obtain⟨e,k,rfl⟩:=bg.mp hz;refine⟨Fm (.tup<|e.1.map .int) (.ref e.2.1) xs,T,hg _ _ _ _ _,.inl ?_⟩;obtain⟨D',T',xs',m,e1,B,C⟩:=step i e T _ D xs (aN.mp k).1 (aY k) p kp f;refine⟨_,T',e1,⟨_,_,_,rfl,m⟩,⟨D',?_⟩,kp.trans C⟩;rw[dM,k,cR];exact B
 ·rintro τ T ⟨⟨y3,y4,xs,rfl,p⟩,⟨D,f⟩,kp⟩;rw[q,dU]at f;exact⟨y3,y4,xs,D,T,p,rfl,f,kp⟩
end Su
namespace Bl
open L2
abbrev cnt:ag->Int->Int
 | [],_=>0
 | x::l,j=>(if j<=x then 1 else 0)+cnt l j
abbrev Below (xs ys:ag):Prop:=∀(i:Nat) (j:Int),cnt (xs.take i) j<=cnt (ys.take i) j
def Below.refl(xs:ag):Below xs xs:=λ_ _=>h_ _
def Below.trans{a c:ag}(h:Below a b)(k:Below b c):Below a c:=λi j=>Int.le_trans (h i j)<|k i j
def cnt_append(a b:ag)(j:Int):cnt (a++b) j=cnt a j+cnt b j:=by
 induction a with
 | nil=>simp[cnt]
 | cons x a c=>rw[gF,cnt,cnt,c];lia
def F9{a:ag}(p:a.Perm b)(j:Int):cnt a j=cnt b j:=by
 induction p with
 | nil=>rfl
 | cons x _ c=>rw[cnt,cnt,c]
 | swap x y l=>rw[cnt,cnt,cnt,cnt];lia
 | trans _ _ h1 h2=>exact h1.trans h2
def take_snoc{l:ag}{i:Nat}(h:i<l.length):l.take (i+1)=l.take i++[l[i]]:=by
 rw[List.take_succ,aH h];rfl
def lQ{l:ag}{i:Nat}(h:i<l.length)(j:Int):cnt (l.take<|i+1) j=cnt (l.take i) j+(if j<=l[i]then 1 else 0):=by
 rw[take_snoc h,cnt_append,cnt,cnt];lia
def Below.antisymm{a b:ag}(hl:a.length=b.length)(h:Below a b)(k:Below b a):a=b:=by
 apply iT hl;intro i h1 h2;have e:∀(i:Nat) (j:Int),cnt (a.take i) j=cnt (b.take i) j:=λi j=>ja (h i j)<|k i j;have q:∀j:Int,(if j<=a[i]then(1:Int)else 0)=(if j<=b[i]then 1 else 0):=λj=>by
  have:=e (i+1) j;rw[lQ h1,lQ h2,e i j]at this
  lia
 have c:=q a[i];have d:=q b[i];rw[aM<|h_ _]at c d;by_cases z:a[i]<=b[i]
 ·by_cases f:b[i]<=a[i]
  ·lia
  ·rw[aJ f]at d;lia
 ·rw[aJ z]at c;lia
def AM{l:ag}{p:Nat}(h:p<l.length)(v:Int)(i:Nat)(j:Int) :
  cnt ((l.set p v).take i) j=cnt (l.take i) j+(if p<i then(if j<=v then 1 else 0)-(if j<=l[p]then 1 else 0)else 0):=by
 induction l generalizing p i with
 | nil=>cases h
 | cons x l c=>
  cases i with
  | zero=>simp[cnt]
  | succ i=>
   cases p with
   | zero=>
    show(if j<=v then 1 else 0)+cnt (l.take i) j=(if j<=x then 1 else 0)+cnt (l.take i) j+_;rw[aM<|Nat.succ_pos _];show _=(if j<=x then 1 else 0)+cnt (l.take i) j+((if j<=v then 1 else 0)-(if j<=x then 1 else 0))
    lia
   | succ p=>
    show(if j<=x then 1 else 0)+cnt ((l.set p v).take i) j=(if j<=x then 1 else 0)+cnt (l.take i) j+_;have d:p<l.length:=iH h;rw[c d];by_cases z:p<i
    ·rw[aM z,aM<|Nat.succ_lt_succ z];show _=(if j<=x then 1 else 0)+cnt (l.take i) j+((if j<=v then 1 else 0)-(if j<=l[p]then 1 else 0))
     lia
    ·rw[aJ z,aJ λy=>z<|iH y]
     lia
def v8{l:ag}{p q:Nat}(hp:p<l.length)(hq:q<l.length)(hpq:p<q)(h:l[p]<l[q]):Below l ((l.set p l[q]).set q l[p]):=by
 intro i j;have c:q<(l.set p l[q]).length:=by rw[bW];exact hq
 rw[AM c,AM hp];have e:(l.set p l[q])[q]=l[q]:=by rw[List.getElem_set_ne<|bD hpq]
 rw[e]
 (repeat' split)<;>lia
abbrev qL (a b:ag):Prop:=a.length=b.length/\∀(p:Nat) (h:p<a.length),b[(a[p]-1).toNat]?=some ((p:Int)+1)
def NL{x y:ag}{n:Nat}(px:x.Perm<|lA 1<|n+1)(py:y.Perm<|lA 1<|n+1):(∀(i q:Nat),i<n->q<n->cnt (x.take<|i+1) ((q:Int)+1)<=cnt (y.take<|i+1) ((q:Int)+1)) ↔ Below x y:=by
 have m:x.length=n:=by rw[px.length_eq,pU];lia
 have k:y.length=n:=by rw[py.length_eq,pU];lia
 constructor
 ·intro h i j;have rx:∀z∈x,1<=z/\z<(n:Int)+1:=λz c=>mU.mp<|px.mem_iff.mp c;have ry:∀z∈y,1<=z/\z<(n:Int)+1:=λz c=>mU.mp<|py.mem_iff.mp c;have low:∀(l:ag),(∀z∈l,j<=z)->cnt l j=l.length:=λl=>by
   induction l with
   | nil=>intro _;rfl
   | cons z l f=>intro e;rw[cnt,aM<|e z aK,f λy g=>e y<|aO _ g,bu];lia
  have d:∀(l:ag),(∀z∈l,z<j)->cnt l j=0:=λl=>by
   induction l with
   | nil=>intro _;rfl
   | cons z l f=>intro e;rw[cnt,aJ (by have:=e z aK;lia),f λy g=>e y<|aO _ g];rfl
  by_cases B:j<=1
  ·rw[low _ λz c=>by have:=(rx z<|cQ c).1;lia,low _ λz c=>by have:=(ry z<|cQ c).1;lia,bE,bE,m,k];exact h_ _
  ·by_cases p:(n:Int)+1<=j
   ·rw[d _ λz c=>by have:=(rx z<|cQ c).2;lia,d _ λz c=>by have:=(ry z<|cQ c).2;lia];exact h_ _
   ·obtain⟨q,rfl⟩:∃q:Nat,j=(q:Int)+1:=⟨(j-1).toNat,()⟩;by_cases hi:i<=n
    ·cases i with
     | zero=>simp[cnt]
     | succ i=>exact h i q () ()
    ·rw[eU (),eU (),F9 px,F9 py];exact h_ _
 ·exact λh i q _ _=>h (i+1)<|(q:Int)+1
end Bl
namespace Wd
open Bl L2
abbrev ex (l:ag)(k:Nat):ag:=(l.set (k-1)<|l.getD k 0).set k<|l.getD (k-1) 0
abbrev led (l:ag)(w:ar):ag:=w.foldl ex l
def kJ{l:ag}{k:Nat}(h:k<l.length):l.getD k 0=l[k]:=by rw[aL,aH h];rfl
def zY{l:ag}{k:Nat}(h0:1<=k)(h:k<l.length):ex l k=(l.set (k-1) l[k]).set k (l[k-1]'()):=by
 unfold ex;rw[kJ h,kJ<|show k-1<l.length by lia]
def lJ(l:ag)(k:Nat):(ex l k).length=l.length:=by unfold ex;rw[bW,bW]
theorem Ed:∀(w:ar) (l:ag),(led l w).length=l.length
 | [],_=>rfl
 | k::w,l=>by show(led (ex l k) w).length=_;rw[Ed w,lJ]
def EJ{l:ag}{k:Nat}(h0:1<=k)(h:k<l.length):(ex l k).Perm l:=by
 rw[zY h0 h];exact List.set_set_perm () h
def uD(a b:ar)(l:ag):led l (a++b)=led (led l a) b:=cR
def zH{l:ag}{k:Nat}(h0:1<=k)(h:k<l.length)(i:Nat)(j:Int) :
  cnt ((ex l k).take i) j=cnt (l.take i) j+(if i=k then(if j<=l[k]then 1 else 0)-(if j<=l[k-1]'()then 1 else 0)else 0):=by
 rw[zY h0 h];have c:k<(l.set (k-1) l[k]).length:=by rw[bW];exact h
 rw[AM c,AM<|show k-1<l.length by lia];have e:(l.set (k-1) l[k])[k]=l[k]:=by rw[List.getElem_set_ne ()]
 rw[e];by_cases h1:i=k
 ·rw[aM h1,aM<|show k-1<i by lia,aJ<|show ¬k<i by lia];lia
 ·by_cases h2:k<i
  ·rw[aJ h1,aM<|show k-1<i by lia,aM h2];lia
  ·rw[aJ h1,aJ<|show ¬k-1<i by lia,aJ h2];lia
def up{l:ag}{k:Nat}(h0:1<=k)(h:k<l.length)(hr:l[k-1]'()<l[k]):Below l (ex l k):=by
 rw[zY h0 h];exact v8 () h () hr
def lift{u w:ag}{k:Nat}(hl:u.length=w.length)(h0:1<=k)(h:k<w.length)(hr:w[k-1]'()<w[k])(hb:Below u w):Below (ex u k) (ex w k):=by
 have d:k<u.length:=()
 intro i j;rw[zH h0 d,zH h0 h];by_cases hi:i=k
 ·subst hi;rw[aM rfl,aM rfl];have g:=hb (i-1) j;have e:=hb i j;have c:=hb (i+1) j;have c1:=lQ (l:=u) (i:=i-1) () j;have c2:=lQ (l:=w) (i:=i-1) () j;have c3:=lQ (l:=u) (i:=i) d j;have f:=lQ (l:=w) (i:=i) h j;rw[show i-1+1=i by lia]at c1 c2;rw[c3,f]at c;rw[c1,c2]at e c;rw[c1,c2];revert g e c
  (repeat' split)<;>intros<;>lia
 ·rw[aJ hi,aJ hi];have:=hb i j
  lia
abbrev j_:ag->ar->Prop
 | _,[]=>True
 | l,k::w=>1<=k/\k<l.length/\l.getD (k-1) 0<l.getD k 0/\j_ (ex l k) w
theorem j_.snoc:∀{w:ar}{l:ag}{k:Nat},j_ l w->1<=k->k<l.length->(led l w).getD (k-1) 0<(led l w).getD k 0->j_ l (w++[k])
 | [],l,k,_,h0,h1,h2=>⟨h0,h1,h2,trivial⟩
 | m::w,l,k,h,h0,h1,h2=>⟨h.1,h.2.1,h.2.2.1,j_.snoc h.2.2.2 h0 (by rw[lJ];exact h1) h2⟩
theorem j_.valid:∀{w:ar}{l:ag},j_ l w->∀k∈w,1<=k/\k<l.length
 | [],_,_,k,hk=>by cases hk
 | m::w,l,h,k,hk=>by
  rcases bB.mp hk with z|z
  ·rw[z];exact⟨h.1,h.2.1⟩
  ·have:=j_.valid h.2.2.2 k z;rw[lJ]at this;exact this
abbrev sw (k:Nat)(x:Int):Int:=if x=k then(k:Int)+1 else if x=(k:Int)+1 then k else x
def ex_map(f:Int->Int){l:ag}{k:Nat}(h0:1<=k)(h:k<l.length):ex (l.map f) k=(ex l k).map f:=by
 rw[zY h0 h,zY h0<|by rw[aI];exact h,iI,iI,di,di]
theorem KP(f:Int->Int):∀{w:ar}{l:ag},(∀k∈w,1<=k/\k<l.length)->led (l.map f) w=(led l w).map f
 | [],_,_=>rfl
 | k::w,l,h=>by
  have c:=h k<|aK ..;show led (ex (l.map f) k) w=(led (ex l k) w).map f;rw[ex_map f c.1 c.2,KP f λm d=>by rw[lJ];exact h m<|aO _ d]
def sG{n p:Nat}(h:p<n):(lA 1<|(n:Int)+1)[p]?=some ((p:Int)+1):=by
 unfold lA;rw[aX,dH ()];simp;lia
def j3(n:Nat):(lA 1<|(n:Int)+1).length=n:=by rw[pU];lia
def rD{l:ag}{k:Nat}(h0:1<=k)(h:k<l.length)(p:Nat):(ex l k)[p]?=if p=k then l[k-1]? else if p=k-1 then l[k]? else l[p]?:=by
 rw[zY h0 h,List.getElem?_set];by_cases h1:k=p
 ·rw[aM h1,aM h1.symm,aM<|by rw[bW];lia,aH]
 ·rw[aJ h1,aJ λz=>h1 z.symm,List.getElem?_set];by_cases h2:k-1=p
  ·rw[aM h2,aM h2.symm,aM (),aH]
  ·rw[aJ h2,aJ λz=>h2 z.symm]
def Tn{n k:Nat}(h0:1<=k)(h:k<n):ex (lA 1<|(n:Int)+1) k=(lA 1<|(n:Int)+1).map (sw k):=by
 apply cJ;intro p;rw[rD h0<|by rw[j3];exact h,aX];by_cases c:p<n
 ·rw[sG c,sG h,sG<|show k-1<n by lia];show _=some (sw k<|(p:Int)+1);unfold sw;by_cases h1:p=k
  ·rw[aM h1,aJ (),aM ()];congr 1;lia
  ·rw[aJ h1];by_cases h2:p=k-1
   ·rw[aM h2,aM ()]
   ·rw[aJ h2,aJ (),aJ ()]
 ·have e:(lA 1<|(n:Int)+1)[p]?=none:=bQ (by rw[j3];lia);rw[aJ (),aJ (),e];rfl
def C7{A B:ag}{k:Nat}(h0:1<=k)(h:k<A.length)(hb:qL A B):qL (ex A k) (B.map<|sw k):=by
 refine⟨by rw[lJ,aI];exact hb.1,λp c=>?_⟩;rw[lJ]at c;have hg:(ex A k)[p]'(by rw[lJ];exact c)=if p=k then A[k-1]'()else if p=k-1 then A[k]else A[p]:=by
  have:=rD h0 h p;rw[aH<|by rw[lJ];exact c]at this;by_cases h1:p=k
  ·rw[aM h1,aH<|show k-1<A.length by lia]at this;rw[aM h1];exact aZ this
  ·rw[aJ h1]at this;rw[aJ h1];by_cases h2:p=k-1
   ·rw[aM h2,aH h]at this;rw[aM h2];exact aZ this
   ·rw[aJ h2,aH c]at this;rw[aJ h2];exact aZ this
 rw[hg,aX];by_cases h1:p=k
 ·rw[aM h1,hb.2 (k-1) ()];show some (sw k _)=_;unfold sw;rw[aM ()];congr 1;lia
 ·rw[aJ h1];by_cases h2:p=k-1
  ·rw[aM h2,hb.2 k h];show some (sw k _)=_;unfold sw;rw[aJ (),aM ()];congr 1;lia
  ·rw[aJ h2,hb.2 p c];show some (sw k _)=_;unfold sw;rw[aJ (),aJ ()]
theorem mh{n:Nat}:∀(w:ar),(∀k∈w,1<=k/\k<n)->qL (led (lA 1<|(n:Int)+1) w.reverse) (led (lA 1<|(n:Int)+1) w)
 | [],_=>⟨rfl,λp c=>by
  have c:p<n:=by rw[show([]:ar).reverse=[]from rfl]at c;have:p<(lA 1<|(n:Int)+1).length:=c;rw[j3]at this;exact this
  have e:(lA 1<|(n:Int)+1)[p]'(by rw[j3];exact c)=(p:Int)+1:=by
   have:=sG c;rw[aH<|by rw[j3];exact c]at this;exact aZ this
  show(lA 1<|(n:Int)+1)[(((lA 1<|(n:Int)+1)[p]'(by rw[j3];exact c))-1).toNat]?=_;rw[e,show((p:Int)+1-1).toNat=p by lia];exact sG c⟩
 | k::w,h=>by
  have d:=h k<|aK ..;have hw:=λm f=>h m<|aO k f;have g:=mh w hw;rw[eO,uD];show qL (ex (led (lA 1<|(n:Int)+1) w.reverse) k) (led (ex (lA 1<|(n:Int)+1) k) w);rw[Tn d.1 d.2,KP (sw k) λm f=>by rw[j3];exact hw m f];exact C7 d.1 (by rw[Ed,j3];exact d.2) g
end Wd
namespace Iv
open L2 Bl
abbrev inv:ag->Nat
 | []=>0
 | x::l=>l.countP (λy=>decide<|y<x)+inv l
abbrev mJ (a b:ag):Nat:=(a.map λx=>b.countP λy=>decide<|y<x).sum
def rF(x:Int)(a b:ag):mJ (x::a) b=b.countP (λy=>decide<|y<x)+mJ a b:=rfl
theorem kQ:∀(a b:ag),inv (a++b)=inv a+inv b+mJ a b
 | [],b=>by show inv b=0+inv b+0;lia
 | x::a,b=>by
  show(a++b).countP _+inv (a++b)=(a.countP _+inv a)+inv b+mJ (x::a) b;rw[List.countP_append,kQ a b,rF];lia
theorem yE:∀{a b:ar},a.Perm b->a.sum=b.sum
 | _,_,.nil=>rfl
 | _,_,.cons x h=>by rw[gS,gS,yE h]
 | _,_,.swap x y l=>by rw[gS,gS,gS,gS];lia
 | _,_,.trans h k=>(yE h).trans<|yE k
def Lq{a:ag}(b:ag)(h:a.Perm a'):mJ a b=mJ a' b:=yE<|h.map _
def KU(a:ag){b:ag}(h:b.Perm b'):mJ a b=mJ a b':=by
 unfold mJ;congr 1;refine dj λx _=>h.countP_eq _
def EU{M:ag}{x y:Int}(h:∀m∈M,m<x\/y<m)(hxy:x<y):M.countP (λm=>decide<|m<x)=M.countP (λm=>decide<|m<y):=by
 refine List.countP_congr λm c=>?_;rw[decide_eq_true_iff,decide_eq_true_iff]
 rcases h m c with z|z<;>omega
theorem zZ:∀{M:ag}{x y:Int},(∀m∈M,m<x\/y<m)->x<y->mJ M [x]=mJ M [y]
 | [],_,_,_,_=>rfl
 | m::M,x,y,h,hxy=>by
  rw[rF,rF,zZ (λe d=>h e<|aO _ d) hxy];congr 1;have:=h m<|aK ..;dsimp[dD,List.countP_nil];by_cases c:x<m
  ·rw[aW c,aW<|show y<m by omega]
  ·rw[bq c,bq<|show ¬y<m by omega]
def mid{M:ag}{x y:Int}(h:∀m∈M,m<x\/y<m)(hxy:x<y):inv ([y]++M++[x])=inv ([x]++M++[y])+1:=by
 rw[kQ,kQ,kQ<|[x]++M,kQ [x]];have e1:mJ [y] M=mJ [x] M:=by
  show M.countP _+0=M.countP _+0;rw[EU h hxy]
 have e2:mJ ([y]++M) [x]=1+mJ M [x]:=by
  show[x].countP _+mJ M [x]=_;rw[dD,aW hxy];rfl
 have e3:mJ ([x]++M) [y]=mJ M [y]:=by
  show[y].countP _+mJ M [y]=_;rw[dD,bq (by lia:¬y<x)];simp
 rw[e1,e2,e3,zZ h hxy]
 skip
 lia
def B9(M:ag)(x y:Int):([y]++M++[x]).Perm ([x]++M++[y]):=by
 refine(List.perm_append_comm (l₁:=[y]++M) (l₂:=[x])).trans ?_
 skip
 exact .cons x<|List.perm_append_comm (l₁:=[y]) (l₂:=M)
def step{P M R:ag}{x y:Int}(h:∀m∈M,m<x\/y<m)(hxy:x<y):inv (P++([y]++M++[x])++R)=inv (P++([x]++M++[y])++R)+1:=by
 have p:=B9 M x y;rw[kQ,kQ P,kQ<|P++([x]++M++[y]),kQ P,mid h hxy,KU P p,Lq R<|p.append_left P]
 lia
theorem IW:∀(l:ag),inv l<=l.length * l.length
 | []=>aP _
 | x::l=>by
  show l.countP _+inv l<=(l.length+1) * (l.length+1);have h1:=iP (p:=λy=>decide<|y<x) (l:=l);have h2:=IW l;rw[Nat.add_mul,Nat.mul_add]
  lia
abbrev sw (a:ag)(i j:Nat):ag:=(a.set i<|a.getD j 0).set j<|a.getD i 0
def B_(a:ag)(i j:Nat):(sw a i j).length=a.length:=by unfold sw;rw[bW,bW]
def split{a:ag}(hij:i<j)(hj:j<a.length):∃P M R:ag,a=P++([a.getD i 0]++M++[a.getD j 0])++R/\P=a.take i/\(∀m∈M,∃k,i<k/\k<j/\a[k]?=some m)/\sw a i j=P++([a.getD j 0]++M++[a.getD i 0])++R:=by
 have J:a.getD i 0=a[i]:=by rw[aL,aH ()];rfl
 have F:a.getD j 0=a[j]:=by rw[aL,aH hj];rfl
 obtain⟨M,e⟩:∃M,M=(a.drop<|i+1).take (j-i-1):=⟨_,rfl⟩;have G:M.length=j-i-1:=by rw[e,bE,cB];lia
 have q:a=a.take i++([a.getD i 0]++M++[a.getD j 0])++a.drop (j+1):=by
  have h1:a.drop i=a[i]::a.drop (i+1):=cM ();have h2:a.drop (i+1)=M++a.drop j:=by
   rw[e];have:=fj (j-i-1)<|a.drop<|i+1;rw[List.drop_drop,show i+1+(j-i-1)=j by lia]at this;exact this.symm
  have h3:a.drop j=a[j]::a.drop (j+1):=cM hj
  conv=>lhs;rw[<- fj i a,h1,h2,h3]
  rw[J,F];simp
 refine⟨a.take i,M,a.drop<|j+1,q,rfl,λm B=>?_,?_⟩
 ·rw[e]at B;obtain⟨k,f⟩:=gA B;have p:k<j-i-1:=by
   have:=(aN.mp f).1;rw[bE]at this;lia
  rw[eo p,f7]at f;exact⟨i+1+k,(),(),f⟩
 ·have g:∀(P R:ag) (x y c d:Int),P.length=i->((P++([x]++M++[y])++R).set i d).set j c=P++([d]++M++[c])++R:=λP R x y c d C=>by
   rw[bM,dO _ _ (),C,f9];show(P++(d::((M++[y])++R))).set j c=_;rw[dO _ _ (),C,show j-i=(j-i-1)+1 by lia,List.set_cons_succ,bM,dO _ _ (),G,f9];simp
  have:=g (a.take i) (a.drop<|j+1) (a.getD i 0) (a.getD j 0) (a.getD i 0) (a.getD j 0) (by rw[bE];lia);rw[<- q]at this;exact this
def yq{a:ag}{i:Nat}(h:i<a.length):a[i]?=some (a.getD i 0):=by rw[aL,aH h];rfl
def Jh{a:ag}(hij:i<j)(hj:j<a.length)(p:Nat):(sw a i j).getD p 0=if p=j then a.getD i 0 else if p=i then a.getD j 0 else a.getD p 0:=by
 unfold sw;rw[aL];by_cases c:p=j
 ·subst c;rw[aM rfl,bJ<|by rw[bW];exact hj];rfl
 ·rw[aJ c,bP<|c9 c];by_cases d:p=i
  ·subst d;rw[aM rfl,bJ ()];rfl
  ·rw[aJ d,bP<|c9 d,<- aL]
end Iv
namespace Fw
open PySem L2 Bl
open Wd (ex led)
meta abbrev rg (n:Nat):ag:=lA 1<|(n:Int)+1
def pN{l:ag}{k:Nat}(h0:1<=k)(h:k<l.length):ex (ex l k) k=l:=by
 apply cJ;intro p;have h':k<(ex l k).length:=by rw[Wd.lJ];exact h
 rw[Wd.rD h0 h',Wd.rD h0 h,Wd.rD h0 h,Wd.rD h0 h];by_cases c3:p=k
 ·rw[aM c3,aJ (),aM rfl,c3]
 ·rw[aJ c3];by_cases c2:p=k-1
  ·rw[aM c2,aM rfl,c2]
  ·rw[aJ c2,aJ c3,aJ c2]
def HU{l:ag}{k:Nat}(h0:1<=k)(h:k<l.length):(ex l k).getD k 0=l.getD (k-1) 0:=by
 rw[aL,Wd.rD h0 h,aM rfl,aL]
def HK{l:ag}{k:Nat}(h0:1<=k)(h:k<l.length):(ex l k).getD (k-1) 0=l.getD k 0:=by
 rw[aL,Wd.rD h0 h,aJ (),aM rfl,aL]
def BR{l:ag}{k:Nat}(h0:1<=k)(h:k<l.length)(hr:l.getD (k-1) 0<l.getD k 0):Iv.inv (ex l k)=Iv.inv l+1:=by
 obtain⟨P,M,R,e,_,c,es⟩:=Iv.split (a:=l) (i:=k-1) (j:=k) () h;have:=Iv.step (P:=P) (M:=M) (R:=R) (x:=l.getD (k-1) 0) (y:=l.getD k 0) (λm d=>by obtain⟨_,_,_,_⟩:=c m d;lia) hr;rw[<- es,<- e]at this;exact this
def oq{l:ag}{k:Nat}(h0:1<=k)(h:k<l.length)(hr:l.getD k 0<l.getD (k-1) 0):Iv.inv l=Iv.inv (ex l k)+1:=by
 have:=BR (l:=ex l k) h0 (by rw[Wd.lJ];exact h) (by rw[HU h0 h,HK h0 h];exact hr);rw[pN h0 h]at this;exact this
abbrev Va (n:Nat)(w:ar):Prop:=∀k∈w,1<=k/\k<n
def Va.tail{n k:Nat}{w:ar}(h:Va n (k::w)):Va n w:=λj c=>h j<|aO _ c
def Va.head{n k:Nat}{w:ar}(h:Va n (k::w)):1<=k/\k<n:=h k<|aK ..
theorem BL:∀{w:ar}{l:ag},Va l.length w->led (led l w) w.reverse=l
 | [],l,_=>rfl
 | k::w,l,h=>by
  rw[eO,Wd.uD];show led (led (led (ex l k) w) w.reverse) [k]=l;rw[BL (w:=w) (l:=ex l k)<|by rw[Wd.lJ];exact h.tail];exact pN h.head.1 h.head.2
theorem E1:∀{l:ag},l.Pairwise (·<=·)->Iv.inv l=0
 | [],_=>rfl
 | x::l,h=>by
  show l.countP (λy=>decide<|y<x)+Iv.inv l=0;rw[E1 (bV.mp h).2,List.countP_eq_zero.mpr λa c z=>by have:=bN z;have:=(bV.mp h).1 a c;lia]
def xy(n:Nat):Iv.inv (rg n)=0:=E1<|EM _ _
abbrev xH (l:ag)(k:Nat):Prop:=1<=k/\k<l.length/\l.getD k 0<l.getD (k-1) 0
def Q3{l:ag}(h:∀k,¬xH l k):l.Pairwise (·<=·):=by
 have c:∀d i,i+d<l.length->l.getD i 0<=l.getD (i+d) 0:=by
  intro d
  induction d with
  | zero=>intro i _;exact h_ _
  | succ d g=>
   intro i hi;have h1:=g i ();have h2:¬l.getD (i+d+1) 0<l.getD (i+d) 0:=λz=>h (i+d+1) ⟨(),hi,z⟩;rw[<- gf];lia
 rw[dF];intro i j hi f e;have:=c (j-i) i ();rw[show i+(j-i)=j by lia,Wd.kJ hi,Wd.kJ f]at this;exact this
def DT{l:ag}{n:Nat}(p:l.Perm<|rg n)(h:∀k,¬xH l k):l=rg n:=
 eB (λx y _ _ h1 h2=>ja h1 h2) (Q3 h) (EM _ _) p
def J7{l:ag}(h:0<Iv.inv l):∃k,xH l k:=by
 refine Classical.byContradiction λz=>?_;rw[E1<|Q3 λk c=>z ⟨k,c⟩]at h;exact absurd h<|gb _
abbrev Dn:ag->ar->Prop
 | l,[]=>∀k,¬xH l k
 | l,k::ks=>(xH l k/\∀j,xH l j->k<=j)/\Dn (ex l k) ks
def lH{l:ag}{n k:Nat}(p:l.Perm<|rg n)(h0:1<=k)(h:k<l.length):(ex l k).Perm (rg n):=(Wd.EJ h0 h).trans p
def Dn.len:∀{ks:ar}{l:ag},Dn l ks->ks.length=Iv.inv l
 | [],l,h=>(E1<|Q3 h).symm
 | k::ks,l,h=>by
  have:=h.2.len;rw[oq h.1.1.1 h.1.1.2.1 h.1.1.2.2,bu];lia
def Dn.va:∀{ks:ar}{l:ag},Dn l ks->Va l.length ks
 | [],l,_=>λk d=>absurd d (by simp)
 | k::ks,l,h=>λj c=>by
  rcases bB.mp c with rfl|z
  ·exact⟨h.1.1.1,h.1.1.2.1⟩
  ·have:=h.2.va j z
   rwa [Wd.lJ]at this
theorem Dn.led:∀{ks:ar}{l:ag}{n:Nat},Dn l ks->l.Perm (rg n)->led l ks=rg n
 | [],l,n,h,p=>DT p h
 | k::ks,l,n,h,p=>Dn.led (ks:=ks) h.2<|lH p h.1.1.1 h.1.1.2.1
theorem C6:∀(m:Nat) (l:ag),Iv.inv l<=m->∃ks,Dn l ks
 | 0,l,h=>⟨[],λk d=>by have:=oq d.1 d.2.1 d.2.2;lia⟩
 | m+1,l,h=>by
  by_cases c:∃k,xH l k
  ·obtain⟨k,d,e⟩:∃k,xH l k/\∀j,xH l j->k<=j:=by
    obtain⟨k,d⟩:=c
    induction k using Nat.strongRecOn with
    | ind k q=>
     by_cases z:∃j,xH l j/\j<k
     ·obtain⟨j,g,p⟩:=z;exact q j p g
     ·exact⟨k,d,λj g=>iQ λy=>z ⟨j,g,y⟩⟩
   have:=oq d.1 d.2.1 d.2.2;obtain⟨ks,f⟩:=C6 m (ex l k) ();exact⟨k::ks,⟨d,e⟩,f⟩
  ·exact⟨[],λk d=>c ⟨k,d⟩⟩
def A3{l:ag}{n k:Nat}(p:l.Perm<|rg n)(h0:1<=k)(h:k<l.length):l.getD (k-1) 0≠l.getD k 0:=λz=>by
 have nd:l.Nodup:=p.nodup_iff.mpr<|nJ _ _;rw[Wd.kJ h,Wd.kJ<|show k-1<l.length by lia]at z;have:=(dB nd).mp z
 lia
def Ny{a c:ag}{n:Nat}(pa:a.Perm<|rg n)(h1:qL a b)(h2:qL b c):a=c:=by
 have m:=h1.1;have k:=h2.1;refine iT () λq e d=>?_;have e1:=h1.2 q e;have j:=(mU.mp<|pa.mem_iff.mp<|eg e);obtain⟨g,f⟩:=aN.mp e1;have e2:=h2.2 _ g;rw[f,show((q:Int)+1-1).toNat=q by lia,aH d]at e2;have:=aZ e2
 lia
structure Two (n:Nat)(o u:ag):Prop where
 po:o.Perm (rg n)
 pu:u.Perm (rg n)
 ou:qL o u
def Two.lu{n:Nat}{u:ag}(t:Two n o u):u.length=n:=by rw[t.pu.length_eq,Wd.j3]
def Two.lo{n:Nat}{o:ag}(t:Two n o u):o.length=n:=by rw[t.po.length_eq,Wd.j3]
def Two.led{n:Nat}{ks:ar}(t:Two n o u)(h:Dn u ks):Wd.led (rg n) ks=o:=by
 have v:Va n ks:=by have:=h.va;rwa [t.lu]at this
 have e:=h.led t.pu;have e2:u=Wd.led (rg n) ks.reverse:=by rw[<- e,BL<|by rw[t.lu];exact v]
 have b:=Wd.mh ks v;rw[<- show u=Wd.led (lA 1<|(n:Int)+1) ks.reverse from e2]at b;exact(Ny t.po t.ou b).symm
def Two.uo{n:Nat}(t:Two n o u):qL u o:=by
 obtain⟨ks,h⟩:=C6 _ u<|aP _;have v:Va n ks:=by have:=h.va;rwa [t.lu]at this
 have e:=h.led t.pu;have e2:u=Wd.led (rg n) ks.reverse:=by rw[<- e,BL<|by rw[t.lu];exact v]
 have b:=Wd.mh ks v;rw[<- show u=Wd.led (lA 1<|(n:Int)+1) ks.reverse from e2,show Wd.led (lA 1<|(n:Int)+1) ks=o from t.led h]at b;exact b
def Two.flip{n:Nat}(t:Two n o u):Two n u o:=⟨t.pu,t.po,t.uo⟩
def Two.step{n k:Nat}{o:ag}(t:Two n o u)(h0:1<=k)(h:k<n):Two n (o.map<|Wd.sw k) (ex u k):=by
 have lu:=t.lu;have b:=Wd.C7 h0 () t.uo;have p1:=lH t.pu h0 ();have p2:(o.map<|Wd.sw k).Perm (rg n):=(t.po.map _).trans (by rw[<- Wd.Tn h0 h];exact Wd.EJ h0<|by rw[Wd.j3];exact h);exact(Two.mk p1 p2 b).flip
end Fw
namespace Su
open Am Po PySem L2
abbrev cS (l:Ps)(o:ag)(t:Int):Int:=match l with
 | []=>0
 | e::l=>(if e.1=o then cf e.2 t else 0)+cS l o t
def Ju(a b:Ps)(o:ag)(t:Int):cS (a++b) o t=cS a o t+cS b o t:=by
 induction a with
 | nil=>exact(cL _).symm
 | cons e a c=>
  show _+cS (a++b) o t=_+_+_;rw[c,iX]
def Jy(a b:Pl)(k:Int):cf (a++b) k=cf a k+cf b k:=by
 induction a with
 | nil=>exact(cL _).symm
 | cons p a c=>
  show _+cf (a++b) k=_+_+_;rw[c,iX]
def Bb(a b:Pl)(k:Int):cf (pG a b) k=cf a k+cf b k:=by
 unfold pG;rw[Ei<|wI _ (d:=[]) dR,yp,Jy];show 0+_=_;rw[cL]
def vL(a b:Pl)(k:Int):cf (times a b) k=cf (C5 a b) k:=by
 unfold times;rw[Ei<|wI _ (d:=[]) dR,yp];show 0+_=_;rw[cL]
theorem HM(s:Int):∀(b:Pl) (k c:Int),cf (b.map λq=>(c+q.1,s * q.2)) k=s * cf b (k-c)
 | [],k,c=>(jI s).symm
 | q::b,k,c=>by
  show(if c+q.1=k then s * q.2 else 0)+cf (b.map λq=>(c+q.1,s * q.2)) k=s * ((if q.1=k-c then q.2 else 0)+cf b (k-c));rw[HM s b k c,Int.mul_add];by_cases h:c+q.1=k
  ·rw[aM h,aM ()]
  ·rw[aJ h,aJ (),jI]
meta abbrev AF:Pl:=[((-1:Int),(1:Int)),((1:Int),(-1:Int))]
def acd(b:Pl)(k:Int):cf (times AF b) k=cf b (k+1)-cf b (k-1):=by
 rw[vL];show cf ((b.map λq=>((-1:Int)+q.1,(1:Int) * q.2))++((b.map λq=>((1:Int)+q.1,(-1:Int) * q.2))++[])) k=_;rw[cZ,Jy,HM,HM,one_mul,show k - -1=k+1 by lia]
 lia
def aai{D:Ps}{p:Pl}:vS (BJ D o p) o'=if o'=o then p else vS D o':=by
 have cons:∀(e:ag×Pl) (D:Ps) (x:ag),vS (e::D) x=if e.1=x then e.2 else vS D x:=λe D x=>by
  unfold vS;rw[cC];by_cases h:e.1=x
  ·rw[aW h,aM h];rfl
  ·rw[bq h,aJ h]
 unfold BJ
 cases h:hS D o with
 | true=>
  rw[aM rfl]
  induction D with
  | nil=>cases h
  | cons e D d=>
   rw[bL,cons,cons];have hc:hS (e::D) o=(decide (e.1=o) || hS D o):=rfl;rw[hc]at h;by_cases c:e.1=o
   ·rw[aM c]
    skip
    by_cases c2:o'=o
    ·rw[aM<|c.trans c2.symm,aM c2]
    ·rw[aJ λz=>c2<|z.symm.trans c,aJ c2,aJ λz=>c2<|z.symm.trans c];clear d h hc
     induction D with
     | nil=>rfl
     | cons f D g=>
      rw[bL,cons,cons,g];by_cases c3:f.1=o
      ·rw[aM c3]
       skip
       rw[aJ λz=>c2<|z.symm.trans c3,aJ λz=>c2<|z.symm.trans c3]
      ·rw[aJ c3]
   ·rw[aJ c];rw[bq c,gK]at h;rw[d h];by_cases c2:e.1=o'
    ·rw[aM c2,aJ λz=>c<|c2.trans z,aM c2]
    ·rw[aJ c2,aJ c2]
 | false=>
  rw[aJ<|by simp]
  induction D with
  | nil=>
   show vS [(o,p)] o'=_;rw[cons];by_cases c:o=o'
   ·rw[aM c,aM c.symm]
   ·rw[aJ c,aJ λz=>c z.symm]
  | cons e D d=>
   have hc:hS (e::D) o=(decide (e.1=o) || hS D o):=rfl;rw[hc,i9]at h;rw[gF,cons,cons,d h.2];have:=c_ h.1;by_cases c:e.1=o'
   ·rw[aM c,aM c,aJ λz=>this<|c.trans z]
   ·rw[aJ c,aJ c]
def P_(l:Ps):∀(D:Ps) (o:ag) (t:Int),cf (vS (adds D l) o) t=cf (vS D o) t+cS l o t:=by
 induction l with
 | nil=>intro D o t;exact(cY _).symm
 | cons e l c=>
  intro D o t;show cf (vS (adds (Ao D e.1 e.2) l) o) t=_+((if e.1=o then cf e.2 t else 0)+cS l o t);rw[c];unfold Ao;rw[aai];by_cases h:o=e.1
  ·rw[aM h,aM h.symm,Bb,h,iX]
  ·rw[aJ h,aJ λz=>h z.symm,cL]
structure Gd (D:Ps):Prop where
 nd:(D.map Prod.fst).Nodup
 ok:∀e∈D,Ok e.2
def Z4{D:Ps}{o:ag}:hS D o=true ↔ o∈D.map Prod.fst:=by
 unfold hS;rw[gE,bI];constructor
 ·rintro⟨p,h1,h2⟩;exact⟨p,h1,bN h2⟩
 ·rintro⟨p,h1,h2⟩;exact⟨p,h1,aW h2⟩
def NR{D:Ps}{o:ag}{p:Pl}:(BJ D o p).map Prod.fst=if hS D o=true then D.map Prod.fst else D.map Prod.fst++[o]:=by
 unfold BJ;split
 ·rw[bK];apply dj;intro e _;show(if e.1=o then(e.1,p)else e).1=e.1;split<;>rfl
 ·rw[bZ];rfl
def Gd.put{D:Ps}{p:Pl}(h:Gd D)(hp:Ok p):Gd (BJ D o p):=by
 refine⟨?_,λe d=>?_⟩
 ·rw[NR];split
  ·exact h.nd
  ·rename_i c;rw[c8];refine⟨h.nd,cg _ _,λa j b g z=>c ?_⟩;rw[aS]at g;rw[Z4,<- g,<- z];exact j
 ·unfold BJ at d;split at d
  ·obtain⟨f,hf,rfl⟩:=bI.mp d;split
   ·exact hp
   ·exact h.ok f hf
  ·rcases bG.mp d with z|z
   ·exact h.ok e z
   ·rw[aS.mp z];exact hp
theorem Gd.adds(l:Ps):∀{D:Ps},Gd D->Gd (adds D l):=by
 induction l with
 | nil=>intro D h;exact h
 | cons e l c=>intro D h;exact c<|h.put<|yC _ _
def Gd.nil:Gd []:=⟨dR,nofun⟩
def w9{D:Ps}:(∃e∈D,e.1=o/\vS D o=e.2)\/(o∉D.map Prod.fst/\vS D o=[]):=by
 unfold vS
 cases h:D.find? λe=>decide (e.1=o)with
 | some e=>
  have h1:=je h;exact .inl ⟨e,gH h,by simpa using h1,rfl⟩
 | none=>
  refine .inr ⟨λz=>?_,rfl⟩;obtain⟨e,c,d⟩:=bI.mp z;exact gU.mp h e c<|aW d
def Gd.v{D:Ps}(h:Gd D)(o:ag):Ok (vS D o):=by
 rcases w9 (D:=D) (o:=o)with⟨e,h1,_,h2⟩|⟨_,h2⟩
 ·rw[h2];exact h.ok e h1
 ·rw[h2];exact⟨List.Pairwise.nil,nofun⟩
def E3.anti{a:ag}(h1:E3 a b)(h2:E3 b a):a=b:=(Sx.yD h1 h2).symm
def Wg{D:Ps}(h:Gd D)(h':Gd E)(hv:∀o,vS D o=vS E o):toS D=toS E:=by
 have c:∀(D:Ps),Gd D->∀o,o∈(m7<|D.map Prod.fst).filter (λo=>!(vS D o).isEmpty) ↔ (vS D o)≠[]:=λD h o=>by
  rw[cD,(kP _).mem_iff];constructor
  ·rintro⟨_,h2⟩ z;rw[z]at h2;cases h2
  ·intro z;refine⟨?_,by cases e:vS D o with|nil=>exact absurd e z|cons=>rfl⟩
   rcases w9 (D:=D) (o:=o)with⟨e,h1,h2,_⟩|⟨_,h2⟩
   ·exact bI.mpr ⟨e,h1,h2⟩
   ·exact absurd h2 z
 have d:∀(D:Ps),((m7<|D.map Prod.fst).filter λo=>!(vS D o).isEmpty).Pairwise E3:=λD=>(vt _).filter _;have nd:∀(D:Ps),Gd D->((m7<|D.map Prod.fst).filter λo=>!(vS D o).isEmpty).Nodup:=λD h=>((kP _).nodup_iff.mpr h.nd).filter _;have e:(m7<|D.map Prod.fst).filter (λo=>!(vS D o).isEmpty)=(m7<|E.map Prod.fst).filter (λo=>!(vS E o).isEmpty):=by
  refine eB (λa b _ _ h1 h2=>E3.anti h1 h2) (d D) (d E)<|(jt (nd D h)<|nd E h').mpr λo=>?_;rw[c D h,c E h',hv]
 unfold toS;rw[e];apply dj;intro o _;rw[hv]
def HH{D:Ps}(h:Gd D)(h':Gd E)(hc:∀o t,cf (vS D o) t=cf (vS E o) t):toS D=toS E:=Wg h h' λo=>uniq (h.v o) (h'.v o)<|hc o
theorem Jr{f:ag->Pl}{o:ag}{t:Int}:∀{ks:List<|ag},ks.Nodup->cS (ks.map λk=>(k,f k)) o t=if o∈ks then cf (f o) t else 0
 | [],_=>by rw[aJ<|by simp];rfl
 | j::ks,h=>by
  obtain⟨h1,h2⟩:=c5.mp h;show(if j=o then cf (f j) t else 0)+cS (ks.map λk=>(k,f k)) o t=_;rw[Jr h2];by_cases c:j=o
  ·subst c;rw[aM rfl,aJ h1,aM<|aK ..,cY]
  ·rw[aJ c,cL];by_cases e:o∈ks
   ·rw[aM e,aM<|aO _ e]
   ·rw[aJ e,aJ λz=>(bB.mp z).elim (λz=>c z.symm) e]
def ID{D:Ps}(h:Gd D)(o:ag)(t:Int):cS (toS D) o t=cf (vS D o) t:=by
 unfold toS;rw[Jr<|((kP _).nodup_iff.mpr h.nd).filter _];split
 ·rfl
 ·rename_i c
  rcases w9 (D:=D) (o:=o)with⟨e,h1,h2,h3⟩|⟨_,h2⟩
  ·by_cases z:vS D o=[]
   ·rw[z];rfl
   ·refine absurd (cD.mpr ⟨(kP _).mem_iff.mpr<|bI.mpr ⟨e,h1,h2⟩,?_⟩) c
    cases e:vS D o with|nil=>exact absurd e z|cons=>rfl
  ·rw[h2];rfl
abbrev mq (o:ag)(k:Nat):Bool:=decide<|o.getD (k-1) 0>o.getD k 0
abbrev bxL (k:Nat)(l:Ps):Ps:=l.flatMap λe=>(Wd.ex e.1 k,e.2)::(if mq e.1 k=true then[(e.1,times AF e.2)]else[])
abbrev bx (k:Nat)(l:Ps):Ps:=toS<|adds []<|bxL k l
abbrev Go (N k:Nat)(o:ag):Prop:=o.length=N/\o.getD (k-1) 0≠o.getD k 0
def Pw{N k:Nat}{o:ag}(h:o.length=N)(h1:1<=k)(h2:k<N):Wd.ex (Wd.ex o k) k=o:=Fw.pN h1 ()
def MM{k:Nat}{o:ag}(h1:1<=k)(h2:k<o.length):(Wd.ex o k).getD (k-1) 0=o.getD k 0/\(Wd.ex o k).getD k 0=o.getD (k-1) 0:=by
 constructor
 ·rw[aL,Wd.rD h1 h2,aJ (),aM rfl,aL]
 ·rw[aL,Wd.rD h1 h2,aM rfl,aL]
def Go.ex{N k:Nat}(h:Go N k o)(h1:1<=k)(h2:k<N):Go N k (Wd.ex o k)/\mq (Wd.ex o k) k=!mq o k:=by
 obtain⟨d,hn⟩:=h;obtain⟨e1,e2⟩:=MM (o:=o) h1 ();refine⟨⟨by rw[Wd.lJ];exact d,by rw[e1,e2];exact λz=>hn z.symm⟩,?_⟩;unfold mq;rw[e1,e2];by_cases c:o.getD (k-1) 0>o.getD k 0
 ·rw[aW c,bq ()];rfl
 ·rw[bq c,aW ()];rfl
def Ka{l:Ps}{t:Int}(h:∀e∈l,e.1≠o):cS l o t=0:=by
 induction l with
 | nil=>rfl
 | cons e l c=>
  show(if e.1=o then _ else 0)+cS l o t=0;rw[aJ<|h e<|aK ..,c λf hf=>h f<|aO _ hf];rfl
theorem Xo{N k:Nat}(h1:1<=k)(h2:k<N):∀{l:Ps},(∀e∈l,Go N k e.1)->∀{o:ag}(t:Int),Go N k o->cS (bxL k l) o t=cS l (Wd.ex o k) t+(if mq o k=true then cS l o (t+1)-cS l o (t-1)else 0)
 | [],_,o,t,_=>by show(0:Int)=0+if _ then(0:Int)-0 else 0;split<;>rfl
 | e::l,h,o,t,ho=>by
  have g:=h e<|aK ..;have j:=Xo h1 h2 (l:=l) (λf hf=>h f<|aO _ hf) t ho;have d:(Wd.ex e.1 k=o) ↔ (e.1=Wd.ex o k):=⟨λz=>by rw[<- z,Pw g.1 h1 h2],λz=>by rw[z,Pw ho.1 h1 h2]⟩;show cS (((Wd.ex e.1 k,e.2)::(if mq e.1 k=true then[(e.1,times AF e.2)]else[]))++bxL k l) o t=_;rw[Ju,j];show(if Wd.ex e.1 k=o then cf e.2 t else 0)+cS (if mq e.1 k=true then[(e.1,times AF e.2)]else[]) o t+_=((if e.1=Wd.ex o k then cf e.2 t else 0)+cS l (Wd.ex o k) t)+(if mq o k=true then((if e.1=o then cf e.2 (t+1)else 0)+cS l o (t+1))-((if e.1=o then cf e.2 (t-1)else 0)+cS l o (t-1))else 0);have h3:cS (if mq e.1 k=true then[(e.1,times AF e.2)]else[]) o t=if mq o k=true then((if e.1=o then cf e.2 (t+1)else 0)-(if e.1=o then cf e.2 (t-1)else 0))else 0:=by
   by_cases c:e.1=o
   ·rw[c,aM rfl,aM rfl]
    cases mq o k with
    | false=>rfl
    | true=>
     rw[aM rfl,aM rfl];show(if o=o then cf (times AF e.2) t else 0)+0=_;rw[aM rfl,acd,cY]
   ·rw[aJ c,aJ c];have:cS (if mq e.1 k=true then[(e.1,times AF e.2)]else[]) o t=0:=Ka λf hf=>by
     split at hf
     ·rw[aS.mp hf];exact c
     ·cases hf
    rw[this];split<;>rfl
  rw[h3];by_cases c:Wd.ex e.1 k=o
  ·rw[aM c,aM<|d.mp c];split<;>lia
  ·rw[aJ c,aJ λz=>c<|d.mpr z];split<;>lia
def wR{P:ag->Prop}(l:Ps):∀{D:Ps},(∀e∈D,P e.1)->(∀e∈l,P e.1)->∀e∈adds D l,P e.1:=by
 induction l with
 | nil=>intro D h _;exact h
 | cons f l d=>
  intro D h h';refine d (λe c=>?_) λe c=>h' e<|aO _ c;have c:e∈BJ D f.1 (pG (vS D f.1) f.2):=c;unfold BJ at c;split at c
  ·obtain⟨g,hg,rfl⟩:=bI.mp c;split
   ·exact h g hg
   ·exact h g hg
  ·rcases bG.mp c with z|z
   ·exact h e z
   ·rw[aS.mp z];exact h' f<|aK ..
def yr{P:ag->Prop}{D:Ps}(h:∀e∈D,P e.1):∀e∈toS D,P e.1:=λe c=>by
 obtain⟨o,d,rfl⟩:=bI.mp c;obtain⟨f,hf,e⟩:=bI.mp ((kP _).mem_iff.mp (cD.mp d).1)
 skip
 rw[<- e];exact h f hf
abbrev gX (k:Nat)(e:En)(Q:Ps):Ps:=if mq e.1 k=true then Ao (Ao Q (Wd.ex e.1 k) e.2.2) e.1 (times AF e.2.2)else Ao Q (Wd.ex e.1 k) e.2.2
theorem Ko(k:Nat):∀(es:Es) (P:Ps),es.foldl (λQ e=>gX k e Q) P=adds P (bxL k<|sm es)
 | [],P=>rfl
 | e::es,P=>by
  show es.foldl (λQ e=>gX k e Q) (gX k e P)=adds P (((Wd.ex e.1 k,e.2.2)::(if mq e.1 k=true then[(e.1,times AF e.2.2)]else[]))++bxL k (sm es));rw[Ko k es,GK];congr 1;unfold gX
  cases mq e.1 k<;>rfl
def acJ{p:Pl}(h:Ok p)(hb:Bd C p)(t:Int):(cf p t).natAbs<=C:=by
 rw[<- Rj h.nd];exact hb.val t
def Ok.Ii{l:Pl}(h:Ok l){p:Int×Int}(hp:p∈l):cf l p.1=p.2:=by
 induction l with
 | nil=>cases hp
 | cons q l c=>
  rcases bB.mp hp with z|z
  ·rw[z];exact h.head
  ·show(if q.1=p.1 then q.2 else 0)+cf l p.1=p.2;have:=(bV.mp h.up).1 p z;rw[aJ (),c h.tail z,cL]
end Su
namespace He
open PySem L2 Am
open Fw (Two rg xH)
open Bl (qL)
open Su (mq)
meta abbrev Fn:=ag->Int->Int
abbrev dl (g:Int->Int)(t:Int):Int:=g (t+1)-g (t-1)
abbrev X (k:Nat)(f:Fn):Fn:=λo t=>f (Wd.ex o k) t+if mq o k=true then dl (f o) t else 0
def nq{n:Nat}{v:ag}(h:Two n o u)(h':Two n o v):u=v:=by
 have k:=h.lu;have g:=h'.lu;have j:=h.lo;apply cJ;intro q;by_cases f:q<n
 ·obtain⟨p,c,ep⟩:∃p,∃c:p<o.length,o[p]=(q:Int)+1:=by
   have:(q:Int)+1∈o:=h.po.mem_iff.mpr<|mU.mpr ⟨(),()⟩;obtain⟨p,c,ep⟩:=List.getElem_of_mem this;exact⟨p,c,ep⟩
  have e:=h.ou.2 p c;have d:=h'.ou.2 p c;rw[ep,show((q:Int)+1-1).toNat=q by lia]at e d;rw[e,d]
 ·rw[bQ (),bQ ()]
abbrev bk (o:ag):ag:=(List.range o.length).map λi:Nat=>((o.idxOf ((i:Int)+1):Nat):Int)+1
def nN{n:Nat}{o:ag}(h:o.Perm<|rg n):Two n o (bk o):=by
 have lo:o.length=n:=by rw[h.length_eq,Wd.j3]
 have nd:o.Nodup:=h.nodup_iff.mpr<|nJ _ _;have d:∀i,i<n->(i:Int)+1∈o:=λi hi=>h.mem_iff.mpr<|mU.mpr ⟨(),()⟩;have e:∀i,i<n->o.idxOf ((i:Int)+1)<n:=λi hi=>by rw[<- lo];exact fL.mpr (d i hi)
 have get:∀i (hi:i<n),o[o.idxOf<|(i:Int)+1]'(by rw[lo];exact e i hi)=(i:Int)+1:=λi hi=>jw _;refine⟨h,?_,?_,λp f=>?_⟩
 ·have p:=Am.xG (N:=n) (g:=λi=>o.idxOf<|(i:Int)+1) e λi j C B z=>by
   have a:=get i ();have b:=get j B;dsimp[z]at a;rw[b]at a
   lia
  have p2:=p.map λi:Nat=>(i:Int)+1;rw[bK]at p2;unfold bk;rw[lo];refine List.Perm.trans p2 ?_;have:(List.range n).map (λi:Nat=>(i:Int)+1)=rg n:=by
   apply cJ;intro q;rw[aX];by_cases c:q<n
   ·rw[dH c,Wd.sG c];rfl
   ·rw[bQ<|by rw[cI];lia,bQ<|by rw[Wd.j3];lia];rfl
  rw[this]
 ·unfold bk;rw[aI,cI]
 ·have m:=mU.mp<|h.mem_iff.mp<|eg f;have k:(o[p]-1).toNat<o.length:=()
  unfold bk;rw[aX,dH k];show some (((o.idxOf (((o[p]-1).toNat:Int)+1):Nat):Int)+1)=_;rw[show((o[p]-1).toNat:Int)+1=o[p]by lia,nd.idxOf_getElem]
def Dy{n:Nat}{o:ag}(h:o.Perm<|rg n):bk (bk o)=o:=nq (nN (nN h).pu) (nN h).flip
def uM{n:Nat}{o:ag}(h:o.Perm<|rg n):(bk o).Perm (rg n):=(nN h).pu
def Mp{n k:Nat}{o:ag}(h:o.Perm<|rg n)(h0:1<=k)(h1:k<n):bk (o.map<|Wd.sw k)=Wd.ex (bk o) k:=by
 have t:=(nN h).step h0 h1;exact nq (nN t.po) t
def Lj{n k:Nat}{o:ag}(h:o.Perm<|rg n)(h0:1<=k)(h1:k<n):bk (Wd.ex o k)=(bk o).map (Wd.sw k):=by
 have t:=((nN h).flip.step h0 h1).flip;exact nq (nN t.po) t
def wC{n k p:Nat}{o u:ag}(t:Two n o u)(h1:1<=k)(h2:k<=n)(hp:o.getD p 0=(k:Int))(hpn:p<n):u.getD (k-1) 0=(p:Int)+1:=by
 have lo:=t.lo;have lp:p<o.length:=()
 have:=t.ou.2 p lp;rw[Wd.kJ lp]at hp;rw[hp,show((k:Int)-1).toNat=k-1 by lia]at this;rw[aL,this];rfl
def nb{n k:Nat}{o:ag}(h:o.Perm<|rg n)(h0:1<=k)(h1:k<n):o.getD (k-1) 0≠o.getD k 0:=λz=>by
 have lo:o.length=n:=by rw[h.length_eq,Wd.j3]
 have nd:o.Nodup:=h.nodup_iff.mpr<|nJ _ _;rw[Wd.kJ (),Wd.kJ ()]at z;have:=(dB nd).mp z
 lia
abbrev Pr (o:ag)(k j:Nat):Prop:=(o.getD (k-1) 0=j/\o.getD k 0=(j:Int)+1)\/(o.getD (k-1) 0=(j:Int)+1/\o.getD k 0=j)
theorem ze{n k:Nat}{u:ag}(h:u.Perm<|rg n)(h0:1<=j)(h1:j<n):(Pr u j k->mq (u.map<|Wd.sw k) j=!mq u j)/\(¬Pr u j k->mq (u.map<|Wd.sw k) j=mq u j):=by
 have lu:u.length=n:=by rw[h.length_eq,Wd.j3]
 have e:=nb h h0 h1;have e1:(u.map<|Wd.sw k).getD (j-1) 0=Wd.sw k (u.getD (j-1) 0):=by
  rw[Wd.kJ<|by rw[aI];lia,Wd.kJ (),di]
 have e2:(u.map<|Wd.sw k).getD j 0=Wd.sw k (u.getD j 0):=by
  rw[Wd.kJ<|by rw[aI];lia,Wd.kJ (),di]
 unfold mq Pr;rw[e1,e2];generalize u.getD (j-1) 0=a at *
 generalize u.getD j 0=b at *
 constructor
 ·rintro(⟨d,c⟩|⟨d,c⟩)
  ·subst d;subst c;unfold Wd.sw;rw[aM rfl,aJ (),aM rfl,aW (),bq ()];rfl
  ·subst d;subst c;unfold Wd.sw;rw[aJ (),aM rfl,aM rfl,bq (),aW ()];rfl
 ·intro z;rw[gG];unfold Wd.sw;split<;>split<;>(try split)<;>(try split)<;>lia
def sM{n k:Nat}(t:Two n o u)(h0:1<=k)(h1:k<n)(h2:1<=j)(h3:j<n)(h:Pr o k j):Pr u j k:=by
 rcases h with⟨d,c⟩|⟨d,c⟩
 ·have a:=wC t h2 () d ();have b:=wC t (k:=j+1) () () (by rw[c];lia) h1;rw[jx]at b;exact .inl ⟨by rw[a];lia,by rw[b]⟩
 ·have a:=wC t (k:=j+1) () () (by rw[d];lia) (show k-1<n by lia);have b:=wC t h2 () c h1;rw[jx]at a;exact .inr ⟨by rw[b],by rw[a];lia⟩
def EL{n k:Nat}(t:Two n o u)(h0:1<=k)(h1:k<n)(h2:1<=j)(h3:j<n)(h:Pr o k j):mq u j=mq o k:=by
 have a:∀x y:ag,∀i m:Nat,x.getD (i-1) 0=(m:Int)->x.getD i 0=(m:Int)+1->mq x i=false:=λx y i m p q=>by
  unfold mq;rw[p,q];exact bq ()
 have b:∀x y:ag,∀i m:Nat,x.getD (i-1) 0=(m:Int)+1->x.getD i 0=(m:Int)->mq x i=true:=λx y i m p q=>by
  unfold mq;rw[p,q];exact aW ()
 rcases h with⟨d,c⟩|⟨d,c⟩
 ·rw[a o [] k j d c]
  rcases sM t h0 h1 h2 h3 (.inl ⟨d,c⟩)with⟨f,e⟩|⟨f,e⟩
  ·exact a u [] j k f e
  ·have:=wC t h2 () d ();lia
 ·rw[b o [] k j d c]
  rcases sM t h0 h1 h2 h3 (.inr ⟨d,c⟩)with⟨f,e⟩|⟨f,e⟩
  ·have:=wC t h2 () c h1;lia
  ·exact b u [] j k f e
abbrev L (j:Nat)(f:Fn):Fn:=λo t=>f (o.map<|Wd.sw j) t+if mq (bk o) j=true then dl (f o) t else 0
def AY{n k:Nat}{o:ag}(h:o.Perm<|rg n)(h0:1<=k)(h1:k<n)(hp:Pr o k j):o.map (Wd.sw j)=Wd.ex o k:=by
 have lo:o.length=n:=by rw[h.length_eq,Wd.j3]
 have nd:o.Nodup:=h.nodup_iff.mpr<|nJ _ _;apply cJ;intro p;rw[Wd.rD h0 (),aX];unfold Pr at hp;rw[Wd.kJ (),Wd.kJ ()]at hp;by_cases c1:p=k
 ·subst c1;rw[aM rfl,aH (),aH (),dz];congr 1;unfold Wd.sw
  rcases hp with⟨d,c⟩|⟨d,c⟩
  ·rw[d,c,aJ (),aM rfl]
  ·rw[d,c,aM rfl]
 ·rw[aJ c1];by_cases c2:p=k-1
  ·subst c2;rw[aM rfl,aH (),aH (),dz];congr 1;unfold Wd.sw
   rcases hp with⟨d,c⟩|⟨d,c⟩
   ·rw[d,c,aM rfl]
   ·rw[d,c,aJ (),aM rfl]
  ·rw[aJ c2];by_cases c3:p<o.length
   ·rw[aH c3,dz];congr 1;have e:o[p]≠o[k]:=λz=>c1<|(dB nd).mp z;have f:o[p]≠o[k-1]:=λz=>c2<|(dB nd).mp z;unfold Wd.sw
    rcases hp with⟨d,c⟩|⟨d,c⟩
    ·rw[aJ<|by rw[<- d];exact f,aJ<|by rw[<- c];exact e]
    ·rw[aJ<|by rw[<- c];exact e,aJ<|by rw[<- d];exact f]
   ·rw[bQ ()];rfl
def Ad(j:Nat)(o:ag):(o.map<|Wd.sw j).map (Wd.sw j)=o:=by
 rw[bK];have:(Wd.sw j ∘ Wd.sw j)=id:=funext λx=>by
  show Wd.sw j (Wd.sw j x)=x;unfold Wd.sw;split<;>(try split)<;>(try split)<;>lia
 rw[this,jP]
def comm{n k:Nat}(f:Fn){o:ag}(h:o.Perm<|rg n)(h0:1<=k)(h1:k<n)(h2:1<=j)(h3:j<n)(t:Int):X k (L j f) o t=L j (X k f) o t:=by
 have lo:o.length=n:=by rw[h.length_eq,Wd.j3]
 have d:=nN h;have e1:(Wd.ex o k).map (Wd.sw j)=Wd.ex (o.map<|Wd.sw j) k:=(Wd.ex_map _ h0 ()).symm;have e2:=Lj h h0 h1;have f1:=ze (k:=j) h h0 h1;have f2:=ze (k:=k) d.pu h2 h3;unfold X L dl;dsimp only;rw[e1,e2];by_cases c:Pr o k j
 ·have e:=sM d h0 h1 h2 h3 c;have e3:=AY h h0 h1 c;rw[f1.1 c,f2.1 e,EL d h0 h1 h2 h3 c,<- e3]
 ·have e:¬Pr (bk o) j k:=λz=>c<|sM d.flip h2 h3 h0 h1 z;rw[f1.2 c,f2.2 e]
  cases mq o k<;>cases mq (bk o) j
  ·dsimp[a_,bU]
  ·dsimp[a_,cK,bU];lia
  ·dsimp[a_,cK,bU];lia
  ·dsimp[cK];lia
abbrev lV (n:Nat)(f g:Fn):Prop:=∀o:ag,o.Perm (rg n)->∀t,f o t=g o t
def lV.refl{n:Nat}{f:Fn}:lV n f f:=λ_ _ _=>rfl
def lV.symm{n:Nat}{f g:Fn}(h:lV n f g):lV n g f:=λo p t=>(h o p t).symm
def lV.trans{n:Nat}{f g e:Fn}(h:lV n f g)(h':lV n g e):lV n f e:=λo p t=>(h o p t).trans<|h' o p t
def lH{n k:Nat}{o:ag}(h:o.Perm<|rg n)(h0:1<=k)(h1:k<n):(Wd.ex o k).Perm (rg n):=(Wd.EJ h0<|by rw[h.length_eq,Wd.j3];exact h1).trans h
def DE{n k:Nat}{o:ag}(h:o.Perm<|rg n)(h0:1<=k)(h1:k<n):(o.map<|Wd.sw k).Perm (rg n):=((nN h).step h0 h1).po
def M7{n k:Nat}{f g:Fn}(h:lV n f g)(h0:1<=k)(h1:k<n):lV n (X k f) (X k g):=λo p t=>by
 unfold X dl;rw[h _<|lH p h0 h1,h o p,h o p]
def aaa{n k:Nat}{f g:Fn}(h:lV n f g)(h0:1<=k)(h1:k<n):lV n (L k f) (L k g):=λo p t=>by
 unfold L dl;rw[h _<|DE p h0 h1,h o p,h o p]
abbrev Va (n:Nat)(w:ar):Prop:=∀k∈w,1<=k/\k<n
abbrev Xw (w:ar)(f:Fn):Fn:=w.foldl (λf k=>X k f) f
abbrev Lw (w:ar)(f:Fn):Fn:=w.foldl (λf k=>L k f) f
theorem t7{n:Nat}:∀{w:ar}{f g:Fn},Va n w->lV n f g->lV n (Xw w f) (Xw w g)
 | [],_,_,_,h=>h
 | k::w,_,_,v,h=>t7 (w:=w) (λj c=>v j<|aO _ c)<|M7 h (v k<|aK ..).1 (v k<|aK ..).2
theorem yN{n:Nat}:∀{w:ar}{f g:Fn},Va n w->lV n f g->lV n (Lw w f) (Lw w g)
 | [],_,_,_,h=>h
 | k::w,_,_,v,h=>yN (w:=w) (λj c=>v j<|aO _ c)<|aaa h (v k<|aK ..).1 (v k<|aK ..).2
theorem Qg{n:Nat}(h2:1<=j)(h3:j<n):∀{w:ar}{f:Fn},Va n w->lV n (Xw w<|L j f) (L j<|Xw w f)
 | [],_,_=>.refl
 | k::w,f,v=>by
  have v1:=v k<|aK ..;have v2:Va n w:=λj c=>v j (aO _ c)
  skip
  exact(t7 v2 λo p t=>comm f p v1.1 v1.2 h2 h3 t).trans (Qg h2 h3 v2)
theorem G7{n:Nat}{w:ar}(v:Va n w):∀{u:ar}{f:Fn},Va n u->lV n (Xw w<|Lw u f) (Lw u<|Xw w f)
 | [],_,_=>.refl
 | j::u,f,vu=>by
  have v1:=vu j<|aK ..;have v2:Va n u:=λi hi=>vu i (aO _ hi)
  skip
  exact(G7 v v2).trans (yN v2<|Qg v1.1 v1.2 v)
abbrev D (u:ag)(g:Int->Int):Fn:=λo t=>if o=u then g t else 0
def X_D{n k:Nat}{u:ag}(g:Int->Int)(hu:u.Perm<|rg n)(h0:1<=k)(h1:k<n):lV n (X k<|D u g) λo t=>D (Wd.ex u k) g o t+if mq u k=true then D u (dl g) o t else 0:=λo p t=>by
 have lo:o.length=n:=by rw[p.length_eq,Wd.j3]
 have lu:u.length=n:=by rw[hu.length_eq,Wd.j3]
 have d:Wd.ex o k=u ↔ o=Wd.ex u k:=⟨λz=>by rw[<- z,Fw.pN h0 ()],λz=>by rw[z,Fw.pN h0 ()]⟩;unfold X D dl;dsimp only;by_cases c:o=u
 ·subst c;rw[aM rfl,aM rfl,aM rfl];congr 1;by_cases c2:Wd.ex o k=o
  ·rw[aM c2,aM c2.symm]
  ·rw[aJ c2,aJ λz=>c2 z.symm]
 ·rw[aJ c,aJ c,aJ c];congr 1
  ·by_cases c2:Wd.ex o k=u
   ·rw[aM c2,aM<|d.mp c2]
   ·rw[aJ c2,aJ λz=>c2<|d.mpr z]
  ·split<;>split<;>rfl
def L_D{n k:Nat}{u:ag}(g:Int->Int)(hu:u.Perm<|rg n)(h0:1<=k)(h1:k<n):lV n (L k<|D u g) λo t=>D (u.map<|Wd.sw k) g o t+if mq (bk u) k=true then D u (dl g) o t else 0:=λo p t=>by
 have d:o.map (Wd.sw k)=u ↔ o=u.map (Wd.sw k):=⟨λz=>by rw[<- z,Ad],λz=>by rw[z,Ad]⟩;unfold L D dl;dsimp only;by_cases c:o=u
 ·subst c;rw[aM rfl,aM rfl,aM rfl];congr 1;by_cases c2:o.map (Wd.sw k)=o
  ·rw[aM c2,aM c2.symm]
  ·rw[aJ c2,aJ λz=>c2 z.symm]
 ·rw[aJ c,aJ c,aJ c];congr 1
  ·by_cases c2:o.map (Wd.sw k)=u
   ·rw[aM c2,aM<|d.mp c2]
   ·rw[aJ c2,aJ λz=>c2<|d.mpr z]
  ·split<;>split<;>rfl
def uh{l:ag}{k:Nat}(h:l.getD (k-1) 0<l.getD k 0):mq l k=false:=bq ()
theorem Si{n:Nat}{g:Int->Int}:∀{w:ar}{u:ag},u.Perm (rg n)->Wd.j_ u w->lV n (Xw w<|D u g) (D (Wd.led u w) g)
 | [],_,_,_=>.refl
 | k::w,u,hu,h=>by
  obtain⟨h1,h2,h3,c⟩:=h;have lu:u.length=n:=by rw[hu.length_eq,Wd.j3]
  have d:=lH hu h1 ();have e:lV n (X k<|D u g) (D (Wd.ex u k) g):=(X_D g hu h1 ()).trans λo p t=>by
   dsimp only;rw[uh h3,aJ<|by simp,cY]
  have v:Va n w:=λj f=>by
   have:=Wd.j_.valid c j f;rw[Wd.lJ,lu]at this;exact this
  skip
  exact(t7 v e).trans (Si d c)
theorem Ru{n:Nat}{g:Int->Int}:∀{w:ar}{u:ag},u.Perm (rg n)->Wd.j_ (bk u) w->∃v:ag,v.Perm (rg n)/\bk v=Wd.led (bk u) w/\lV n (Lw w<|D u g) (D v g)
 | [],u,hu,_=>⟨u,hu,rfl,.refl⟩
 | k::w,u,hu,h=>by
  obtain⟨h1,h2,h3,c⟩:=h;have m:(bk u).length=n:=by rw[(uM hu).length_eq,Wd.j3]
  have f:=DE hu h1 ();have d:bk (u.map<|Wd.sw k)=Wd.ex (bk u) k:=Mp hu h1 ();have e:lV n (L k<|D u g) (D (u.map<|Wd.sw k) g):=(L_D g hu h1 ()).trans λo p t=>by
   dsimp only;rw[uh h3,aJ<|by simp,cY]
  have v:Va n w:=λj q=>by
   have:=Wd.j_.valid c j q;rw[Wd.lJ,m]at this;exact this
  rw[<- d]at c;obtain⟨x,C,B,F⟩:=Ru (g:=g) f c;refine⟨x,C,?_,(yN v e).trans F⟩;rw[B,d];rfl
def mR(n:Nat):(rg n).Perm (rg n):=.refl _
theorem nk{n:Nat}:∀(m:Nat) {u:ag},u.Perm (rg n)->Iv.inv u=m->∃w,Wd.j_ (rg n) w/\Wd.led (rg n) w=u
 | 0,u,hu,hm=>by
  refine⟨[],trivial,(Fw.DT hu λk c=>?_).symm⟩;have:=Fw.oq c.1 c.2.1 c.2.2
  lia
 | m+1,u,hu,hm=>by
  obtain⟨k,c⟩:=Fw.J7 (l:=u) ();have lu:u.length=n:=by rw[hu.length_eq,Wd.j3]
  have d:=Fw.oq c.1 c.2.1 c.2.2;obtain⟨w,h1,h2⟩:=nk m (lH hu c.1<|by rw[<- lu];exact c.2.1) ();obtain⟨e1,e2⟩:=Su.MM (o:=u) c.1 c.2.1;refine⟨w++[k],Wd.j_.snoc h1 c.1 (by rw[Wd.j3,<- lu];exact c.2.1)<|by rw[h2,e1,e2];exact c.2.2,?_⟩;rw[Wd.uD,h2];exact Fw.pN c.1 c.2.1
def Dw(n:Nat):bk (rg n)=rg n:=by
 refine nq (nN<|mR n) ⟨mR n,mR n,rfl,λp d=>?_⟩;have c:p<n:=by rw[Wd.j3]at d;exact d
 have e:=Wd.sG c;rw[aH d]at e;have e:=aZ e;rw[show((rg n)[p]-1).toNat=p by rw[e];lia];exact Wd.sG c
def Em{n:Nat}{u:ag}(hu:u.Perm<|rg n):∃v,Va n v/\∀g,lV n (Lw v<|D (rg n) g) (D u g):=by
 obtain⟨w,h1,h2⟩:=nk _ (uM hu) rfl;have v:Va n w:=λk e=>by have:=Wd.j_.valid h1 k e;rwa [Wd.j3]at this
 refine⟨w,v,λg=>?_⟩;have c:Wd.j_ (bk<|rg n) w:=by rw[Dw];exact h1
 obtain⟨x,f,d,j⟩:=Ru (g:=g) (mR n) c;rw[Dw,h2]at d;have:x=u:=by rw[<- Dy f,d,Dy hu]
 rw[<- this];exact j
def IM{n:Nat}{w:ar}(h:Wd.j_ (rg n) w)(h':Wd.j_ (rg n) w')(e:Wd.led (rg n) w=Wd.led (rg n) w'){u:ag}(hu:u.Perm<|rg n)(g:Int->Int):lV n (Xw w<|D u g) (Xw w'<|D u g):=by
 obtain⟨v,v1,v2⟩:=Em hu;have a:∀{w:ar},Wd.j_ (rg n) w->lV n (Xw w<|D u g) (Lw v<|D (Wd.led (rg n) w) g):=λ{w} h=>by
  have vw:Va n w:=λk c=>by have:=Wd.j_.valid h k c;rwa [Wd.j3]at this
  exact(t7 vw (v2 g).symm).trans ((G7 vw v1).trans<|yN v1<|Si (mR n) h)
 refine(a h).trans ?_;rw[e];exact(a h').symm
abbrev add (f g:Fn):Fn:=λo t=>f o t+g o t
def P6(k:Nat)(f g:Fn):X k (add f g)=add (X k f) (X k g):=by
 funext o t
 unfold X add dl;dsimp only;split<;>lia
theorem xr:∀(w:ar) (f g:Fn),Xw w (add f g)=add (Xw w f) (Xw w g)
 | [],_,_=>rfl
 | k::w,f,g=>by
  show Xw w (X k<|add f g)=_;rw[P6,xr w];rfl
def IA(k:Nat):X k (λ_ _=>0)=λ_ _=>0:=by
 funext o t
 unfold X dl;split<;>rfl
theorem uE:∀w:ar,Xw w (λ_ _=>0)=λ_ _=>0
 | []=>rfl
 | k::w=>by
  show Xw w (X k _)=_;rw[IA,uE w]
def Vr(e:ag×Po.Pl)(l:Su.Ps):Su.cS (e::l)=add (D e.1<|Po.cf e.2) (Su.cS l):=by
 funext o t
 show(if e.1=o then _ else _)+_=(if o=e.1 then _ else _)+_;by_cases c:e.1=o
 ·rw[aM c,aM c.symm]
 ·rw[aJ c,aJ λz=>c z.symm]
theorem Sj{n:Nat}{w:ar}(h:Wd.j_ (rg n) w)(h':Wd.j_ (rg n) w')(e:Wd.led (rg n) w=Wd.led (rg n) w'):∀{l:Su.Ps},(∀x∈l,x.1.Perm<|rg n)->lV n (Xw w<|Su.cS l) (Xw w'<|Su.cS l)
 | [],_=>by
  have z:Su.cS []=λ_ _=>0:=rfl;rw[z,uE,uE];exact .refl
 | x::l,hx=>by
  rw[Vr,xr,xr];intro o p t;unfold add;rw[IM h h' e (hx x<|aK ..) _ o p t,Sj h h' e (λy c=>hx y<|aO _ c) o p t]
def abb{n k:Nat}{l:Su.Ps}(h:∀x∈l,x.1.Perm<|rg n)(h0:1<=k)(h1:k<n):lV n (Su.cS<|Su.bx k l) (X k<|Su.cS l):=λo p t=>by
 have c:∀{x:ag},x.Perm (rg n)->Su.Go n k x:=λ{x} hx=>⟨by rw[hx.length_eq,Wd.j3],nb hx h0 h1⟩;unfold Su.bx;rw[Su.ID<|Su.Gd.nil.adds _,Su.P_];show 0+_=_;rw[cL,Su.Xo h0 h1 (λe d=>c<|h e d) t<|c p];rfl
end He
namespace He
open PySem L2 Am Po
open Fw (Two rg xH)
open Su (mq Ps cS)
abbrev cv:Pl->(Int->Int)->Int->Int
 | [],_,_=>0
 | q::p,g,t=>q.2 * g (t-q.1)+cv p g t
def YT(p:Pl)(g h:Int->Int)(t:Int):cv p (λt=>g t+h t) t=cv p g t+cv p h t:=by
 induction p with
 | nil=>rfl
 | cons q p c=>
  show q.2 * (g (t-q.1)+h (t-q.1))+cv p _ t=(q.2 * g (t-q.1)+cv p g t)+(q.2 * h (t-q.1)+cv p h t);rw[c,Int.mul_add];lia
def Ke(p:Pl)(t:Int):cv p (λ_=>0) t=0:=by
 induction p with
 | nil=>rfl
 | cons q p c=>
  show q.2 * 0+cv p _ t=0;rw[c,jI];rfl
def Yt(p q:Pl)(t:Int):cf (times p q) t=cv p (cf q) t:=by
 rw[Su.vL]
 induction p with
 | nil=>rfl
 | cons a p c=>
  show cf ((q.map λb=>(a.1+b.1,a.2 * b.2))++C5 p q) t=_;rw[Su.Jy,Su.HM,c];rfl
abbrev CO (p:Pl)(f:Fn):Fn:=λo t=>cv p (f o) t
abbrev sw (n:Nat)(o:ag):ar:=by
 classical
 exact if h:o.Perm (rg n)then(nk _ h rfl).choose else[]
def yu{n:Nat}{o:ag}(h:o.Perm<|rg n):Wd.j_ (rg n) (sw n o)/\Wd.led (rg n) (sw n o)=o:=by
 unfold sw;rw[dif_pos h];exact(nk _ h rfl).choose_spec
def Xg{n:Nat}{o:ag}(h:o.Perm<|rg n):Va n (sw n o):=λk c=>by have:=Wd.j_.valid (yu h).1 k c;rwa [Wd.j3]at this
abbrev RG (G:ag->Fn):Ps->Fn
 | []=>λ_ _=>0
 | e::m=>add (CO e.2<|G e.1)<|RG G m
abbrev R (n:Nat)(m:Ps)(f:Fn):Fn:=RG (λo=>Xw (sw n o) f) m
def X_X{n k:Nat}(h0:1<=k)(h1:k<n)(f:Fn):lV n (X k<|X k f) λo t=>f o t+dl (X k f o) t:=λo p t=>by
 have lo:o.length=n:=by rw[p.length_eq,Wd.j3]
 have c:Su.Go n k o:=⟨lo,nb p h0 h1⟩;obtain⟨_,hf⟩:=c.ex h0 h1;unfold X dl;dsimp only;rw[Fw.pN h0 (),hf]
 cases mq o k with
 | true=>dsimp[b_,a_,bU,cK];lia
 | false=>dsimp[cP,a_,bU,cK];lia
def Vz{n:Nat}{f g:Fn}(p:Pl)(h:lV n f g):lV n (CO p f) (CO p g):=λo c t=>by
 show cv p (f o) t=cv p (g o) t;rw[show f o=g o from funext λt=>h o c t]
def Yn{n k:Nat}{m:Ps}(h0:1<=k)(h1:k<n)(hm:∀x∈m,x.1.Perm<|rg n):∀x∈Su.bx k m,x.1.Perm (rg n):=Su.yr (P:=λo=>o.Perm<|rg n) (Su.wR (P:=λo=>o.Perm<|rg n) _ (nofun) λx c=>by
 obtain⟨f,hf,c⟩:=fW.mp c
 rcases bB.mp c with z|z
 ·rw[z];exact lH (hm f hf) h0 h1
 ·split at z
  ·rw[aS.mp z];exact hm f hf
  ·cases z)
abbrev YA (p:Pl)(l:Ps):Ps:=l.map λx=>(x.1,times p x.2)
def SY(p:Pl)(l:Ps):cS (YA p l)=CO p (cS l):=by
 funext o t
 induction l with
 | nil=>exact(Ke p t).symm
 | cons e l d=>
  show(if e.1=o then cf (times p e.2) t else 0)+cS (YA p l) o t=cv p (λt=>(if e.1=o then cf e.2 t else 0)+cS l o t) t;rw[YT,d];congr 1;by_cases c:e.1=o
  ·rw[aM c,Yt,show(λt=>if e.1=o then cf e.2 t else 0)=cf e.2 from funext λt=>aM c]
  ·rw[aJ c,show(λt=>if e.1=o then cf e.2 t else(0:Int))=λ_=>0 from funext λt=>aJ c,Ke]
def off{n:Nat}{m:Ps}(hm:∀x∈m,x.1.Perm<|rg n){o:ag}(h:¬o.Perm (rg n))(t:Int):cS m o t=0:=Su.Ka λe c z=>h<|by rw[<- z];exact hm e c
def ZZ{n:Nat}{m m':Ps}(hm:∀x∈m,x.1.Perm<|rg n)(hm':∀x∈m',x.1.Perm<|rg n)(h:lV n (cS m)<|cS m'):∀o t,cS m o t=cS m' o t:=λo t=>by
 by_cases c:o.Perm (rg n)
 ·exact h o c t
 ·rw[off hm c,off hm' c]
abbrev B (f:Fn):Fn:=λo=>f<|bk o
abbrev d0:Int->Int:=λt=>if t=0 then 1 else 0
end He
namespace He
open PySem L2 Am Po
open Fw (Two rg xH)
open Su (mq Ps cS Gd vS toS adds bx)
def QY{D:Ps}(h:Gd D){e:ag×Pl}(he:e∈D):vS D e.1=e.2:=by
 rcases Su.w9 (D:=D) (o:=e.1)with⟨c,h1,h2,h3⟩|⟨h1,_⟩
 ·rw[h3,Ep h.nd c h1 e he h2]
 ·exact absurd (fP he) h1
def HF{D:Ps}(h:Gd D):(D.map Prod.fst).map (λk=>(k,vS D k))=D:=by
 rw[bK]
 conv=>rhs;rw[<- jP D]
 exact dj λe c=>by
  show(e.1,vS D e.1)=e;rw[QY h c]
def B0{D:Ps}(h:Gd D)(o:ag)(t:Int):cS D o t=cf (vS D o) t:=by
 conv=>lhs;rw[<- HF h]
 rw[Su.Jr h.nd];split
 ·rfl
 ·rename_i c
  rcases Su.w9 (D:=D) (o:=o)with⟨e,h1,h2,_⟩|⟨_,h2⟩
  ·exact absurd (h2 ▸ fP h1) c
  ·rw[h2];rfl
def Jc{D:Ps}(h:Gd D):Gd (toS D):=by
 refine⟨?_,λe c=>?_⟩
 ·unfold toS;rw[bK,show(Prod.fst ∘ λo=>(o,vS D o))=id from rfl,jP];exact((kP _).nodup_iff.mpr h.nd).filter _
 ·obtain⟨o,_,rfl⟩:=bI.mp c;exact h.v o
structure Cn (l:Ps):Prop where
 gd:Gd l
 eq:toS l=l
theorem Cn.toS{D:Ps}(h:Gd D):Cn (toS D):=⟨Jc h,Su.HH (Jc h) h λo t=>by rw[<- B0 (Jc h),Su.ID h]⟩
def Cn.uniq{l:Ps}(h:Cn l)(h':Cn m)(e:∀o t,cS l o t=cS m o t):l=m:=by
 rw[<- h.eq,<- h'.eq];exact Su.HH h.gd h'.gd λo t=>by rw[<- B0 h.gd,<- B0 h'.gd,e]
def T4{P:Ps}(h:Gd P)(hn:∀e∈P,e.2≠[]):Cg P=toS P:=by
 symm
 have all:(m7<|P.map Prod.fst).filter (λo=>!(vS P o).isEmpty)=m7 (P.map Prod.fst):=by
  rw[List.filter_eq_self];intro o d;obtain⟨e,c,rfl⟩:=bI.mp<|(kP _).mem_iff.mp d;rw[QY h c]
  cases f:e.2 with
  | nil=>exact absurd f (hn e c)
  | cons=>rfl
 have ts:toS P=(m7<|P.map Prod.fst).map λo=>(o,vS P o):=by unfold toS;rw[all]
 refine Ih h.nd ?_ ?_
 ·rw[ts];have:=(kP<|P.map Prod.fst).map λo=>(o,vS P o)
  rwa [HF h]at this
 ·rw[ts,bK,show(Prod.fst ∘ λo=>(o,vS P o))=id from rfl,jP];exact vt _
def acP(k:Nat)(l:Ps):Cn (bx k l):=.toS<|Gd.nil.adds _
def Fj(l:Ps)(o:ag)(t:Int):cS (toS<|adds [] l) o t=cS l o t:=by
 rw[Su.ID<|Gd.nil.adds _,Su.P_];exact cL _
def Vb{n:Nat}{a b:Ps}(ha:Cn a)(hb:Cn b)(pa:∀x∈a,x.1.Perm<|rg n)(pb:∀x∈b,x.1.Perm<|rg n)(h:lV n (cS a)<|cS b):a=b:=ha.uniq hb<|ZZ pa pb h
abbrev Nd (l m:Ps):Ps:=toS<|adds []<|l++m
def VS{n:Nat}{l m:Ps}(pl:∀x∈l,x.1.Perm<|rg n)(pm:∀x∈m,x.1.Perm<|rg n):Cn (Nd l m)/\(∀x∈Nd l m,x.1.Perm<|rg n)/\cS (Nd l m)=add (cS l) (cS m):=
 ⟨.toS<|Gd.nil.adds _,Su.yr (P:=λo=>o.Perm<|rg n)<|Su.wR (P:=λo=>o.Perm<|rg n) _ (nofun) λx c=>(bG.mp c).elim (pl x)<|pm x,funext λo=>funext λt=>by
  show cS (toS<|adds []<|l++m) o t=_;rw[Fj,Su.Ju];rfl⟩
abbrev one (n:Nat):Ps:=[(rg n,[((0:Int),(1:Int))])]
def Ph(o:ag){p:Pl}(hp:Ok p)(h0:p≠[]):Cn [(o,p)]:=by
 have g:Gd [(o,p)]:=⟨c5.mpr ⟨(λz=>nomatch z),dR⟩,λe c=>by rw[aS.mp c];exact hp⟩;exact⟨g,(T4 g λe c=>by rw[aS.mp c];exact h0).symm⟩
def TM:Ok [((0:Int),(1:Int))]:=⟨cg _ _,λp c=>by rw[aS.mp c];decide⟩
def Il(n:Nat):∀x∈one n,x.1.Perm (rg n):=λx c=>by rw[aS.mp c]
end He
namespace He
open PySem L2 Am Po
open Fw (Two rg xH)
open Su (mq Ps cS Gd vS toS adds bx)
abbrev arr:Nat->ag->List (ag)
 | 0,_=>[[]]
 | m+1,l=>l.flatMap λx=>(arr m<|l.erase x).map (x::·)
theorem MS:∀{m:Nat}{l o:ag},o.Perm l->l.length=m->o∈arr m l
 | 0,l,o,p,h=>by
  have:l=[]:=eL.mp h;subst this;rw[p.eq_nil];exact aS.mpr rfl
 | m+1,l,[],p,h=>by rw[<- p.length_eq]at h;cases h
 | m+1,l,x::o,p,h=>by
  obtain⟨h1,h2⟩:=List.cons_perm_iff_perm_erase.mp p;refine fW.mpr ⟨x,h1,bI.mpr ⟨o,MS h2 ?_,rfl⟩⟩;rw[List.length_erase_of_mem h1,h];rfl
def NN{α:Type}[DecidableEq α]{ks L:List α}(nd:ks.Nodup)(h:∀x∈ks,x∈L):ks.length<=L.length:=by
 have:=pig L.length (ks.map λx=>L.idxOf x) ?_ λi hi=>?_
 ·rwa [aI]at this
 ·refine cO.mpr<|nd.imp_of_mem λ{a b} ha hb hab z=>hab ?_;have e1:=jw<|fL.mpr<|h a ha;have e2:=jw<|fL.mpr<|h b hb;rw[<- e1,<- e2];congr 1
 ·obtain⟨x,c,rfl⟩:=bI.mp hi;exact fL.mpr<|h x c
def U8:∀n,n<6->(arr n<|rg n).length<=120:=by decide +kernel
def many{n:Nat}(hn:n<6){ks:List<|ag}(nd:ks.Nodup)(h:∀o∈ks,o.Perm<|rg n):ks.length<=120:=
 bH (NN nd λo c=>MS (h o c)<|Wd.j3 n) (U8 n hn)
structure FB (n P C:Nat)(f:Fn):Prop where
 c:∀o,o.Perm (rg n)->∀t,(f o t).natAbs<=C
 p:∀o,o.Perm (rg n)->∀t:Int,P<t.natAbs->f o t=0
def FB.mono{n P:Nat}{f:Fn}(h:FB n P C f)(hp:P<=P')(hc:C<=C'):FB n P' C' f:=⟨λo d t=>bH (h.c o d t) hc,λo d t e=>h.p o d t ()⟩
def FB.eq{n P:Nat}{f g:Fn}(h:FB n P C f)(e:lV n g f):FB n P C g:=⟨λo d t=>by rw[e o d t];exact h.c o d t,λo d t j=>by rw[e o d t];exact h.p o d t j⟩
theorem FB.X{n P k:Nat}{f:Fn}(h:FB n P C f)(h0:1<=k)(h1:k<n):FB n (P+1) (3 * C) (X k f):=by
 refine⟨λo e t=>?_,λo e t g=>?_⟩
 ·have a:=h.c _ (lH e h0 h1) t;have b:=h.c o e<|t+1;have d:=h.c o e<|t-1;unfold He.X dl;split<;>omega
 ·have a:=h.p _ (lH e h0 h1) t (by omega);have b:=h.p o e (t+1) (by omega);have d:=h.p o e (t-1) (by omega);unfold He.X dl;split<;>omega
theorem FB.add{n P:Nat}{f g:Fn}(h:FB n P C f)(h':FB n P C' g):FB n P (C+C') (add f g):=by
 refine⟨λo d t=>?_,λo d t e=>?_⟩
 ·have a:=h.c o d t;have b:=h'.c o d t;show(f o t+g o t).natAbs<=_;omega
 ·show f o t+g o t=0;rw[h.p o d t e,h'.p o d t e];rfl
structure PB (Q c:Nat)(p:Pl):Prop where
 c:∀q∈p,q.2.natAbs<=c
 p:∀q∈p,q.1.natAbs<=Q
theorem ZA{n P c:Nat}{f:Fn}(h:FB n P C f){o:ag}(po:o.Perm<|rg n):∀{p:Pl},PB Q c p->(∀t,(cv p (f o) t).natAbs<=p.length * (c * C))/\∀t:Int,P+Q<t.natAbs->cv p (f o) t=0
 | [],_=>⟨λ_=>bY _,λ_ _=>rfl⟩
 | q::p,b=>by
  obtain⟨k,e⟩:=ZA h po (p:=p) ⟨λx d=>b.c x<|aO _ d,λx d=>b.p x<|aO _ d⟩;have g:=b.c q<|aK ..;have m:=b.p q<|aK ..;refine⟨λt=>?_,λt j=>?_⟩
  ·show(q.2 * f o (t-q.1)+cv p (f o) t).natAbs<=(p.length+1) * (c * C);refine bH (Int.natAbs_add_le _ _) ?_;rw[jN,fC,add_comm];exact Nat.add_le_add (k t) (eG g<|h.c o po _)
  ·show q.2 * f o (t-q.1)+cv p (f o) t=0;rw[e t j,h.p o po _<|by omega,jI];rfl
theorem FB.CO{n P c:Nat}{f:Fn}(h:FB n P C f){p:Pl}(b:PB Q c p):FB n (P+Q) (p.length * (c * C)) (CO p f):=⟨λo d t=>(ZA h d b).1 t,λo d t e=>(ZA h d b).2 t e⟩
theorem rB:∀{w:ar}{l:ag},Wd.j_ l w->Iv.inv (Wd.led l w)=Iv.inv l+w.length
 | [],_,_=>rfl
 | k::w,l,h=>by
  have:=rB h.2.2.2;rw[Fw.BR h.1 h.2.1 h.2.2.1]at this;show Iv.inv (Wd.led (Wd.ex l k) w)=_+(w.length+1)
  lia
def B_{n:Nat}{o:ag}(h:o.Perm<|rg n):(sw n o).length=Iv.inv o:=by
 obtain⟨a,b⟩:=yu h;have:=rB a;rw[b,Fw.xy]at this
 lia
def Qe{n:Nat}(hn:n<6){o:ag}(h:o.Perm<|rg n):Iv.inv o<=25:=by
 have:=Iv.IW o;rw[h.length_eq,Wd.j3]at this;exact bH this<|eG (show n<=5 by lia)<|show n<=5 by lia
def FB.zero(n P C:Nat):FB n P C λ_ _=>0:=⟨λ_ _ _=>bY _,λ_ _ _ _=>rfl⟩
theorem Q2:∀{l:Pl}{a b:Int},l.Pairwise (λp q=>p.1<q.1)->(∀p∈l,a<=p.1/\p.1<=b)->l.length<=(b-a+1).toNat
 | [],_,_,_,_=>bY _
 | p::l,a,b,h,hb=>by
  obtain⟨h1,h2⟩:=bV.mp h;have p1:=hb p<|aK ..;have i:=Q2 (l:=l) (a:=a+1) (b:=b) h2 λq c=>by
   have:=h1 q c;have:=hb q (aO _ c)
   lia
  rw[bu]
  lia
def P4{p:Pl}{P c:Nat}(h:Ok p)(b:PB P c p):p.length<=2 * P+1:=by
 have:=Q2 (a:=-(P:Int)) (b:=P) h.up λq d=>by have:=b.p q d;omega
 omega
def FB.pb{n P:Nat}{l:Ps}(h:FB n P C<|cS l)(hc:Gd l)(pl:∀x∈l,x.1.Perm<|rg n){e:ag×Pl}(he:e∈l):PB P C e.2/\e.2.length<=2 * P+1:=by
 have ok:=hc.ok e he;have at_:∀q∈e.2,cS l e.1 q.1=q.2:=λq d=>by
  rw[B0 hc,QY hc he];exact Su.Ok.Ii ok d
 have b:PB P C e.2:=⟨λq d=>by rw[<- at_ q d];exact h.c _ (pl e he) _,λq d=>by
  refine iQ λz=>ok.nz q d ?_;rw[<- at_ q d];exact h.p _ (pl e he) _ z⟩
 exact⟨b,P4 ok b⟩
structure Sz (n P C:Nat)(l:Ps):Prop where
 cn:Cn l
 pm:∀x∈l,x.1.Perm (rg n)
 fb:FB n P C<|cS l
def Sz.pb{n P:Nat}{l:Ps}(h:Sz n P C l){e:ag×Pl}(he:e∈l):PB P C e.2/\e.2.length<=2 * P+1:=h.fb.pb h.cn.gd h.pm he
def Sz.many{n P:Nat}{l:Ps}(hn:n<6)(h:Sz n P C l):l.length<=120:=by
 have:=He.many hn h.cn.gd.nd λo d=>by obtain⟨e,c,rfl⟩:=bI.mp d;exact h.pm e c
 rwa [aI]at this
def Sz.mono{n P:Nat}{l:Ps}(h:Sz n P C l)(hp:P<=P')(hc:C<=C'):Sz n P' C' l:=⟨h.cn,h.pm,h.fb.mono hp hc⟩
theorem Sz.bx{n P k:Nat}{l:Ps}(h:Sz n P C l)(h0:1<=k)(h1:k<n):Sz n (P+1) (3 * C) (bx k l):=⟨acP _ _,Yn h0 h1 h.pm,(h.fb.X h0 h1).eq<|abb h.pm h0 h1⟩
end He
namespace Su
open Am Po PySem L2
def NJ{D:Es}{r:Nat}{p:Pl}:∃e,fE (r_ D o r p) o=some e/\e.2.1=r:=by
 unfold r_;by_cases c:(fE D o).isSome=true
 ·rw[aM c];obtain⟨e,d⟩:=fJ.mp c;unfold fE at d ⊢;rw[jv];have eq:((λe:En=>decide<|e.1=o) ∘ λe:En=>if e.1=o then(e.1,r,p)else e)=λe:En=>decide (e.1=o):=by
   funext x
   show decide ((if x.1=o then(x.1,r,p)else x).1=o)=_;by_cases z:x.1=o
   ·rw[aM z]
   ·rw[aJ z]
  rw[eq,d];have:=je d;have:=bN this;exact⟨_,rfl,by show(if e.1=o then(e.1,r,p)else e).2.1=r;rw[aM this]⟩
 ·rw[aJ c];have c:fE D o=none:=Option.not_isSome_iff_eq_none.mp c;unfold fE at c ⊢;rw[List.find?_append,c];exact⟨(o,r,p),by rw[cC,aW rfl];rfl,rfl⟩
end Su
namespace He
open PySem L2 Am Po
open Fw (Two rg xH)
open Su (mq Ps cS Gd vS toS adds bx)
def Sz.of{n P:Nat}{l:Ps}(h:Cn l)(pm:∀x∈l,x.1.Perm<|rg n)(pb:∀e∈l,PB P C e.2):Sz n P C l:=by
 refine⟨h,pm,⟨λo j t=>?_,λo j t k=>?_⟩⟩
 ·rw[B0 h.gd]
  rcases Su.w9 (D:=l) (o:=o)with⟨e,h1,_,h3⟩|⟨_,h2⟩
  ·rw[h3];exact Su.acJ (h.gd.ok e h1) (λq d=>(pb e h1).c q d) t
  ·rw[h2];exact bY _
 ·rw[B0 h.gd]
  rcases Su.w9 (D:=l) (o:=o)with⟨e,h1,_,h3⟩|⟨_,h2⟩
  ·rw[h3];have:∀q∈e.2,q.1≠t:=λq d z=>by have:=(pb e h1).p q d;rw[z]at this;lia
   clear h3;revert this;generalize e.2=p0;intro this
   induction p0 with
   | nil=>rfl
   | cons q p f=>
    have z:=this q<|aK ..;have i:=f λx g=>this x<|aO _ g;show(if q.1=t then q.2 else 0)+cf p t=0;rw[aJ z,i];rfl
  ·rw[h2];rfl
theorem PB.times{P c:Nat}{p q:Pl}(hp:PB P C p)(hq:PB Q c q):(times p q).length<=2 * (P+Q)+1:=by
 refine P4 (c:=p.length * q.length * (C * c)) (Po.qA p q) ⟨λx g=>?_,λx g=>?_⟩
 ·have a:=Su.Ok.Ii (Po.qA p q) g;rw[Su.vL]at a;rw[<- a,<- Po.yJ];have:∀l:Pl,Bd (C * c) l->(cf l x.1).natAbs<=l.length * (C * c):=λl=>by
   induction l with
   | nil=>exact λ_=>bY _
   | cons y l k=>
    intro e;have i:=k λz d=>e z<|aO _ d;have j:=e y<|aK ..;show((if y.1=x.1 then y.2 else 0)+cf l x.1).natAbs<=(l.length+1) * (C * c);rw[fC];split<;>omega
  exact this _<|Bd.C5 (λz d=>hp.c z d) λz d=>hq.c z d
 ·refine iQ λz=>(Po.qA p q).nz x g ?_;rw[<- Su.Ok.Ii (Po.qA p q) g,Su.vL];have:∀l:Pl,(∀y∈l,y.1.natAbs<=P+Q)->cf l x.1=0:=λl=>by
   induction l with
   | nil=>exact λ_=>rfl
   | cons y l k=>
    intro e;have i:=k λz d=>e z<|aO _ d;have j:=e y<|aK ..;show(if y.1=x.1 then y.2 else 0)+cf l x.1=0;rw[i,aJ λw=>by rw[w]at j;omega];rfl
  refine this _ λy f=>?_;unfold C5 at f;obtain⟨u,m,f⟩:=fW.mp f;obtain⟨v,hv,rfl⟩:=bI.mp f;have:=hp.p u m;have:=hq.p v hv
  skip
  omega
end He
namespace He
open PySem L2 Am Po
open Fw (Two rg xH)
open Su (mq Ps cS Gd vS toS adds bx)
theorem Bv{n:Nat}:∀{w:ar}{l:ag},l.Perm (rg n)->Va n w->Iv.inv (Wd.led l w)<=Iv.inv l+w.length/\(Iv.inv (Wd.led l w)=Iv.inv l+w.length->Wd.j_ l w)
 | [],l,_,_=>⟨aP _,λ_=>trivial⟩
 | k::w,l,p,v=>by
  have v1:=v k<|aK ..;have m:l.length=n:=by rw[p.length_eq,Wd.j3]
  obtain⟨e,d⟩:=Bv (w:=w) (lH p v1.1 v1.2) λj f=>v j<|aO _ f;have e:Iv.inv (Wd.led l (k::w))<=Iv.inv (Wd.ex l k)+w.length:=e;have d:Iv.inv (Wd.led l (k::w))=Iv.inv (Wd.ex l k)+w.length->Wd.j_ (Wd.ex l k) w:=d;rw[bu]
  rcases lt_or_ge 0 0 with z|_
  ·lia
  ·by_cases c:l.getD (k-1) 0<l.getD k 0
   ·have u:=Fw.BR v1.1 () c;exact⟨(),λh=>⟨v1.1,(),c,d ()⟩⟩
   ·have g:=nb p v1.1 v1.2;have u:=Fw.oq v1.1 () (show l.getD k 0<l.getD (k-1) 0 by lia);exact⟨(),λh=>absurd h ()⟩
theorem zD{n:Nat}:∀{w:ar}{l:ag},l.Perm (rg n)->Va n w->(Wd.led l w).Perm (rg n)
 | [],_,p,_=>p
 | k::w,l,p,v=>zD (w:=w) (lH p (v k<|aK ..).1 (v k<|aK ..).2) λj c=>v j<|aO _ c
end He
namespace He
open PySem L2 Am Po
open Fw (Two rg xH)
open Su (mq Ps cS Gd vS toS adds bx)
def uL{n:Nat}{w:ar}(h:Wd.j_ (rg n) w):Wd.j_ (rg n) w.reverse:=by
 have va:Va n w:=λk f=>by have:=Wd.j_.valid h k f;rwa [Wd.j3]at this
 have d:Va n w.reverse:=λk f=>va k<|dX.mp f;have pr:=zD (mR n) d;obtain⟨q,m⟩:=yu pr;have p:=Xg pr;have c:Va n (sw n<|Wd.led (rg n) w.reverse).reverse:=λk f=>p k<|dX.mp f;have g:=Wd.mh (sw n<|Wd.led (rg n) w.reverse).reverse c;rw[fG,m]at g;have e:=nq ⟨pr,zD (mR n) c,g⟩ ⟨pr,zD (mR n) va,Wd.mh w va⟩;have j:=(Bv (mR n) c).1;rw[e,Fw.xy,fQ,B_ pr]at j;have B:=rB h;have C:=(Bv (mR n) d).1;refine(Bv (mR n) d).2 ?_;rw[Fw.xy,fQ]at *
 lia
abbrev Y (k:Nat)(f:Fn):Fn:=λo t=>X k f o t-dl (f o) t
abbrev Yw (w:ar)(f:Fn):Fn:=w.foldl (λf k=>Y k f) f
def ad_{n k:Nat}{f g:Fn}(h:lV n f g)(h0:1<=k)(h1:k<n):lV n (Y k f) (Y k g):=λo p t=>by
 unfold Y;rw[M7 h h0 h1 o p t,show f o=g o from funext λt=>h o p t]
theorem KD{n:Nat}:∀{w:ar}{f g:Fn},Va n w->lV n f g->lV n (Yw w f) (Yw w g)
 | [],_,_,_,h=>h
 | k::w,f,g,v,h=>KD (w:=w) (λj c=>v j<|aO _ c)<|ad_ h (v k<|aK ..).1 (v k<|aK ..).2
def aej(k:Nat)(f:Fn)(o:ag)(t:Int):X k (λo t=>dl (f o) t) o t=dl (X k f o) t:=by
 unfold X dl;dsimp only;split<;>lia
def ab9(k:Nat)(f g:Fn)(o:ag)(t:Int):X k (λo t=>f o t-g o t) o t=X k f o t-X k g o t:=by
 unfold X dl;dsimp only;split<;>lia
def X_Y{n k:Nat}(h0:1<=k)(h1:k<n)(f:Fn):lV n (X k<|Y k f) f:=λo p t=>by
 have a:X k (Y k f) o t=X k (X k f) o t-X k (λo t=>dl (f o) t) o t:=ab9 k (X k f) (λo t=>dl (f o) t) o t;rw[a,X_X h0 h1 f o p t,aej];dsimp only
 lia
def Y_X{n k:Nat}(h0:1<=k)(h1:k<n)(f:Fn):lV n (Y k<|X k f) f:=λo p t=>by
 show X k (X k f) o t-dl (X k f o) t=_;rw[X_X h0 h1 f o p t];dsimp only
 lia
def Vh(w:ar)(k:Nat)(f:Fn):Yw (w++[k]) f=Y k (Yw w f):=by unfold Yw;rw[cR];rfl
def yf(w:ar)(k:Nat)(f:Fn):Xw (w++[k]) f=X k (Xw w f):=by unfold Xw;rw[cR];rfl
theorem abP{n:Nat}:∀{w:ar}{f:Fn},Va n w->lV n (Xw w.reverse<|Yw w f) f
 | [],_,_=>.refl
 | k::w,f,v=>by
  have v1:=v k<|aK ..;rw[eO,yf];exact(M7 (abP (w:=w) (f:=Y k f) λj c=>v j<|aO _ c) v1.1 v1.2).trans (X_Y v1.1 v1.2 f)
theorem abQ{n:Nat}:∀{w:ar}{f:Fn},Va n w->lV n (Yw w<|Xw w.reverse f) f
 | [],_,_=>.refl
 | k::w,f,v=>by
  have v1:=v k<|aK ..;have v2:Va n w:=λj c=>v j<|aO _ c;rw[eO,yf]
  skip
  exact(KD v2<|Y_X v1.1 v1.2 _).trans (abQ v2)
abbrev LB:Pl:=[((-1:Int),(-1:Int)),((1:Int),(1:Int))]
def Xy(g:Int->Int)(t:Int):cv LB g t=- dl g t:=by
 show -1 * g (t - -1)+(1 * g (t-1)+0)=-(g (t+1)-g (t-1));rw[show t - -1=t+1 by lia];lia
abbrev UJ (p:Pl)(l:Ps):Ps:=toS<|adds []<|YA p l
def Pk(p:Pl)(l:Ps):cS (UJ p l)=CO p (cS l):=by
 funext o t
 unfold UJ;rw[Fj,SY]
def SO{n:Nat}{p:Pl}{l:Ps}(pl:∀x∈l,x.1.Perm<|rg n):Cn (UJ p l)/\∀x∈UJ p l,x.1.Perm (rg n):=
 ⟨.toS<|Gd.nil.adds _,Su.yr (P:=λo=>o.Perm<|rg n) (Su.wR (P:=λo=>o.Perm<|rg n) _ (nofun) λx c=>by
  obtain⟨y,d,rfl⟩:=bI.mp c;exact pl y d)⟩
abbrev yb (k:Nat)(l:Ps):Ps:=Nd (bx k l)<|UJ LB l
def Xk{n k:Nat}{l:Ps}(h0:1<=k)(h1:k<n)(pl:∀x∈l,x.1.Perm<|rg n):Cn (yb k l)/\(∀x∈yb k l,x.1.Perm<|rg n)/\lV n (cS<|yb k l) (Y k<|cS l):=by
 obtain⟨a,b,c⟩:=VS (Yn h0 h1 pl) (SO (p:=LB) pl).2;refine⟨a,b,λo p t=>?_⟩;show cS (Nd (bx k l)<|UJ LB l) o t=_;rw[c,Pk];show cS (bx k l) o t+cv LB (cS l o) t=X k (cS l) o t-dl (cS l o) t;rw[abb pl h0 h1 o p t,Xy];lia
abbrev Nr (w:ar)(l:Ps):Ps:=w.foldl (λl k=>yb k l) l
def Pc(w:ar)(k:Nat)(l:Ps):Nr (w++[k]) l=yb k (Nr w l):=by unfold Nr;rw[cR];rfl
theorem Iw{n:Nat}:∀{w:ar}{l:Ps},Va n w->Cn l->(∀x∈l,x.1.Perm<|rg n)->Cn (Nr w l)/\(∀x∈Nr w l,x.1.Perm<|rg n)/\lV n (cS<|Nr w l) (Yw w<|cS l)
 | [],_,_,c,p=>⟨c,p,.refl⟩
 | k::w,l,v,c,p=>by
  have v1:=v k<|aK ..;have v2:Va n w:=λj e=>v j<|aO _ e;obtain⟨B,d,f⟩:=Xk v1.1 v1.2 p;obtain⟨m,g,q⟩:=Iw v2 B d;exact⟨m,g,q.trans<|KD v2 f⟩
def abR{n:Nat}{w:ar}(h:Wd.j_ (rg n) w)(h':Wd.j_ (rg n) w')(e:Wd.led (rg n) w=Wd.led (rg n) w'){l:Ps}(hc:Cn l)(hl:∀x∈l,x.1.Perm<|rg n):lV n (Yw w<|cS l) (Yw w'<|cS l):=by
 have va:Va n w:=λk g=>by have:=Wd.j_.valid h k g;rwa [Wd.j3]at this
 have d:Va n w':=λk g=>by have:=Wd.j_.valid h' k g;rwa [Wd.j3]at this
 have f:Va n w.reverse:=λk g=>va k<|dX.mp g;have c:Va n w'.reverse:=λk g=>d k<|dX.mp g;obtain⟨_,m,j⟩:=Iw d hc hl;have B:=Wd.mh w va;have C:=Wd.mh w' d;have q:Wd.led (rg n) w.reverse=Wd.led (rg n) w'.reverse:=by
  have p:=zD (mR n) va;have c1:=Wd.mh w.reverse f;have c2:=Wd.mh w'.reverse c;rw[fG]at c1 c2;rw[<- e]at c2;exact nq ⟨p,zD (mR n) f,c1⟩ ⟨p,zD (mR n) c,c2⟩
 have s:lV n (Xw w.reverse<|Yw w'<|cS l) (cS l):=by
  refine(t7 f j.symm).trans ((Sj (uL h) (uL h') q m).trans<|(t7 c j).trans ?_);exact abP d
 exact(KD va s.symm).trans (abQ va)
abbrev bT (n:Nat)(o:ag):Fn:=Yw (sw n o)<|cS<|one n
def IP(n:Nat):Cn (one n):=Ph _ TM<|by simp
def ES{n:Nat}{o:ag}{w:ar}(po:o.Perm<|rg n)(h:Wd.j_ (rg n) w)(e:Wd.led (rg n) w=o):lV n (bT n o) (Yw w<|cS<|one n):=by
 obtain⟨a,b⟩:=yu po;exact abR a h (b.trans e.symm) (IP n)<|Il n
def abl{n k:Nat}{o:ag}(po:o.Perm<|rg n)(h0:1<=k)(h1:k<n)(hf:mq o k=false):lV n (bT n<|Wd.ex o k) (Y k<|bT n o):=by
 obtain⟨e,c⟩:=yu po;have f:=nb po h0 h1;have d:(Wd.led (rg n)<|sw n o).getD (k-1) 0<(Wd.led (rg n)<|sw n o).getD k 0:=by
  rw[c];have:=c_ hf
  lia
 have c1:Wd.j_ (rg n) (sw n o++[k]):=Wd.j_.snoc e h0 (by rw[Wd.j3];exact h1) d;have c2:Wd.led (rg n) (sw n o++[k])=Wd.ex o k:=by rw[Wd.uD,c];rfl
 have:=ES (lH po h0 h1) c1 c2;rw[Vh]at this;exact this
def Xr{n k:Nat}{o:ag}(po:o.Perm<|rg n)(h0:1<=k)(h1:k<n)(hf:mq o k=true):lV n (bT n o) (Y k<|bT n<|Wd.ex o k):=by
 have d:o.length=n:=by rw[po.length_eq,Wd.j3]
 have c:Su.Go n k o:=⟨d,nb po h0 h1⟩;have:=abl (lH po h0 h1) h0 h1 (by rw[(c.ex h0 h1).2,hf];rfl);rw[Fw.pN h0 ()]at this;exact this
abbrev Bt (n:Nat):Ps->Fn
 | []=>λ_ _=>0
 | e::m=>add (CO (turn e.2)<|bT n e.1)<|Bt n m
abbrev tO (n:Nat)(w:ar):Ps:=Nr w<|one n
def Gv{n:Nat}{o:ag}{w:ar}(po:o.Perm<|rg n)(h:Wd.j_ (rg n) w)(e:Wd.led (rg n) w=o):Cn (tO n w)/\(∀x∈tO n w,x.1.Perm<|rg n)/\lV n (cS<|tO n w) (bT n o):=by
 have va:Va n w:=λk d=>by have:=Wd.j_.valid h k d;rwa [Wd.j3]at this
 obtain⟨a,b,c⟩:=Iw va (IP n)<|Il n;exact⟨a,b,c.trans (ES po h e).symm⟩
structure Fwd (n:Nat)(W:ag->ar):Prop where
 r:∀o,o.Perm (rg n)->Wd.j_ (rg n) (W o)
 e:∀o,o.Perm (rg n)->Wd.led (rg n) (W o)=o
def Fwd.va{n:Nat}{W:ag->ar}(h:Fwd n W){o:ag}(po:o.Perm<|rg n):Va n (W o):=λk c=>by have:=Wd.j_.valid (h.r o po) k c;rwa [Wd.j3]at this
abbrev UE (n:Nat)(W:ag->ar)(m:Ps):Ps:=m.flatMap λe=>YA (turn e.2)<|tO n<|W e.1
abbrev tu (n:Nat)(W:ag->ar)(m:Ps):Ps:=toS<|adds []<|UE n W m
def aaL{n:Nat}{W:ag->ar}(hW:Fwd n W){m:Ps}(pm:∀x∈m,x.1.Perm<|rg n):∀x∈UE n W m,x.1.Perm (rg n):=λx d=>by
 obtain⟨e,c,d⟩:=fW.mp d;obtain⟨y,f,rfl⟩:=bI.mp d;exact(Gv (pm e c) (hW.r _<|pm e c)<|hW.e _<|pm e c).2.1 y f
theorem Yq{n:Nat}{W:ag->ar}(hW:Fwd n W):∀{m:Ps},(∀x∈m,x.1.Perm<|rg n)->lV n (cS<|UE n W m) (Bt n m)
 | [],_=>.refl
 | e::m,pm=>λo p t=>by
  have c:=pm e<|aK ..;show cS (YA (turn e.2) (tO n<|W e.1)++UE n W m) o t=cv (turn e.2) (bT n e.1 o) t+Bt n m o t;rw[Su.Ju,SY,Yq hW (λx d=>pm x<|aO _ d) o p t];congr 1;exact Vz _ (Gv c (hW.r _ c)<|hW.e _ c).2.2 o p t
def Ye{n:Nat}{W:ag->ar}(hW:Fwd n W){m:Ps}(pm:∀x∈m,x.1.Perm<|rg n):Cn (tu n W m)/\(∀x∈tu n W m,x.1.Perm<|rg n)/\lV n (cS<|tu n W m) (Bt n m):=
 ⟨.toS<|Gd.nil.adds _,Su.yr (P:=λo=>o.Perm<|rg n)<|Su.wR (P:=λo=>o.Perm<|rg n) _ (nofun)<|aaL hW pm,λo p t=>by
  show cS (toS<|adds []<|UE n W m) o t=_;rw[Fj];exact Yq hW pm o p t⟩
end He
namespace Nu
open PySem L2
abbrev fac:Nat->Nat
 | 0=>1
 | n+1=>(n+1) * fac n
abbrev rank:ag->Nat
 | []=>0
 | x::xs=>(xs.filter (· < x)).length * fac xs.length+rank xs
abbrev unr:Nat->ag->Nat->ag
 | 0,_,_=>[]
 | n+1,l,m=>l.getD (m / fac n) 0::unr n (l.eraseIdx<|m / fac n) (m % fac n)
def aae(i j:Int):(lA i j).Pairwise (· < ·):=by
 unfold lA;rw[cO];exact ir.imp λh=>()
end Nu
namespace Stp
open PySem L2 Iv
abbrev mm (a:ag)(i j:Nat):ag:=(a.drop<|i+1).take<|j-i-1
abbrev btw (x y m:Int):Bool:=decide (x<m) && decide (m<y)
def parts{a:ag}(hij:i<j)(hj:j<a.length):a=a.take i++([a.getD i 0]++mm a i j++[a.getD j 0])++a.drop (j+1):=by
 have c:a.getD i 0=a[i]:=by rw[aL,aH ()];rfl
 have d:a.getD j 0=a[j]:=by rw[aL,aH hj];rfl
 have h1:a.drop i=a[i]::a.drop (i+1):=cM ();have h2:a.drop (i+1)=mm a i j++a.drop j:=by
  have:=fj (j-i-1)<|a.drop<|i+1;rw[List.drop_drop,show i+1+(j-i-1)=j by lia]at this;exact this.symm
 have h3:a.drop j=a[j]::a.drop (j+1):=cM hj
 conv=>lhs;rw[<- fj i a,h1,h2,h3]
 rw[c,d];simp
def aeg{a:ag}(hij:i<j)(hj:j<a.length):sw a i j=a.take i++([a.getD j 0]++mm a i j++[a.getD i 0])++a.drop (j+1):=by
 have g:(mm a i j).length=j-i-1:=by unfold mm;rw[bE,cB];lia
 have e:∀(P R:ag) (x y c d:Int),P.length=i->((P++([x]++mm a i j++[y])++R).set i d).set j c=P++([d]++mm a i j++[c])++R:=λP R x y c d f=>by
  rw[bM,dO _ _ (),f,f9];show(P++(d::((mm a i j++[y])++R))).set j c=_;rw[dO _ _ (),f,show j-i=(j-i-1)+1 by lia,List.set_cons_succ,bM,dO _ _ (),g,f9];simp
 have:=e (a.take i) (a.drop<|j+1) (a.getD i 0) (a.getD j 0) (a.getD i 0) (a.getD j 0) (by rw[bE];lia);rw[<- parts hij hj]at this;exact this
abbrev isS (a:ag)(i j:Nat):Bool:=!(mm a i j).any λm=>btw (if a.getD j 0<a.getD i 0 then a.getD j 0 else a.getD i 0) (if a.getD j 0>a.getD i 0 then a.getD j 0 else a.getD i 0) m
def VJ{a:ag}(hij:i<j)(hj:j<a.length):(sw a i j).Perm a:=by
 have e:=parts hij hj;rw[aeg hij hj]
 conv=>rhs;rw[e]
 exact((B9 _ _ _).append_left _).append_right _
def aeI{a:ag}(hij:i<j)(hj:j<a.length):(sw a i j).getD i 0=a.getD j 0:=by
 unfold sw;rw[aL,bP (),bJ ()];rfl
def adC{a:ag}(hij:i<j)(hj:j<a.length):(sw a i j).getD j 0=a.getD i 0:=by
 unfold sw;rw[aL,bJ<|by rw[bW];exact hj];rfl
def Ad{a:ag}(hij:i<j)(hj:j<a.length):sw (sw a i j) i j=a:=by
 have h1:=aeI hij hj;have h2:=adC hij hj;unfold sw at h1 h2 ⊢;rw[h1,h2];apply cJ;intro k;by_cases c:k=j
 ·subst c;rw[bJ<|by dsimp[bW];exact hj,Iv.yq hj]
 ·rw[bP ()];by_cases c2:k=i
  ·subst c2;rw[bJ<|by dsimp[bW];lia,Iv.yq ()]
  ·rw[bP (),bP (),bP ()]
end Stp
namespace Eu
open PySem L2 Bl
open Wd (ex zH)
open Fw (rg xH)
def kJ{l:ag}{k:Nat}(h:k<l.length):l.getD k 0=l[k]:=by rw[aL,aH h];rfl
theorem low{a b:ag}{k:Nat}(hl:a.length=b.length)(h0:1<=k)(h:k<b.length)(hb:b.getD k 0<b.getD (k-1) 0)(ha:a.getD (k-1) 0<=a.getD k 0)(hab:Below a b):Below a (ex b k):=by
 have c:k<a.length:=()
 rw[kJ h,kJ<|show k-1<b.length by lia]at hb;rw[kJ c,kJ<|show k-1<a.length by lia]at ha;intro i j;rw[zH h0 h];by_cases hi:i=k
 ·subst hi;rw[aM rfl];have f:=hab (i-1) j;have d:=hab (i+1) j;have c1:=lQ (l:=a) (i:=i-1) () j;have c2:=lQ (l:=b) (i:=i-1) () j;have c3:=lQ (l:=a) (i:=i) c j;have e:=lQ (l:=b) (i:=i) h j;rw[show i-1+1=i by lia]at c1 c2;rw[c3,e,c1,c2]at d;rw[c1,c2];revert f d
  (repeat' split)<;>intros<;>lia
 ·rw[aJ hi];have:=hab i j
  lia
def adQ{a b:ag}{k:Nat}(hl:a.length=b.length)(h0:1<=k)(h:k<b.length)(hb:b.getD k 0<b.getD (k-1) 0)(ha:a.getD k 0<=a.getD (k-1) 0)(hab:Below a b):Below (ex a k) (ex b k):=by
 have c:k<a.length:=()
 rw[kJ h,kJ<|show k-1<b.length by lia]at hb;rw[kJ c,kJ<|show k-1<a.length by lia]at ha;intro i j;rw[zH h0 h,zH h0 c];by_cases hi:i=k
 ·subst hi;rw[aM rfl,aM rfl];have f:=hab (i-1) j;have d:=hab (i+1) j;have c1:=lQ (l:=a) (i:=i-1) () j;have c2:=lQ (l:=b) (i:=i-1) () j;have c3:=lQ (l:=a) (i:=i) c j;have e:=lQ (l:=b) (i:=i) h j;rw[show i-1+1=i by lia]at c1 c2;rw[c3,e,c1,c2]at d;rw[c1,c2];revert f d
  (repeat' split)<;>intros<;>lia
 ·rw[aJ hi,aJ hi];have:=hab i j
  lia
section
variable {n:Nat}
def ln{z:ag}(p:z.Perm<|rg n):z.length=n:=by rw[p.length_eq,Wd.j3]
end
abbrev al (n:Nat):List (ag):=(List.range<|Nu.fac n).map<|Nu.unr n<|rg n
abbrev sg (z:ag):Int:=if Iv.inv z % 2=1 then -1 else 1
open Classical in
abbrev sm (n:Nat)(P:ag->Prop):Int:=((al n).map λz=>if P z then sg z else 0).sum
abbrev Bt (u w z:ag):Prop:=Below u z/\Below z w
end Eu
namespace Gr
open PySem L2 Bl Fw
open Wd (ex led lJ zY lift mh)
abbrev gk:ag->ar->ar
 | _,[]=>[]
 | l,k::ks=>if l.getD (k-1) 0>l.getD k 0 then k::gk (ex l k) ks else gk l ks
def BI{l:ag}{k:Nat}(f:xH l k):Below (ex l k) l:=by
 obtain⟨h0,h,j⟩:=f;have e:=pN h0 h;have m:(ex l k).length=l.length:=lJ l k;have:=lift (u:=ex l k) (w:=ex l k) (k:=k) rfl h0 (by rw[m];exact h);have g:=HU h0 h;have d:=HK h0 h;rw[Eu.kJ<|show k<(ex l k).length by lia]at g;rw[Eu.kJ<|show k-1<(ex l k).length by lia]at d;have c:(ex l k)[k-1]'()<(ex l k)[k]'():=by rw[g,d];exact j
 have:=v8 (l:=ex l k) (p:=k-1) (q:=k) () () () c;rw[<- zY h0 (),e]at this;exact this
theorem Cv:∀(ks:ar) {n:Nat}{y:ag},y.Perm (rg n)->Dn y ks->Below (rg n) y
 | [],n,y,py,h=>by rw[DT py h];exact Below.refl _
 | k::ks,n,y,py,h=>(Cv ks (lH py h.1.1.1 h.1.1.2.1) h.2).trans<|BI h.1.1
end Gr
namespace Eu
open PySem L2 Bl Am
open Fw (rg)
structure Done (n:Nat)(u w:ag)(es:List (ag×Bool)):Prop where
 nd:(es.map (·.1)).Nodup
 pm:∀e∈es,e.1.Perm (rg n)
 up:∀e∈es,Below u e.1
 fl:∀e∈es,(e.2=true ↔ Below e.1 w)
 st:u∈es.map (·.1)
 cl:∀e∈es,e.2=true->∀i j,i<j->j<n->e.1.getD i 0<e.1.getD j 0->Stp.isS e.1 i j=true->Iv.sw e.1 i j∈es.map (·.1)
abbrev ext (n:Nat)(p:ag):List (ag):=((rg n).filter λt=>decide<|t∉p).map λt=>p++[t]
abbrev inj (n:Nat):Nat->List (ag)
 | 0=>[[]]
 | k+1=>(inj n k).flatMap<|ext n
theorem yl{n:Nat}:∀{k:Nat}{p:ag},p∈inj n k ↔ p.length=k/\p.Nodup/\∀t∈p,t∈rg n
 | 0,p=>by
  unfold inj;rw[aS];constructor
  ·rintro rfl;simp
  ·rintro⟨h,_⟩;exact eL.mp h
 | k+1,p=>by
  unfold inj;rw[fW];constructor
  ·rintro⟨q,f,e⟩;obtain⟨t,j,rfl⟩:=bI.mp e;obtain⟨h1,h2⟩:=cD.mp j;obtain⟨a,b,c⟩:=yl.mp f;have h2:t∉q:=bN h2;refine⟨by simp[a],?_,λx d=>?_⟩
   ·rw[c8];refine⟨b,by simp,λx d y g z=>h2 ?_⟩;have:y=t:=by simpa using g
    rw[<- this,<- z];exact d
   ·rcases bG.mp d with z|z
    ·exact c x z
    ·have:x=t:=by simpa using z
     rw[this];exact h1
  ·rintro⟨h1,h2,h3⟩
   rcases List.eq_nil_or_concat p with c|⟨q,t,c⟩
   ·rw[c]at h1;simp at h1
   ·rw[List.concat_eq_append]at c;subst c;rw[c8]at h2;refine⟨q,yl.mpr ⟨by simpa using h1,h2.1,λx d=>h3 x<|fy _ d⟩,bI.mpr ⟨t,cD.mpr ⟨h3 t<|by simp,aW λz=>h2.2.2 t z t (by simp) rfl⟩,rfl⟩⟩
def Mx{n:Nat}{p:ag}:p∈inj n n ↔ p.Perm (rg n):=by
 rw[yl];constructor
 ·rintro⟨h1,h2,h3⟩;exact we h2 h3 (by rw[h1,Wd.j3];exact aP _)
 ·intro c;exact⟨ln c,c.nodup_iff.mpr<|nJ _ _,λt d=>c.mem_iff.mp d⟩
theorem K4:∀{a b:ag}(x y:ag),a.length=b.length->HT.lexLt a b=true->HT.lexLt (a++x) (b++y)=true
 | [],[],_,_,_,h=>by cases h
 | [],_::_,_,_,h,_=>by simp at h
 | _::_,[],_,_,h,_=>by simp at h
 | p::a,q::b,x,y,hl,h=>by
  show HT.lexLt (p::(a++x)) (q::(b++y))=true;rw[HT.o4]at h ⊢;by_cases c:p=q
  ·rw[aM c]at h ⊢;exact K4 x y (by simpa using hl) h
  ·rw[aJ c]at h ⊢;exact h
theorem HV:∀(p:ag) {s t:Int},s<t->HT.lexLt (p++[s]) (p++[t])=true
 | [],s,t,h=>by
  show HT.lexLt [s] [t]=true;rw[HT.o4,aJ (),aW h]
 | x::p,s,t,h=>by
  show HT.lexLt (x::(p++[s])) (x::(p++[t]))=true;rw[HT.o4,aM rfl];exact HV p h
theorem PX{n:Nat}:∀(k:Nat),(inj n k).Pairwise λa b=>HT.lexLt a b=true
 | 0=>cg _ _
 | k+1=>by
  unfold inj;rw[List.pairwise_flatMap];refine⟨λp c=>?_,gR (λ{a b} ha hb hab x hx y hy=>?_)<|PX k⟩
  ·unfold ext;rw[cO];refine List.Pairwise.imp (λ{a b} hab=>HV p hab) ?_;exact(Nu.aae _ _).sublist List.filter_sublist
  ·obtain⟨s,_,rfl⟩:=bI.mp hx;obtain⟨t,_,rfl⟩:=bI.mp hy;exact K4 [s] [t] (by rw[(yl.mp ha).1,(yl.mp hb).1]) hab
end Eu
namespace Hz
open PySem L2 Bl Am
open Fw (rg xH)
open Su (mq)
open He (Fn lV bk nN uM Dy Lj Mp Dw lH DE Va D Pr sM AY EL ze Ad mR nk uh)
abbrev dl (g:Int->Int)(t:Int):Int:=- g (t-1)
abbrev X (k:Nat)(f:Fn):Fn:=λo t=>f (Wd.ex o k) t+if mq o k=true then dl (f o) t else 0
abbrev L (j:Nat)(f:Fn):Fn:=λo t=>f (o.map<|Wd.sw j) t+if mq (bk o) j=true then dl (f o) t else 0
def comm{n k:Nat}(f:Fn){o:ag}(h:o.Perm<|rg n)(h0:1<=k)(h1:k<n)(h2:1<=j)(h3:j<n)(t:Int):X k (L j f) o t=L j (X k f) o t:=by
 have lo:o.length=n:=by rw[h.length_eq,Wd.j3]
 have d:=nN h;have e1:(Wd.ex o k).map (Wd.sw j)=Wd.ex (o.map<|Wd.sw j) k:=(Wd.ex_map _ h0 ()).symm;have e2:=Lj h h0 h1;have f1:=ze (k:=j) h h0 h1;have f2:=ze (k:=k) d.pu h2 h3;unfold X L dl;dsimp only;rw[e1,e2];by_cases c:Pr o k j
 ·have e:=sM d h0 h1 h2 h3 c;have e3:=AY h h0 h1 c;rw[f1.1 c,f2.1 e,EL d h0 h1 h2 h3 c,<- e3]
 ·have e:¬Pr (bk o) j k:=λz=>c<|sM d.flip h2 h3 h0 h1 z;rw[f1.2 c,f2.2 e]
  cases mq o k<;>cases mq (bk o) j
  ·dsimp[a_,bU]
  ·dsimp[a_,cK,bU];lia
  ·dsimp[a_,cK,bU];lia
  ·dsimp[cK];lia
def M7{n k:Nat}{f g:Fn}(h:lV n f g)(h0:1<=k)(h1:k<n):lV n (X k f) (X k g):=λo p t=>by
 unfold X dl;rw[h _<|lH p h0 h1,h o p]
def aaa{n k:Nat}{f g:Fn}(h:lV n f g)(h0:1<=k)(h1:k<n):lV n (L k f) (L k g):=λo p t=>by
 unfold L dl;rw[h _<|DE p h0 h1,h o p]
abbrev Xw (w:ar)(f:Fn):Fn:=w.foldl (λf k=>X k f) f
abbrev Lw (w:ar)(f:Fn):Fn:=w.foldl (λf k=>L k f) f
theorem t7{n:Nat}:∀{w:ar}{f g:Fn},Va n w->lV n f g->lV n (Xw w f) (Xw w g)
 | [],_,_,_,h=>h
 | k::w,_,_,v,h=>t7 (w:=w) (λj c=>v j<|aO _ c)<|M7 h (v k<|aK ..).1 (v k<|aK ..).2
theorem yN{n:Nat}:∀{w:ar}{f g:Fn},Va n w->lV n f g->lV n (Lw w f) (Lw w g)
 | [],_,_,_,h=>h
 | k::w,_,_,v,h=>yN (w:=w) (λj c=>v j<|aO _ c)<|aaa h (v k<|aK ..).1 (v k<|aK ..).2
theorem Qg{n:Nat}(h2:1<=j)(h3:j<n):∀{w:ar}{f:Fn},Va n w->lV n (Xw w<|L j f) (L j<|Xw w f)
 | [],_,_=>.refl
 | k::w,f,v=>by
  have v1:=v k<|aK ..;have v2:Va n w:=λj c=>v j (aO _ c)
  skip
  exact(t7 v2 λo p t=>comm f p v1.1 v1.2 h2 h3 t).trans (Qg h2 h3 v2)
theorem G7{n:Nat}{w:ar}(v:Va n w):∀{u:ar}{f:Fn},Va n u->lV n (Xw w<|Lw u f) (Lw u<|Xw w f)
 | [],_,_=>.refl
 | j::u,f,vu=>by
  have v1:=vu j<|aK ..;have v2:Va n u:=λi hi=>vu i (aO _ hi)
  skip
  exact(G7 v v2).trans (yN v2<|Qg v1.1 v1.2 v)
def X_D{n k:Nat}{u:ag}(g:Int->Int)(hu:u.Perm<|rg n)(h0:1<=k)(h1:k<n):lV n (X k<|D u g) λo t=>D (Wd.ex u k) g o t+if mq u k=true then D u (dl g) o t else 0:=λo p t=>by
 have lo:o.length=n:=by rw[p.length_eq,Wd.j3]
 have lu:u.length=n:=by rw[hu.length_eq,Wd.j3]
 have d:Wd.ex o k=u ↔ o=Wd.ex u k:=⟨λz=>by rw[<- z,Fw.pN h0 ()],λz=>by rw[z,Fw.pN h0 ()]⟩;unfold X D dl;dsimp only;by_cases c:o=u
 ·subst c;rw[aM rfl,aM rfl];congr 1;by_cases c2:Wd.ex o k=o
  ·rw[aM c2,aM c2.symm]
  ·rw[aJ c2,aJ λz=>c2 z.symm]
 ·rw[aJ c,aJ c];congr 1
  ·by_cases c2:Wd.ex o k=u
   ·rw[aM c2,aM<|d.mp c2]
   ·rw[aJ c2,aJ λz=>c2<|d.mpr z]
  ·split<;>split<;>rfl
def L_D{n k:Nat}{u:ag}(g:Int->Int)(hu:u.Perm<|rg n)(h0:1<=k)(h1:k<n):lV n (L k<|D u g) λo t=>D (u.map<|Wd.sw k) g o t+if mq (bk u) k=true then D u (dl g) o t else 0:=λo p t=>by
 have d:o.map (Wd.sw k)=u ↔ o=u.map (Wd.sw k):=⟨λz=>by rw[<- z,Ad],λz=>by rw[z,Ad]⟩;unfold L D dl;dsimp only;by_cases c:o=u
 ·subst c;rw[aM rfl,aM rfl];congr 1;by_cases c2:o.map (Wd.sw k)=o
  ·rw[aM c2,aM c2.symm]
  ·rw[aJ c2,aJ λz=>c2 z.symm]
 ·rw[aJ c,aJ c];congr 1
  ·by_cases c2:o.map (Wd.sw k)=u
   ·rw[aM c2,aM<|d.mp c2]
   ·rw[aJ c2,aJ λz=>c2<|d.mpr z]
  ·split<;>split<;>rfl
theorem Si{n:Nat}{g:Int->Int}:∀{w:ar}{u:ag},u.Perm (rg n)->Wd.j_ u w->lV n (Xw w<|D u g) (D (Wd.led u w) g)
 | [],_,_,_=>.refl
 | k::w,u,hu,h=>by
  obtain⟨h1,h2,h3,c⟩:=h;have lu:u.length=n:=by rw[hu.length_eq,Wd.j3]
  have d:=lH hu h1 ();have e:lV n (X k<|D u g) (D (Wd.ex u k) g):=(X_D g hu h1 ()).trans λo p t=>by
   dsimp only;rw[uh h3,aJ<|by simp,cY]
  have v:Va n w:=λj f=>by
   have:=Wd.j_.valid c j f;rw[Wd.lJ,lu]at this;exact this
  skip
  exact(t7 v e).trans (Si d c)
theorem Ru{n:Nat}{g:Int->Int}:∀{w:ar}{u:ag},u.Perm (rg n)->Wd.j_ (bk u) w->∃v:ag,v.Perm (rg n)/\bk v=Wd.led (bk u) w/\lV n (Lw w<|D u g) (D v g)
 | [],u,hu,_=>⟨u,hu,rfl,.refl⟩
 | k::w,u,hu,h=>by
  obtain⟨h1,h2,h3,c⟩:=h;have m:(bk u).length=n:=by rw[(uM hu).length_eq,Wd.j3]
  have f:=DE hu h1 (by omega);have d:bk (u.map<|Wd.sw k)=Wd.ex (bk u) k:=Mp hu h1 (by omega);have e:lV n (L k<|D u g) (D (u.map<|Wd.sw k) g):=(L_D g hu h1<|by omega).trans λo p t=>by
   dsimp only;rw[uh h3,aJ<|by simp,cY]
  have v:Va n w:=λj q=>by
   have:=Wd.j_.valid c j q;rw[Wd.lJ,m]at this;exact this
  rw[<- d]at c;obtain⟨x,C,B,F⟩:=Ru (g:=g) f c;refine⟨x,C,?_,(yN v e).trans F⟩;rw[B,d];rfl
def Em{n:Nat}{u:ag}(hu:u.Perm<|rg n):∃v,Va n v/\∀g,lV n (Lw v<|D (rg n) g) (D u g):=by
 obtain⟨w,h1,h2⟩:=nk _ (uM hu) rfl;have v:Va n w:=λk e=>by have:=Wd.j_.valid h1 k e;rwa [Wd.j3]at this
 refine⟨w,v,λg=>?_⟩;have c:Wd.j_ (bk<|rg n) w:=by rw[Dw];exact h1
 obtain⟨x,f,d,j⟩:=Ru (g:=g) (mR n) c;rw[Dw,h2]at d;have:x=u:=by rw[<- Dy f,d,Dy hu]
 rw[<- this];exact j
def IM{n:Nat}{w:ar}(h:Wd.j_ (rg n) w)(h':Wd.j_ (rg n) w')(e:Wd.led (rg n) w=Wd.led (rg n) w'){u:ag}(hu:u.Perm<|rg n)(g:Int->Int):lV n (Xw w<|D u g) (Xw w'<|D u g):=by
 obtain⟨v,v1,v2⟩:=Em hu;have a:∀{w:ar},Wd.j_ (rg n) w->lV n (Xw w<|D u g) (Lw v<|D (Wd.led (rg n) w) g):=λ{w} h=>by
  have vw:Va n w:=λk c=>by have:=Wd.j_.valid h k c;rwa [Wd.j3]at this
  exact(t7 vw (v2 g).symm).trans ((G7 vw v1).trans<|yN v1<|Si (mR n) h)
 refine(a h).trans ?_;rw[e];exact(a h').symm
open He (add)
def P6(k:Nat)(f g:Fn):X k (add f g)=add (X k f) (X k g):=by
 funext o t
 unfold X add dl;dsimp only;split<;>lia
theorem xr:∀(w:ar) (f g:Fn),Xw w (add f g)=add (Xw w f) (Xw w g)
 | [],_,_=>rfl
 | k::w,f,g=>by
  show Xw w (X k<|add f g)=add (Xw w<|X k f) (Xw w<|X k g);rw[P6,xr w]
def IA(k:Nat):X k (λ_ _=>0)=λ_ _=>0:=by
 funext o t
 unfold X dl;split<;>rfl
theorem uE:∀w:ar,Xw w (λ_ _=>0)=λ_ _=>0
 | []=>rfl
 | k::w=>by
  show Xw w (X k λ_ _=>0)=_;rw[IA,uE w]
abbrev CY (f:Fn):List (ag)->Fn
 | []=>λ_ _=>0
 | u::us=>add (D u<|f u)<|CY f us
theorem Mb(f:Fn)(t:Int):∀{us:List<|ag},o∉us->CY f us o t=0
 | [],_=>rfl
 | u::us,h=>by
  show(if o=u then f u t else 0)+CY f us o t=0;rw[aJ λz=>h<|by rw[z];exact aK ..,Mb f t λz=>h<|aO _ z];rfl
theorem L7(f:Fn){o:ag}(t:Int):∀{us:List<|ag},us.Nodup->o∈us->CY f us o t=f o t
 | u::us,nd,h=>by
  show(if o=u then f u t else 0)+CY f us o t=_;by_cases c:o=u
  ·subst c;rw[aM rfl,Mb f t (c5.mp nd).1,cY]
  ·rw[aJ c,L7 f t (c5.mp nd).2<|(bB.mp h).resolve_left c,cL]
def GG(n:Nat)(f:Fn):lV n f (CY f<|Eu.inj n n):=λo p t=>by
 refine(L7 f t ?_<|Eu.Mx.mpr p).symm;refine(Eu.PX n).imp λ{a b} h z=>?_;rw[z,Sx.AH]at h
 cases h
theorem Hr{n:Nat}{w:ar}(h:Wd.j_ (rg n) w)(h':Wd.j_ (rg n) w')(e:Wd.led (rg n) w=Wd.led (rg n) w')(f:Fn):∀{us:List<|ag},(∀u∈us,u.Perm<|rg n)->lV n (Xw w<|CY f us) (Xw w'<|CY f us)
 | [],_=>by
  show lV n (Xw w λ_ _=>0) (Xw w' λ_ _=>0);rw[uE,uE];exact .refl
 | u::us,hu=>by
  show lV n (Xw w<|add (D u<|f u)<|CY f us) (Xw w'<|add (D u<|f u)<|CY f us);rw[xr,xr];intro o p t;show _+_=_+_;rw[IM h h' e (hu u<|aK ..) (f u) o p t,Hr h h' e f (λv hv=>hu v<|aO _ hv) o p t]
def Zn{n:Nat}{w:ar}(h:Wd.j_ (rg n) w)(h':Wd.j_ (rg n) w')(e:Wd.led (rg n) w=Wd.led (rg n) w')(f:Fn):lV n (Xw w f) (Xw w' f):=by
 have va:Va n w:=λk d=>by have:=Wd.j_.valid h k d;rwa [Wd.j3]at this
 have c:Va n w':=λk d=>by have:=Wd.j_.valid h' k d;rwa [Wd.j3]at this
 exact(t7 va<|GG n f).trans ((Hr h h' e f λu g=>Eu.Mx.mp g).trans (t7 c<|GG n f).symm)
abbrev Z (k:Nat)(f:Fn):Fn:=λo t=>f (Wd.ex o k) t+if mq o k=true then 0 else f o (t-1)
abbrev Zw (w:ar)(f:Fn):Fn:=w.foldl (λf k=>Z k f) f
def ad2{n k:Nat}{f g:Fn}(h:lV n f g)(h0:1<=k)(h1:k<n):lV n (Z k f) (Z k g):=λo p t=>by
 unfold Z;rw[h _<|lH p h0 h1,h o p]
theorem P0{n:Nat}:∀{w:ar}{f g:Fn},Va n w->lV n f g->lV n (Zw w f) (Zw w g)
 | [],_,_,_,h=>h
 | k::w,_,_,v,h=>P0 (w:=w) (λj c=>v j<|aO _ c)<|ad2 h (v k<|aK ..).1 (v k<|aK ..).2
def D8{n k:Nat}{o:ag}(p:o.Perm<|rg n)(h0:1<=k)(h1:k<n):mq (Wd.ex o k) k=!mq o k:=by
 have lo:o.length=n:=by rw[p.length_eq,Wd.j3]
 have c:=Fw.A3 p h0 (by omega);unfold Su.mq;rw[Fw.HU h0<|by omega,Fw.HK h0<|by omega,<- decide_not];exact gG.mpr ⟨λz=>by omega,λz=>by omega⟩
def X_Z{n k:Nat}(h0:1<=k)(h1:k<n)(f:Fn):lV n (X k<|Z k f) f:=λo p t=>by
 have lo:o.length=n:=by rw[p.length_eq,Wd.j3]
 unfold X Z dl;dsimp only;rw[D8 p h0 h1,Fw.pN h0 ()]
 cases mq o k<;>simp<;>lia
def Z_X{n k:Nat}(h0:1<=k)(h1:k<n)(f:Fn):lV n (Z k<|X k f) f:=λo p t=>by
 have lo:o.length=n:=by rw[p.length_eq,Wd.j3]
 unfold X Z dl;dsimp only;rw[D8 p h0 h1,Fw.pN h0 ()]
 cases mq o k<;>simp<;>lia
def UU(w:ar)(k:Nat)(f:Fn):Zw (w++[k]) f=Z k (Zw w f):=by unfold Zw;rw[cR];rfl
def yf(w:ar)(k:Nat)(f:Fn):Xw (w++[k]) f=X k (Xw w f):=by unfold Xw;rw[cR];rfl
theorem abf{n:Nat}:∀{w:ar}{f:Fn},Va n w->lV n (Xw w.reverse<|Zw w f) f
 | [],_,_=>.refl
 | k::w,f,v=>by
  have v1:=v k<|aK ..;have v2:Va n w:=λj c=>v j<|aO _ c;rw[eO,yf];show lV n (X k<|Xw w.reverse<|Zw w<|Z k f) f;exact(M7 (abf v2) v1.1 v1.2).trans (X_Z v1.1 v1.2 f)
def Vs(k:Nat)(w:ar)(f:Fn):Zw (k::w) f=Zw w (Z k f):=rfl
theorem ack{n:Nat}:∀{w:ar}{f:Fn},Va n w->lV n (Zw w<|Xw w.reverse f) f
 | [],_,_=>.refl
 | k::w,f,v=>by
  have v1:=v k<|aK ..;have v2:Va n w:=λj c=>v j<|aO _ c;rw[eO,yf,Vs];exact(P0 v2<|Z_X v1.1 v1.2 _).trans (ack v2)
open He (uL nq zD)
abbrev d1 (t:Int):Int:=if t=0 then 1 else 0
def acI{n:Nat}{w:ar}(h:Wd.j_ (rg n) w)(h':Wd.j_ (rg n) w')(e:Wd.led (rg n) w=Wd.led (rg n) w')(f:Fn):lV n (Zw w f) (Zw w' f):=by
 have va:Va n w:=λk g=>by have:=Wd.j_.valid h k g;rwa [Wd.j3]at this
 have d:Va n w':=λk g=>by have:=Wd.j_.valid h' k g;rwa [Wd.j3]at this
 have j:Va n w.reverse:=λk g=>va k<|dX.mp g;have c:Va n w'.reverse:=λk g=>d k<|dX.mp g;have B:=Wd.mh w va;have q:=Wd.mh w' d;have m:Wd.led (rg n) w.reverse=Wd.led (rg n) w'.reverse:=by
  have p:=zD (mR n) va;have c1:=Wd.mh w.reverse j;have c2:=Wd.mh w'.reverse c;rw[fG]at c1 c2;rw[<- e]at c2;exact nq ⟨p,zD (mR n) j,c1⟩ ⟨p,zD (mR n) c,c2⟩
 have s:lV n (Xw w.reverse<|Zw w' f) f:=(Zn (uL h) (uL h') m _).trans<|abf d;exact(P0 va s.symm).trans (ack va)
abbrev sw (n:Nat)(o:ag):ar:=open Classical in if h:o.Perm (rg n)then(nk (Iv.inv o) h rfl).choose else[]
def yu{n:Nat}{o:ag}(h:o.Perm<|rg n):Wd.j_ (rg n) (sw n o)/\Wd.led (rg n) (sw n o)=o:=by
 unfold sw;rw[dif_pos h];exact(nk (Iv.inv o) h rfl).choose_spec
abbrev rT (n:Nat)(o:ag):Fn:=Zw (sw n o)<|D (rg n) d1
def K_{n:Nat}{o:ag}{w:ar}(po:o.Perm<|rg n)(h:Wd.j_ (rg n) w)(e:Wd.led (rg n) w=o):lV n (rT n o) (Zw w<|D (rg n) d1):=by
 obtain⟨a,b⟩:=yu po;exact acI a h (b.trans e.symm) _
def acr{n k:Nat}{o:ag}(po:o.Perm<|rg n)(h0:1<=k)(h1:k<n)(hf:mq o k=false):lV n (rT n<|Wd.ex o k) (Z k<|rT n o):=by
 obtain⟨e,c⟩:=yu po;have lo:o.length=n:=by rw[po.length_eq,Wd.j3]
 have f:=Fw.A3 po h0 ();have d:(Wd.led (rg n)<|sw n o).getD (k-1) 0<(Wd.led (rg n)<|sw n o).getD k 0:=by
  rw[c];have:=c_ hf
  lia
 have c1:Wd.j_ (rg n) (sw n o++[k]):=Wd.j_.snoc e h0 (by rw[Wd.j3];exact h1) d;have c2:Wd.led (rg n) (sw n o++[k])=Wd.ex o k:=by rw[Wd.uD,c];rfl
 have:=K_ (lH po h0 h1) c1 c2;rw[UU]at this;exact this
def HP{n k:Nat}{o:ag}(po:o.Perm<|rg n)(h0:1<=k)(h1:k<n)(hf:mq o k=true):lV n (rT n o) (Z k<|rT n<|Wd.ex o k):=by
 have lo:o.length=n:=by rw[po.length_eq,Wd.j3]
 have:=acr (lH po h0 h1) h0 h1 (by rw[D8 po h0 h1,hf];rfl);rw[Fw.pN h0 ()]at this;exact this
def Qa(n:Nat):lV n (rT n<|rg n) (D (rg n) d1):=K_ (mR n) (w:=[]) trivial rfl
theorem yy{n:Nat}{P:ag->Prop}(h0:P<|rg n)(hs:∀o k,o.Perm (rg n)->1<=k->k<n->mq o k=true->P (Wd.ex o k)->P o):∀(m:Nat) {o:ag},Iv.inv o=m->o.Perm (rg n)->P o
 | 0,o,hm,po=>by rw[Fw.DT po λk c=>by have:=Fw.oq c.1 c.2.1 c.2.2;lia];exact h0
 | m+1,o,hm,po=>by
  obtain⟨k,c⟩:=Fw.J7 (l:=o) ();have lo:o.length=n:=by rw[po.length_eq,Wd.j3]
  have d:=Fw.oq c.1 c.2.1 c.2.2;have h1:k<n:=by rw[<- lo];exact c.2.1
  exact hs o k po c.1 h1 (aW c.2.2)<|yy h0 hs m ()<|lH po c.1 h1
structure Top (n:Nat)(w:ag)(f:Fn):Prop where
 at_:∀x:ag,x.Perm (rg n)->Below x w->f x ((Iv.inv w:Int)-Iv.inv x)=1
 up:∀x:ag,x.Perm (rg n)->Below x w->∀t,(Iv.inv w:Int)-Iv.inv x<t->f x t=0
 no:∀x:ag,x.Perm (rg n)->¬Below x w->∀t,f x t=0
 me:∀t,f w t=d1 t
 nn:∀x:ag,x.Perm (rg n)->∀t,0<=f x t
 lo:∀x:ag,x.Perm (rg n)->∀t,t<0->f x t=0
 ev:∀x:ag,x.Perm (rg n)->∀t,f x t≠0->((Iv.inv w:Int)-Iv.inv x-t) % 2=0
def UG{k:Nat}{f:Fn}(h:mq o k=true)(t:Int):Z k f o t=f (Wd.ex o k) t:=by
 unfold Z;rw[aM h,cY]
def U7{k:Nat}{f:Fn}(h:mq o k=false)(t:Int):Z k f o t=f (Wd.ex o k) t+f o (t-1):=by
 unfold Z;rw[h,aJ bR]
def Top.congr{n:Nat}{w:ag}{f g:Fn}(h:Top n w f)(pw:w.Perm<|rg n)(e:lV n g f):Top n w g:=
 ⟨λx p b=>by rw[e x p];exact h.at_ x p b,λx p b t c=>by rw[e x p];exact h.up x p b t c,λx p b t=>by rw[e x p];exact h.no x p b t,λt=>by rw[e w pw];exact h.me t,λx p t=>by rw[e x p];exact h.nn x p t,λx p t c=>by rw[e x p];exact h.lo x p t c,λx p t c=>by rw[e x p]at c;exact h.ev x p t c⟩
def Top.step{n k:Nat}{w:ag}{f:Fn}(h:Top n w f)(pw:w.Perm<|rg n)(h0:1<=k)(h1:k<n)(hf:mq w k=false):Top n (Wd.ex w k) (Z k f):=by
 have L:w.length=n:=by rw[pw.length_eq,Wd.j3]
 have U:=Fw.A3 pw h0 ();have hf:w.getD (k-1) 0<w.getD k 0:=by have:=c_ hf;lia
 have V:=Fw.BR h0 (show k<w.length by lia) hf;have P:(Wd.ex w k).length=n:=by rw[Wd.lJ];exact L
 have e1:=Fw.HU h0 (show k<w.length by lia);have e2:=Fw.HK h0 (show k<w.length by lia);have F:Wd.ex (Wd.ex w k) k=w:=Fw.pN h0 ();have G:xH (Wd.ex w k) k:=⟨h0,(),by rw[e1,e2];exact hf⟩;have O:Below w (Wd.ex w k):=by have:=Gr.BI G;rwa [F]at this
 have K:w[k-1]'()<w[k]'():=by
  rw[Eu.kJ<|show k<w.length by lia,Eu.kJ<|show k-1<w.length by lia]at hf;exact hf
 have B:∀x:ag,x.Perm (rg n)->mq x k=true->(Below x (Wd.ex w k) ↔ Below (Wd.ex x k) w)/\Iv.inv x=Iv.inv (Wd.ex x k)+1:=λx d e=>by
  have N:x.length=n:=by rw[d.length_eq,Wd.j3]
  have e:=bN e;refine⟨⟨λb=>?_,λb=>?_⟩,Fw.oq h0 () e⟩
  ·have:=Eu.adQ () h0 () G.2.2 () b
   rwa [F]at this
  ·have:=Wd.lift (u:=Wd.ex x k) (w:=w) (k:=k) (by rw[Wd.lJ];lia) h0 () K b
   rwa [Fw.pN h0 ()]at this
 have C:∀x:ag,x.Perm (rg n)->mq x k=false->(Below x (Wd.ex w k) ↔ Below x w)/\Iv.inv (Wd.ex x k)=Iv.inv x+1/\Below x (Wd.ex x k):=λx d e=>by
  have N:x.length=n:=by rw[d.length_eq,Wd.j3]
  have e:=c_ e;have T:=Fw.A3 d h0 ();have e:x.getD (k-1) 0<x.getD k 0:=()
  refine⟨⟨λb=>?_,λb=>b.trans O⟩,Fw.BR h0 () e,?_⟩
  ·have:=Eu.low () h0 () G.2.2 () b
   rwa [F]at this
  ·have M:xH (Wd.ex x k) k:=⟨h0,by rw[Wd.lJ];lia,by rw[Fw.HU h0 (),Fw.HK h0 ()];exact e⟩;have:=Gr.BI M
   rwa [Fw.pN h0 ()]at this
 have g:∀x:ag,x.Perm (rg n)->(Wd.ex x k).Perm (rg n):=λx d=>lH d h0 h1;refine⟨λx d b=>?_,λx d b t m=>?_,λx d b t=>?_,λt=>by rw[UG<|aW G.2.2,F];exact h.me t,λx d t=>?_,λx d t m=>?_,λx d t m=>?_⟩
 ·cases e:mq x k with
  | true=>
   obtain⟨j,p⟩:=B x d e;rw[UG e,<- h.at_ _ (g x d) (j.mp b)];congr 1
   lia
  | false=>
   obtain⟨j,p,J⟩:=C x d e;have q:=j.mp b;rw[U7 e,show(Iv.inv (Wd.ex w k):Int)-Iv.inv x-1=(Iv.inv w:Int)-Iv.inv x by lia,h.at_ x d q];by_cases c:Below (Wd.ex x k) w
   ·rw[h.up _ (g x d) c _ ()];rfl
   ·rw[h.no _ (g x d) c];rfl
 ·cases e:mq x k with
  | true=>
   obtain⟨j,p⟩:=B x d e;rw[UG e];exact h.up _ (g x d) (j.mp b) _ ()
  | false=>
   obtain⟨j,p,J⟩:=C x d e;have q:=j.mp b;rw[U7 e,h.up x d q _ ()];by_cases c:Below (Wd.ex x k) w
   ·rw[h.up _ (g x d) c _ ()];rfl
   ·rw[h.no _ (g x d) c];rfl
 ·cases e:mq x k with
  | true=>
   obtain⟨j,p⟩:=B x d e;rw[UG e];exact h.no _ (g x d) (λz=>b<|j.mpr z) _
  | false=>
   obtain⟨j,p,J⟩:=C x d e;have q:¬Below x w:=λz=>b<|j.mpr z;rw[U7 e,h.no x d q,h.no _ (g x d) λz=>q<|J.trans z];rfl
 ·cases e:mq x k with
  | true=>rw[UG e];exact h.nn _ (g x d) t
  | false=>rw[U7 e];exact Int.add_nonneg (h.nn _ (g x d) t)<|h.nn x d _
 ·cases e:mq x k with
  | true=>rw[UG e];exact h.lo _ (g x d) t m
  | false=>rw[U7 e,h.lo _ (g x d) t m,h.lo x d _ ()];rfl
 ·cases e:mq x k with
  | true=>
   obtain⟨j,p⟩:=B x d e;rw[UG e]at m;have:=h.ev _ (g x d) t m
   lia
  | false=>
   obtain⟨j,p,J⟩:=C x d e;rw[U7 e]at m;by_cases c:f (Wd.ex x k) t=0
   ·rw[c,cL]at m;have:=h.ev x d _ m
    lia
   ·have:=h.ev _ (g x d) t c
    lia
def Yz(n:Nat):Top n (rg n) (D (rg n) d1):=by
 have j:∀x:ag,x.Perm (rg n)->Below x (rg n)->x=rg n:=λx e b=>by
  obtain⟨m,k⟩:=Fw.C6 _ x<|aP _;exact Below.antisymm e.length_eq b<|Gr.Cv m e k
 have g:∀x t,D (rg n) d1 x t=if x=rg n then(if t=0 then(1:Int)else 0)else 0:=λx t=>rfl
 refine⟨λx e b=>?_,λx e b t f=>?_,λx e b t=>?_,λt=>by rw[g,aM rfl];rfl,λx e t=>?_,λx e t f=>?_,λx e t f=>?_⟩
 ·rw[j x e b,g,aM rfl,Int.sub_self,aM rfl]
 ·rw[j x e b]at f ⊢;rw[g,aM rfl,aJ ()]
 ·rw[g,aJ λz=>b<|by rw[z];exact Below.refl _]
 ·rw[g];split
  ·split<;>decide
  ·decide
 ·rw[g,aJ<|show ¬t=0 by lia];split<;>rfl
 ·rw[g]at f;by_cases c:x=rg n
  ·subst c;rw[aM rfl]at f;by_cases d:t=0
   ·subst d;simp
   ·rw[aJ d]at f;exact absurd rfl f
  ·rw[aJ c]at f;exact absurd rfl f
def Ft{n:Nat}{o:ag}(po:o.Perm<|rg n):Top n o (rT n o):=by
 refine yy (n:=n) (P:=λo=>Top n o<|rT n o) ((Yz n).congr (mR n)<|Qa n) (λo k po h0 h1 hf h=>?_) _ rfl po;have lo:o.length=n:=by rw[po.length_eq,Wd.j3]
 have:=h.step (lH po h0 h1) h0 h1 (by rw[D8 po h0 h1,hf];rfl);rw[Fw.pN h0 ()]at this;exact this.congr po<|HP po h0 h1 hf
end Hz
namespace Hz
open PySem L2 Bl Am
open Fw (rg xH)
open Su (mq)
open He (Fn lV bk nN uM Dy Lj Mp Dw lH DE Va D Pr sM AY EL ze Ad mR nk uh uL nq zD)
abbrev W (j:Nat)(f:Fn):Fn:=λo t=>f (o.map<|Wd.sw j) t+if mq (bk o) j=true then 0 else f o (t-1)
abbrev fb (f:Fn):Fn:=λo t=>f (bk o) t
abbrev ov (n:Nat)(o:ag):ag:=o.map λv=>(n:Int)+1-v
end Hz
namespace Hz
open PySem L2 Bl Am
open Fw (rg xH)
open Su (mq)
open He (Fn lV lH mR)
open Po (Pl Ok)
def acW{n:Nat}{w:ag}(pw:w.Perm<|rg n):∀x:ag,x.Perm (rg n)->∀t,rT n w x t<=((2 ^ Iv.inv w:Nat):Int):=by
 refine yy (n:=n) (P:=λw=>∀x:ag,x.Perm (rg n)->∀t,rT n w x t<=((2 ^ Iv.inv w:Nat):Int)) (λx c t=>?_) (λw k pw h0 h1 hf e x c t=>?_) _ rfl pw
 ·rw[Qa n x c t];have:(1:Int)<=((2 ^ Iv.inv (rg n):Nat):Int):=by exact_mod_cast Nat.one_le_two_pow
  show(if x=rg n then(if t=0 then(1:Int)else 0)else 0)<=_;split
  ·split<;>omega
  ·omega
 ·have p:w.length=n:=by rw[pw.length_eq,Wd.j3]
  have f:=Fw.oq h0 (by omega)<|bN hf;rw[HP pw h0 h1 hf x c t,f,iJ];have m:=e _ (lH c h0 h1) t;have g:=e _ c<|t-1;have j:(0:Int)<=((2 ^ Iv.inv (Wd.ex w k):Nat):Int):=Int.natCast_nonneg _
  cases d:mq x k with
  | true=>rw[UG d];omega
  | false=>rw[U7 d];omega
structure IsR (n:Nat)(x w:ag)(l:Pl):Prop where
 ok:Ok l
 cf:∀t,Po.cf l t=rT n w x t
theorem Ia:∀{l:Pl}{p:Int×Int},Ok l->p∈l->Po.cf l p.1=p.2
 | q::l,p,h,hp=>by
  rcases bB.mp hp with z|z
  ·rw[z];exact h.head
  ·have lt:=(bV.mp h.up).1 _ z;show(if q.1=p.1 then q.2 else 0)+Po.cf l p.1=p.2;rw[aJ (),cL];exact Ia h.tail z
def IsR.at_{n:Nat}{x w:ag}{l:Pl}(h:IsR n x w l){p:Int×Int}(hp:p∈l):rT n w x p.1=p.2:=by rw[<- h.cf];exact Ia h.ok hp
theorem MQ:∀(l:Pl) (a b:Int),l.Pairwise (λp q=>p.1<q.1)->(∀p∈l,a<=p.1/\p.1<=b)->l≠[]->(l.length:Int)<=b-a+1
 | [],_,_,_,_,h=>absurd rfl h
 | [p],a,b,_,h,_=>by have:=h p<|aK ..;show((1:Nat):Int)<=_;lia
 | p::q::l,a,b,u,h,_=>by
  have c:=bV.mp u;have:=MQ (q::l) (p.1+1) b c.2 (λr d=>⟨by have:=c.1 r d;lia,(h r<|aO _ d).2⟩)<|List.cons_ne_nil _ _;have e:=h p<|aK ..;rw[bu]
  lia
def IsR.keys{n:Nat}{x w:ag}{l:Pl}(h:IsR n x w l)(px:x.Perm<|rg n)(pw:w.Perm<|rg n){p:Int×Int}(hp:p∈l):0<=p.1/\p.1<=(Iv.inv w:Int)-Iv.inv x/\1<=p.2/\p.2<=((2 ^ Iv.inv w:Nat):Int)/\((Iv.inv w:Int)-Iv.inv x-p.1) % 2=0:=by
 have T:=Ft pw;have e:=h.at_ hp;have nz:rT n w x p.1≠0:=by rw[e];exact h.ok.nz p hp
 have nn:=T.nn x px p.1;have up:=acW pw x px p.1;refine⟨?_,?_,(),by rw[<- e];exact up,T.ev x px _ nz⟩
 ·by_cases c:p.1<0
  ·exact absurd (T.lo x px _ c) nz
  ·lia
 ·by_cases c:(Iv.inv w:Int)-Iv.inv x<p.1
  ·by_cases b:Below x w
   ·exact absurd (T.up x px b _ c) nz
   ·exact absurd (T.no x px b _) nz
  ·lia
def IsR.len{n:Nat}{x w:ag}{l:Pl}(h:IsR n x w l)(px:x.Perm<|rg n)(pw:w.Perm<|rg n):l.length<=Iv.inv w+1:=by
 cases l with
 | nil=>exact bY _
 | cons p l=>
  have:=MQ (p::l) 0 _ h.ok.up (λq c=>⟨(h.keys px pw c).1,(h.keys px pw c).2.1⟩) (List.cons_ne_nil _ _)
  lia
def Rz{n:Nat}{w:ag}(pw:w.Perm<|rg n):IsR n w w [(0,1)]:=by
 refine⟨⟨cg _ _,λp d=>by rw[aS.mp d];decide⟩,λt=>?_⟩;rw[(Ft pw).me];show(if (0:Int)=t then(1:Int)else 0)+0=if t=0 then 1 else 0
 by_cases c:t=0
 ·rw[aM c,aM c.symm];rfl
 ·rw[aJ c,aJ λz=>c z.symm];rfl
def RK{n:Nat}{x w:ag}(px:x.Perm<|rg n)(pw:w.Perm<|rg n)(h:¬Below x w):IsR n x w []:=⟨⟨List.Pairwise.nil,nofun⟩,λt=>((Ft pw).no x px h t).symm⟩
def abZ{n k:Nat}{x w:ag}{l:Pl}(px:x.Perm<|rg n)(pw:w.Perm<|rg n)(h0:1<=k)(h1:k<n)(hf:mq w k=true)(hx:mq x k=true)(h:IsR n (Wd.ex x k) (Wd.ex w k) l):IsR n x w l:=⟨h.ok,λt=>by rw[h.cf,HP pw h0 h1 hf x px t,UG hx]⟩
def acN{n k:Nat}{x w:ag}{l:Pl}(px:x.Perm<|rg n)(pw:w.Perm<|rg n)(h0:1<=k)(h1:k<n)(hf:mq w k=true)(hx:mq x k=false)(h:IsR n (Wd.ex x k) (Wd.ex w k) l)(h':IsR n x (Wd.ex w k) m):IsR n x w (Po.pG l<|Po.times [(1,1)] m):=⟨Po.yC _ _,λt=>by
 rw[Su.Bb,h.cf,HP pw h0 h1 hf x px t,U7 hx,<- h'.cf,Su.vL];congr 1;show Po.cf (m.map (λq=>((1:Int)+q.1,(1:Int) * q.2))++[]) t=_;rw[cZ,Su.HM,one_mul]⟩
abbrev am (a:ag)(i j:Nat):Nat:=((a.drop<|i+1).take<|j-i-1).countP λm=>decide (a.getD j 0<m) && decide (m<a.getD i 0)
theorem JU(x y:Int)(hxy:x<y):∀(M:ag),(∀m∈M,m≠x/\m≠y)->M.countP (λm=>decide<|m<y)=M.countP (λm=>decide<|m<x)+M.countP (λm=>decide (x<m) && decide (m<y))/\Iv.mJ M [x]=Iv.mJ M [y]+M.countP (λm=>decide (x<m) && decide (m<y))
 | [],_=>⟨rfl,rfl⟩
 | m::M,h=>by
  obtain⟨e1,e2⟩:=JU x y hxy M λk c=>h k<|aO _ c;obtain⟨d,e⟩:=h m<|aK ..;rw[dD,dD,dD,Iv.rF,Iv.rF,e1,e2,dD,dD,List.countP_nil];by_cases c1:m<x
  ·dsimp[aW c1,aW<|show m<y by lia,bq<|show ¬x<m by lia,bq<|show ¬y<m by lia,jk,a_,cK,bU];lia
  ·by_cases c2:m<y
   ·dsimp[bq c1,aW c2,aW<|show x<m by lia,bq<|show ¬y<m by lia,Bool.and_self,a_,cK,bU];lia
   ·dsimp[bq c1,bq c2,aW<|show x<m by lia,aW<|show y<m by lia,jM,a_,cK,bU];lia
def aeE{M:ag}{x y:Int}(h:∀m∈M,m≠x/\m≠y)(hxy:x<y):Iv.inv ([y]++M++[x])=Iv.inv ([x]++M++[y])+(1+2 * M.countP (λm=>decide (x<m) && decide (m<y))):=by
 obtain⟨c,d⟩:=JU x y hxy M h;rw[Iv.kQ,Iv.kQ,Iv.kQ<|[x]++M,Iv.kQ [x]];have e1:Iv.mJ [y] M=Iv.mJ [x] M+M.countP (λm=>decide (x<m) && decide (m<y)):=by
  show M.countP _+0=M.countP _+0+_;rw[c];lia
 have e2:Iv.mJ ([y]++M) [x]=1+Iv.mJ M [x]:=by
  show[x].countP _+Iv.mJ M [x]=_;rw[dD,aW hxy];rfl
 have e3:Iv.mJ ([x]++M) [y]=Iv.mJ M [y]:=by
  show[y].countP _+Iv.mJ M [y]=_;rw[dD,bq (by lia:¬y<x)];simp
 rw[e1,e2,e3,d];show 0+Iv.inv M+_+0+_=0+Iv.inv M+_+0+_+_
 lia
def swN{n:Nat}{a:ag}(pa:a.Perm<|rg n)(hij:i<j)(hj:j<n)(h:a.getD j 0<a.getD i 0):Iv.inv a=Iv.inv (Iv.sw a i j)+(1+2 * am a i j)/\(Iv.sw a i j).Perm (rg n)/\Below (Iv.sw a i j) a:=by
 have G:a.length=n:=by rw[pa.length_eq,Wd.j3]
 have nd:a.Nodup:=pa.nodup_iff.mpr<|nJ _ _;have ge:∀k,k<n->a[k]?=some (a.getD k 0):=λk C=>Iv.yq ();have inj:∀k l,k<n->l<n->a.getD k 0=a.getD l 0->k=l:=λk l C U e=>by
  have h1:=ge k C;have h2:=ge l U;rw[e,<- h2]at h1;exact(List.getElem?_inj () nd).mp h1
 obtain⟨P,M,R,g,hP,V,es⟩:=Iv.split hij (by lia:j<a.length);have F:P.length=i:=by rw[hP,bE];lia
 have L:(a.drop<|i+1).take (j-i-1)=M:=by
  have Z:P.length+(1+M.length+1)+R.length=n:=by
   have:=dQ List.length g;rw[G]at this;simp at this
   lia
  have Y:M.length=j-i-1:=by
   have O:=ge j hj;by_cases c:M.length=j-i-1
   ·exact c
   ·exfalso;have J:a[i+1+M.length]?=some (a.getD j 0):=by
     conv=>lhs;rw[g]
     rw[bM,c6 (),F,show i+1+M.length-i=M.length+1 by lia];show((a.getD i 0::(M++[a.getD j 0]))++R)[M.length+1]?=_;rw[gF,fV,bM,c6<|aP _,f9];rfl
    rw[<- ge j hj]at J;have:=(List.getElem?_inj () nd).mp J
    lia
  have N:a.drop (i+1)=(M++[a.getD j 0])++R:=by
   conv=>lhs;rw[g]
   rw[bM,List.drop_append,List.drop_of_length_le (),F,show i+1-i=1 by lia];rfl
  rw[N,bM,List.take_append_of_le_length (),eU ()]
 have B:∀m∈M,m≠a.getD j 0/\m≠a.getD i 0:=λm K=>by
  obtain⟨k,k1,k2,d⟩:=V m K;rw[ge k ()]at d;have d:=aZ d;exact⟨λz=>by have:=inj k j () hj (by rw[d,z]);lia,λz=>by have:=inj k i () () (by rw[d,z]);lia⟩
 have pb:(Iv.sw a i j).Perm (rg n):=(Stp.VJ hij ()).trans pa;refine⟨?_,pb,?_⟩
 ·have p:=Iv.B9 M (a.getD j 0)<|a.getD i 0;have e:Iv.inv (P++([a.getD i 0]++M++[a.getD j 0])++R)=Iv.inv (P++([a.getD j 0]++M++[a.getD i 0])++R)+(1+2 * M.countP (λm=>decide (a.getD j 0<m) && decide (m<a.getD i 0))):=by
   rw[Iv.kQ,Iv.kQ P,Iv.kQ<|P++([a.getD j 0]++M++[a.getD i 0]),Iv.kQ P,aeE B h,Iv.KU P p,Iv.Lq R<|p.append_left P]
   lia
  rw[<- g,<- es]at e;unfold am;rw[L];exact e
 ·have W:(Iv.sw a i j).length=n:=by rw[Iv.B_,G]
  have f:(Iv.sw a i j).getD i 0<(Iv.sw a i j).getD j 0:=by
   rw[Iv.Jh hij (),Iv.Jh hij (),aJ (),aM rfl,aM rfl];exact h
  have T:=Stp.Ad hij (show j<a.length by lia);have q:∀b:ag,b.length=n->b.getD i 0<b.getD j 0->Below b (Iv.sw b i j):=λb lb f=>by
   unfold Iv.sw;rw[Eu.kJ<|show i<b.length by lia,Eu.kJ<|show j<b.length by lia]at f ⊢;exact v8 () () hij f
  have:=q _ W f
  rwa [T]at this
theorem KA:∀(l:ag),2 * Iv.inv l<=l.length * (l.length-1)
 | []=>aP _
 | x::l=>by
  have h1:l.countP (λy=>decide<|y<x)<=l.length:=iP;have h2:=KA l;show 2 * (l.countP (λy=>decide<|y<x)+Iv.inv l)<=(l.length+1) * l.length
  cases c:l.length with
  | zero=>rw[c]at h1 h2;lia
  | succ m=>
   rw[c]at h1 h2;have:(m+1) * (m+1-1)+2 * (m+1)=(m+1+1) * (m+1):=by
    rw[jx,Nat.add_mul (m+1) 1<|m+1,fH,Nat.mul_add (m+1) m 1];lia
   lia
end Hz
namespace He
open PySem L2 Am Po
open Fw (Two rg xH Dn)
open Su (mq Ps cS Gd vS toS adds bx)
def aak{n:Nat}{o:ag}(po:o.Perm<|rg n):Iv.inv (bk o)=Iv.inv o:=by
 obtain⟨a,b⟩:=yu po;have va:=Xg po;have d:Va n (sw n o).reverse:=λk f=>va k<|dX.mp f;have c:=Wd.mh (sw n o).reverse d;rw[fG,b]at c;have e:=nq ⟨po,zD (mR n) d,c⟩<|nN po;have l:=rB<|uL a;rw[e,Fw.xy,fQ,B_ po]at l
 lia
abbrev fwd (o:ag):ar:=(Fw.C6 _ (bk o)<|aP _).choose
def Uo(o:ag):Dn (bk o) (fwd o):=(Fw.C6 _ (bk o)<|aP _).choose_spec
def Ks{n:Nat}{o:ag}(po:o.Perm<|rg n):Wd.j_ (rg n) (fwd o)/\Wd.led (rg n) (fwd o)=o:=by
 have d:=Uo o;have va:Va n (fwd o):=by
  have:=d.va
  rwa [(uM po).length_eq,Wd.j3]at this
 have e:=(nN po).led d;refine⟨(Bv (mR n) va).2 ?_,e⟩;rw[e,Fw.xy,d.len,aak po,cF]
theorem HR:∀{w:ar}{l:ag}{k:Nat},Wd.j_ l (w++[k])->Wd.j_ l w/\1<=k/\k<l.length/\(Wd.led l w).getD (k-1) 0<(Wd.led l w).getD k 0
 | [],_,_,h=>⟨trivial,h.1,h.2.1,h.2.2.1⟩
 | j::w,l,k,h=>by
  obtain⟨a,b,c,d⟩:=HR (w:=w) h.2.2.2;rw[Wd.lJ]at c;exact⟨⟨h.1,h.2.1,h.2.2.1,a⟩,b,c,d⟩
def A_{n:Nat}{o:ag}(po:o.Perm<|rg n){k:Nat}(h:(fwd o).getLast?=some k):1<=k/\k<n/\mq o k=true:=by
 obtain⟨a,b⟩:=Ks po;obtain⟨w,hw⟩:=List.getLast?_eq_some_iff.mp h;rw[hw]at a b;obtain⟨_,c,d,e⟩:=HR a;rw[Wd.uD]at b;have b:Wd.ex (Wd.led (rg n) w) k=o:=b;have j:(Wd.led (rg n) w).length=n:=by rw[Wd.Ed,Wd.j3]
 rw[Wd.j3]at d;obtain⟨g,f⟩:=Su.MM c (show k<(Wd.led (rg n) w).length by lia);refine⟨c,d,aW ?_⟩;rw[<- b,g,f];exact e
abbrev vwF:Nat->ag->ar
 | 0,_=>[]
 | m+1,o=>match (fwd o).getLast? with
  | none=>[]
  | some k=>vwF m (Wd.ex o k)++[k]
abbrev vw (o:ag):ar:=vwF (Iv.inv o) o
def LZ{n:Nat}{o:ag}(po:o.Perm<|rg n)(h:(fwd o).getLast?=none):o=rg n:=by
 have:=List.getLast?_eq_none_iff.mp h;have e:=(Ks po).2;rw[this]at e;exact e.symm
def ZE(h:(fwd o).getLast?=none):vw o=[]:=by
 unfold vw
 cases Iv.inv o with
 | zero=>rfl
 | succ m=>unfold vwF;rw[h]
def MX{n:Nat}{o:ag}(po:o.Perm<|rg n){k:Nat}(h:(fwd o).getLast?=some k):vw o=vw (Wd.ex o k)++[k]:=by
 obtain⟨a,b,c⟩:=A_ po h;have lo:o.length=n:=by rw[po.length_eq,Wd.j3]
 have d:=Fw.oq a (by omega) (show o.getD k 0<o.getD (k-1) 0 by have:=bN c;omega);unfold vw;rw[d]
 conv=>lhs;unfold vwF
 rw[h]
def Gy{n:Nat}:∀(m:Nat) {o:ag},Iv.inv o=m->o.Perm (rg n)->Wd.j_ (rg n) (vw o)/\Wd.led (rg n) (vw o)=o:=by
 intro m
 induction m with
 | zero=>
  intro o g f;have e:o=rg n:=Fw.DT f λk j=>by
   have:=Fw.oq j.1 j.2.1 j.2.2
   lia
  have:vw o=[]:=by unfold vw;rw[g];rfl
  rw[this,e];exact⟨trivial,rfl⟩
 | succ m q=>
  intro o g f
  cases h:(fwd o).getLast? with
  | none=>
   have e:=LZ f h;rw[e,Fw.xy]at g
   cases g
  | some k=>
   obtain⟨a,b,c⟩:=A_ f h;have lo:o.length=n:=by rw[f.length_eq,Wd.j3]
   have G:=bN c;have d:=Fw.oq a () (show o.getD k 0<o.getD (k-1) 0 by lia);obtain⟨C,p⟩:=q (o:=Wd.ex o k) ()<|lH f a b;rw[MX f h];obtain⟨F,B⟩:=Su.MM a (show k<o.length by lia);refine⟨Wd.j_.snoc C a (by rw[Wd.j3];exact b)<|by rw[p,F,B];lia,?_⟩;rw[Wd.uD,p];exact Fw.pN a ()
def JD(n:Nat):Fwd n vw:=⟨λo c=>(Gy _ rfl c).1,λo c=>(Gy _ rfl c).2⟩
abbrev tV (n:Nat)(o:ag):Ps:=tO n<|vw o
def aal{n:Nat}{o:ag}(po:o.Perm<|rg n)(h:(fwd o).getLast?=none):tV n o=[(o,[((0:Int),(1:Int))])]:=by
 unfold tV;rw[ZE h,LZ po h];rfl
def VA{n:Nat}{o:ag}(po:o.Perm<|rg n){k:Nat}(h:(fwd o).getLast?=some k):tV n o=yb k (tV n<|Wd.ex o k):=by
 unfold tV;rw[MX po h];exact Pc _ _ _
theorem FB.Y{n P k:Nat}{f:Fn}(h:FB n P C f)(h0:1<=k)(h1:k<n):FB n (P+1) (5 * C) (Y k f):=by
 have x:=h.X h0 h1;refine⟨λo e t=>?_,λo e t g=>?_⟩
 ·have a:=x.c o e t;have b:=h.c o e<|t+1;have d:=h.c o e<|t-1;show(He.X k f o t-(f o (t+1)-f o (t-1))).natAbs<=_;omega
 ·have a:=x.p o e t (by omega);have b:=h.p o e (t+1) (by omega);have d:=h.p o e (t-1) (by omega);show He.X k f o t-(f o (t+1)-f o (t-1))=0;omega
theorem Sz.yb{n P k:Nat}{l:Ps}(h:Sz n P C l)(h0:1<=k)(h1:k<n):Sz n (P+1) (5 * C) (yb k l):=by
 obtain⟨a,b,c⟩:=Xk h0 h1 h.pm;exact⟨a,b,(h.fb.Y h0 h1).eq c⟩
theorem Sz.Nr{n:Nat}:∀{w:ar}{P C:Nat}{l:Ps},Sz n P C l->Va n w->Sz n (P+w.length) (5 ^ w.length * C) (Nr w l)
 | [],P,C,l,h,_=>by
  show Sz n (P+0) (1 * C) l;rw[Nat.add_zero,fH];exact h
 | k::w,P,C,l,h,v=>by
  have v1:=v k<|aK ..;have:=Sz.Nr (h.yb v1.1 v1.2) (w:=w) λj c=>v j<|aO _ c;show Sz n (P+(w.length+1)) (5 ^ (w.length+1) * C) (He.Nr w<|He.yb k l);rw[show P+(w.length+1)=P+1+w.length by omega,iJ,Nat.mul_assoc];exact this
def Y5(n:Nat):Sz n 0 1 (one n):=Sz.of (IP n) (Il n) λe d=>by
 rw[aS.mp d];exact⟨λq c=>by rw[aS.mp c];decide,λq c=>by rw[aS.mp c];decide⟩
def Uc{n:Nat}(hn:n<6){o:ag}(po:o.Perm<|rg n):Sz n 25 (5 ^ 25) (tV n o):=by
 obtain⟨a,b⟩:=Gy _ rfl po;have l:=rB a;rw[b,Fw.xy]at l;have i:=Qe hn po;have:=(Y5 n).Nr<|(JD n).va po;refine this.mono () ?_;rw[Nat.mul_one];exact dY ⋯ ()
theorem PB.turn{c:Nat}{p:Pl}(h:PB Q c p):PB Q c (turn p):=by
 refine⟨λq d=>?_,λq d=>?_⟩
 ·obtain⟨x,e,rfl⟩:=bI.mp d;exact h.c x (dX.mp e)
 ·obtain⟨x,e,rfl⟩:=bI.mp d;have:=h.p x<|dX.mp e;show(-x.1).natAbs<=Q;omega
def GJ(p:Pl):(turn p).length=p.length:=by unfold turn;rw[aI,fQ]
theorem FB.Bt{n c K:Nat}(hn:n<6):∀{m:Ps},(∀x∈m,x.1.Perm<|rg n)->(∀x∈m,PB Q c x.2/\x.2.length<=K)->FB n (25+Q) (m.length * (K * (c * 5 ^ 25))) (Bt n m)
 | [],_,_=>FB.zero ..
 | e::m,hm,hb=>by
  have f:=hm e<|aK ..;obtain⟨k,j⟩:=hb e<|aK ..;have i:=FB.Bt hn (m:=m) (λx g=>hm x<|aO _ g) λx g=>hb x<|aO _ g;have t:=(Uc hn f).fb.eq (Gv f (Gy _ rfl f).1 (Gy _ rfl f).2).2.2.symm;have b:=(t.CO k.turn).mono (P':=25+Q) (C':=K * (c * 5 ^ 25)) (aP _) (by rw[GJ];exact cH _ j);have d:=b.add i;show FB n _ ((m.length+1) * _) (He.add _ _);rw[fC,add_comm<|m.length * _];exact d
theorem Sz.tu{n c:Nat}(hn:n<6)(h:Sz n Q c m):Sz n (25+Q) (120 * ((2 * Q+1) * (c * 5 ^ 25))) (tu n vw m):=by
 obtain⟨a,b,d⟩:=Ye (JD n) h.pm;exact⟨a,b,((FB.Bt hn h.pm λx e=>h.pb e).mono (aP _)<|cH _<|h.many hn).eq d⟩
theorem Sz.UJ{n P c:Nat}{l:Ps}(h:Sz n P C l){p:Pl}(b:PB Q c p):Sz n (P+Q) (p.length * (c * C)) (UJ p l):=by
 obtain⟨e,d⟩:=SO (p:=p) h.pm;exact⟨e,d,by rw[Pk];exact h.fb.CO b⟩
end He
namespace He
open PySem L2 Bl Am Fw
open Po (Pl Ok cf)
open Su (cS mq)
def Y_t{k:Nat}{f:Fn}(h:mq o k=true)(t:Int):Y k f o t=f (Wd.ex o k) t:=by
 unfold Y X;rw[aM h]
 lia
def Y_f{k:Nat}{f:Fn}(h:mq o k=false)(t:Int):Y k f o t=f (Wd.ex o k) t-(f o (t+1)-f o (t-1)):=by
 unfold Y X;rw[h,aJ bR];unfold dl
 lia
structure Top (n:Nat)(w:ag)(f:Fn):Prop where
 at_:∀x:ag,x.Perm (rg n)->Below x w->f x ((Iv.inv w:Int)-Iv.inv x)=1
 up:∀x:ag,x.Perm (rg n)->Below x w->∀t,(Iv.inv w:Int)-Iv.inv x<t->f x t=0
 no:∀x:ag,x.Perm (rg n)->¬Below x w->∀t,f x t=0
 me:∀t,f w t=cf [((0:Int),(1:Int))] t
def RY{n:Nat}{o:ag}{w:ar}(po:o.Perm<|rg n)(h:Wd.j_ (rg n) w)(e:Wd.led (rg n) w=o):tu n vw [(o,[((0:Int),(1:Int))])]=Nr w (one n):=by
 obtain⟨p,d,f⟩:=Gv po h e;have q:∀x∈[(o,[((0:Int),(1:Int))])],x.1.Perm (rg n):=λx c=>by rw[aS.mp c];exact po
 obtain⟨k,g,m⟩:=Ye (JD n) q;refine Vb k p g d<|m.trans ?_;intro x j t;show 1 * bT n o x (t - -0)+0+0=_;have:=f x j t;rw[show t - -0=t by lia];unfold tO at this
 lia
end He
namespace Hz
open PySem L2 Bl Am
open Fw (rg xH)
open Su (mq)
open He (Fn lV lH mR bT Xr)
open Po (Pl Ok)
abbrev lp:Nat->Int->Int
 | 0=>λt=>if t=0 then 1 else 0
 | s+1=>λt=>lp s (t-1)-lp s (t+1)
abbrev sm (f:Int->Int):Nat->Int->Int
 | 0,_=>0
 | B+1,t=>sm f B t+f (B:Int) * lp B t
theorem Js(f g:Int->Int):∀(B:Nat) (t:Int),sm (λs=>f s+g s) B t=sm f B t+sm g B t
 | 0,_=>rfl
 | B+1,t=>by
  show sm (λs=>f s+g s) B t+(f B+g B) * lp B t=(sm f B t+f B * lp B t)+(sm g B t+g B * lp B t);rw[Js f g B t,Int.add_mul];lia
theorem Gs{g:Int->Int}(h:g (-1)=0):∀(B:Nat) (t:Int),sm (λs=>g<|s-1) (B+1) t=sm g B (t-1)-sm g B (t+1)
 | 0,t=>by
  show 0+g ((0:Nat)-1:Int) * lp 0 t=0-0;rw[show((0:Nat)-1:Int)=-1 from rfl,h];lia
 | B+1,t=>by
  show sm (λs=>g<|s-1) (B+1) t+g (((B+1:Nat):Int)-1) * lp (B+1) t=(sm g B (t-1)+g B * lp B (t-1))-(sm g B (t+1)+g B * lp B (t+1));rw[Gs h B t,show((B+1:Nat):Int)-1=(B:Int)by lia];show _+g B * (lp B (t-1)-lp B (t+1))=_;rw[Int.mul_sub];lia
theorem EF(f:Int->Int)(h:∀s,f s=0):∀(B:Nat) (t:Int),sm f B t=0
 | 0,_=>rfl
 | B+1,t=>by show sm f B t+f B * lp B t=0;rw[EF f h B t,h,zero_mul];rfl
theorem sd{f g:Int->Int}(h:∀s,f s=g s):∀(B:Nat) (t:Int),sm f B t=sm g B t
 | 0,_=>rfl
 | B+1,t=>by show sm f B t+f B * lp B t=sm g B t+g B * lp B t;rw[sd h B t,h]
theorem X4:∀(B:Nat) (t:Int),sm d1 (B+1) t=if t=0 then 1 else 0
 | 0,t=>by
  show 0+1 * lp 0 t=_;rw[one_mul,cL];rfl
 | B+1,t=>by
  show sm d1 (B+1) t+(if ((B+1:Nat):Int)=0 then 1 else 0) * lp (B+1) t=_;rw[X4 B t,aJ<|show ¬((B+1:Nat):Int)=0 by omega,zero_mul,cY]
def aby{n:Nat}{w:ag}(pw:w.Perm<|rg n):∀(B:Nat),Iv.inv w<B->∀x:ag,x.Perm (rg n)->∀t,bT n w x t=sm (rT n w x) B t:=by
 refine yy (n:=n) (P:=λw=>∀(B:Nat),Iv.inv w<B->∀x:ag,x.Perm (rg n)->∀t,bT n w x t=sm (rT n w x) B t) (λB F x j t=>?_) (λw k pw h0 h1 hf m B F x j t=>?_) _ rfl pw
 ·obtain⟨C,rfl⟩:∃C,B=C+1:=⟨B-1,()⟩;rw[sd (Qa n x j) (C+1) t];have e:bT n (rg n) x t=Su.cS (He.one n) x t:=He.ES (mR n) (w:=[]) trivial rfl x j t;have G:Su.cS (He.one n) x t=(if rg n=x then Po.cf [((0:Int),(1:Int))] t else 0)+0:=rfl;rw[e,G,cY];by_cases c:x=rg n
  ·subst c;rw[aM rfl,sd (f:=He.D (rg n) d1<|rg n) (g:=d1) (λs=>aM rfl) (C+1) t,X4];show(if (0:Int)=t then(1:Int)else 0)+0=_;by_cases d:t=0
   ·rw[aM d,aM d.symm];rfl
   ·rw[aJ d,aJ λz=>d z.symm];rfl
  ·rw[aJ λz=>c z.symm,EF (He.D (rg n) d1 x) λs=>aJ c]
 ·have J:w.length=n:=by rw[pw.length_eq,Wd.j3]
  have K:=Fw.oq h0 (show k<w.length by lia)<|bN hf;obtain⟨C,rfl⟩:∃C,B=C+1:=⟨B-1,()⟩;have q:=lH j h0 h1;rw[Xr pw h0 h1 hf x j t,sd (HP pw h0 h1 hf x j) (C+1) t]
  cases p:mq x k with
  | true=>rw[He.Y_t p,sd (UG p) (C+1) t];exact m (C+1) () _ q t
  | false=>
   have T:=Ft<|lH pw h0 h1;rw[He.Y_f p,sd (U7 p) (C+1) t,Js,Gs<|T.lo x j (-1) ⋯,<- m (C+1) () _ q t,<- m C () _ j (t-1),<- m C () _ j (t+1)]
   lia
abbrev pv (l:Pl)(t:Int):Int:=(l.map λp=>p.2 * lp p.1.toNat t).sum
theorem OI(a v:Int)(h0:0<=a):∀(B:Nat) (t:Int),sm (λs=>if a=s then v else 0) B t=if a<B then v * lp a.toNat t else 0
 | 0,t=>by rw[aJ ()];rfl
 | B+1,t=>by
  show sm (λs=>if a=s then v else 0) B t+(if a=(B:Int)then v else 0) * lp B t=_;rw[OI a v h0 B t];by_cases c:a=(B:Int)
  ·rw[aJ (),aM c,aM (),cL,show a.toNat=B by lia]
  ·rw[aJ c,zero_mul,cY];by_cases d:a<(B:Int)
   ·rw[aM d,aM ()]
   ·rw[aJ d,aJ ()]
theorem X9:∀(l:Pl) (B:Nat),(∀p∈l,0<=p.1/\p.1<B)->∀t,pv l t=sm (Po.cf l) B t
 | [],B,_,t=>(EF _ (λ_=>rfl) B t).symm
 | p::l,B,h,t=>by
  have c:=h p<|aK ..;have e:=X9 l B (λq d=>h q<|aO _ d) t;show p.2 * lp p.1.toNat t+pv l t=sm (λs=>(if p.1=s then p.2 else 0)+Po.cf l s) B t;rw[Js,OI p.1 p.2 c.1,aM c.2,e]
def acg{n:Nat}{x w:ag}{l:Pl}(h:IsR n x w l)(px:x.Perm<|rg n)(pw:w.Perm<|rg n)(t:Int):bT n w x t=pv l t:=by
 rw[X9 l (Iv.inv w+1) (λp c=>by have:=h.keys px pw c;omega) t,aby pw _ (eW _) x px t];exact sd (λs=>(h.cf s).symm) _ t
theorem RB:∀(k:Nat) (t:Int),(lp k t).natAbs<=2 ^ k
 | 0,t=>by
  show(if t=0 then(1:Int)else 0).natAbs<=1;split<;>decide
 | k+1,t=>by
  have h1:=RB k<|t-1;have h2:=RB k<|t+1;show(lp k (t-1)-lp k (t+1)).natAbs<=2 ^ (k+1);rw[iJ];omega
def aaR(l m:Pl)(t:Int):pv (l++m) t=pv l t+pv m t:=by unfold pv;rw[bZ,List.sum_append]
def ace(b:Pl)(t:Int):Po.cf (Po.times He.LB b) t=Po.cf b (t-1)-Po.cf b (t+1):=by
 rw[He.Yt,He.Xy];show-(Po.cf b (t+1)-Po.cf b (t-1))=_
 lia
end Hz
namespace Am
open PySem L2 Bl
abbrev oJ:Nat->Int->ag->ag
 | 0,_,ms=>ms
 | _+1,_,[]=>[]
 | x+1,d,m::ms=>(m+d)::oJ x d ms
theorem yT:∀(x:Nat) (d:Int) (ms:ag),(oJ x d ms).length=ms.length
 | 0,_,_=>rfl
 | _+1,_,[]=>rfl
 | x+1,d,m::ms=>dQ (·+1)<|yT x d ms
theorem wH:∀(x:Nat) (d:Int) (ms:ag) (j:Nat),(oJ x d ms)[j]?=(ms[j]?).map λm=>if j<x then m+d else m
 | 0,d,ms,j=>by simp[oJ]
 | _+1,_,[],j=>by simp[oJ]
 | x+1,d,m::ms,0=>by simp[oJ]
 | x+1,d,m::ms,j+1=>by
  show(oJ x d ms)[j]?=_;rw[wH x d ms j];simp
theorem BU:∀(x:Nat) (d:Int) (ms:ag) (m:Int),ms[x]?=some m->(oJ x d ms).set x (m+d)=oJ (x+1) d ms
 | 0,d,[],m,h=>by simp at h
 | 0,d,k::ms,m,h=>by simp at h;subst h;rfl
 | x+1,d,[],m,h=>by simp at h
 | x+1,d,k::ms,m,h=>by
  show(k+d)::(oJ x d ms).set x (m+d)=(k+d)::oJ (x+1) d ms;rw[BU x d ms m<|by simpa using h]
abbrev uq (n:Nat)(xs ys:ag)(t:Nat):ag:=(List.range n).map λ(j:Nat)=>cnt (xs.take t) ((j:Int)+1)-cnt (ys.take t) ((j:Int)+1)
def qg{n:Nat}{t:Nat}:(uq n xs ys t).length=n:=by simp[uq]
def ur{n:Nat}{xs ys:ag}{t j:Nat}(h:j<n):(uq n xs ys t)[j]?=some (cnt (xs.take t) ((j:Int)+1)-cnt (ys.take t) ((j:Int)+1)):=by
 unfold uq;rw[aX,dH h];rfl
def VP{n:Nat}:uq n xs ys 0=List.replicate n 0:=by
 unfold uq;refine cJ λj=>?_;rw[aX,gY];by_cases c:j<n
 ·rw[dH c,aM c];simp[cnt]
 ·rw[bQ<|by simpa using c,aJ c];rfl
def IY{n:Nat}{xs ys:ag}{t:Nat}(hx:t<xs.length)(hy:t<ys.length):oJ ys[t].toNat (-1) (oJ xs[t].toNat 1 (uq n xs ys t))=uq n xs ys (t+1):=by
 refine cJ λj=>?_;rw[wH,wH];by_cases c:j<n
 ·rw[ur c,ur c,lQ hx,lQ hy,dz,dz];congr 1;have e1:(j<xs[t].toNat)=((j:Int)+1<=xs[t]):=by apply propext;lia
  have e2:(j<ys[t].toNat)=((j:Int)+1<=ys[t]):=by apply propext;lia
  dsimp[e1,e2];split<;>split<;>lia
 ·rw[bQ<|by rw[qg];lia,bQ<|by rw[qg];lia];rfl
theorem Cu:∀{ns:ag},ns≠[]->∃m,maxOf ns=some m
 | [],h=>absurd rfl h
 | [x],_=>⟨x,rfl⟩
 | x::y::ys,_=>by
  obtain⟨m,e⟩:=Cu (ns:=y::ys) (by simp);exact⟨if m>x then m else x,by show(maxOf (y::ys)).map _=_;rw[e];rfl⟩
def P9{n:Nat}{ns:ag}(h:jU S n=some (ns.map .int))(h0:ns≠[]):∃m,Qt (.ref n) S=.ok (.int m) S/\m∈ns/\∀a∈ns,a<=m:=by
 obtain⟨m,e⟩:=Cu h0;refine⟨m,?_,CD e⟩;show opt (jU S n) _=_;rw[h,kD,ints_map,kD,e,kD]
def X5{S:jV}{n:Nat}{x:A}{k:Nat}(h:jU S n=some [x])(hk:k<=16777216):za (.ref n) (.int k) S=.ok (.ref S.length) (S++[.lst<|List.replicate k x]):=by
 show opt (jU S n) _=_;rw[h,kD];have e:(List.replicate k [x]).flatten=List.replicate k x:=by
  induction k with
  | zero=>rfl
  | succ k c=>rw[dG,eK,c ()];rfl
 rw[m_ ⟨(),(),by rw[dJ,c7];simpa using hk⟩,c7,e]
def BF{xs:ag}{n:Int}(h:xs.Perm<|lA 1<|n+1)(hn:0<=n):(xs.length:Int)=n:=by
 rw[h.length_eq,pU];lia
def ym{xs:ag}{n x:Int}(h:xs.Perm<|lA 1<|n+1)(hx:x∈xs):1<=x/\x<=n:=by
 have:=mU.mp (h.mem_iff.mp hx)
 lia
end Am
namespace K34
open PySem L2 Am
abbrev CJ (S:jV)(b:Nat):Prop:=∃g st:Int,jU S b=some [.int g,.int st]/\0<=g/\0<=st/\st<4294967296
def CJ.kp{c:Nat->Prop}(h:CJ S b)(k:Kp c S S')(hb:¬c b):CJ S' b:=by
 obtain⟨g,st,e,q⟩:=h;exact⟨g,st,k.lst b _ hb e,q⟩
def CJ.lt{S:jV}(h:CJ S b):b<S.length:=by obtain⟨_,_,e,_⟩:=h;exact p6 e
def U0{S:jV}{ns:ag}{k:Int}(h0:0<=k)(h1:k<=100):∃S',ud [.frz<|ns.map .int,.int k] S=.ok (.ref S.length) S'/\CJ S' S.length/\lY S S':=by
 have e3:W0 (.int 10) (.int 18)=λS=>R.ok (.int 1000000000000000000) S:=by
  funext S;exact m_ ⟨by decide,by decide,by decide⟩
 have g:∀x:Int,Ah (.int x) (.int 2147483647)=λS=>R.ok (.int<|x % 2147483647) S:=λx=>by funext S;exact Du ⋯
 have f:∀x:Int,za (.int 7919) (.int x)=λS=>R.ok (.int<|7919 * x) S:=λx=>by funext S;exact Mj ⋯ ⋯
 have d:∀x:Int,0<=x % 2147483647:=λx=>jf _ ⋯;have e:∀x:Int,x % 2147483647<4294967296:=λx=>by have:=gW x (show(0:Int)<2147483647 by decide);lia
 have m:∀c:Int,∃S',((RS.seq (.nx [A.frz<|ns.map .int,.int k,.int c,.unb] S) (kC (kL (eC<|.int 0)<|kR 3)
  (kC (yV (vX<|j7 aGe (jS 2)<|j7 W0 (eC<|.int 10)<|eC<|.int 18) (kL (jS 2)<|kR 3)<|qU)
  (mw<|qN<|jR (jS 3)<|jR (j7 Ah (j7 mF (j7 mF (jS 2)<|j7 za (eC<|.int 7919)<|jS 1)<|eC<|.int 13)<|eC<|.int 2147483647)<|j6)))).end=.ok (.ref S.length) S')/\CJ S' S.length/\lY S S':=by
  intro c;by_cases hc:1000000000000000000<=c
  ·dsimp[kG,bools,e3,g,f,aW hc];exact⟨_,rfl,⟨_,_,kh,(),d _,e _⟩,Kp.refl.lay⟩
  ·dsimp[kG,bools,e3,g,f,bq hc];exact⟨_,rfl,⟨_,_,kh,h_ 0,d _,e _⟩,Kp.refl.lay⟩
 unfold ud zQ zc;dsimp[kG,bools,lR,Nat.reduceAdd,Nat.reduceSub,aI];by_cases j:k<(ns.length:Int)
 ·have hn:k.toNat<ns.length:=()
  have p:sO (ns.map A.int) k=some (.int ns[k.toNat]):=yv (k:=k.toNat) ()<|aH hn;rw[aW j];dsimp[kG,bools,p];have:=m ns[k.toNat];simpa only [kG,bools]using this
 ·rw[bq j];dsimp[kG,bools];have:=m 0;simpa only [kG,bools]using this
def digit{m:Int}(h:CJ S b)(h1:1<=m)(h2:m<1073741824):∃d S',kH [.ref b,.int m] S=.ok (.int d) S'/\0<=d/\d<m/\CJ S' b/\Kp (·=b) S S':=by
 obtain⟨g,st,k,hg,hs,p⟩:=h;have q:=p6 k;have B:CZ 2 0=some 0:=zL rfl ⋯;have J:CZ 2 1=some 1:=zL rfl ⋯;have fin:∀d j c:Int,0<=d->d<m->0<=j->0<=c->c<4294967296->kH [.ref b,.int m] S=.ok (.int d) (S.set b<|.lst [.int j,.int c])->∃d S',kH [.ref b,.int m] S=.ok (.int d) S'/\0<=d/\d<m/\CJ S' b/\Kp (·=b) S S':=
  λd j c L K F G C e=>⟨d,_,e,L,K,⟨j,c,qm q,F,G,C⟩,Kp.refl.set<|.inl rfl⟩
 by_cases f:0<g
 ·refine fin (g % m) (g / m) st (jf _ ()) (gW _ ()) (Int.ediv_nonneg hg ()) hs p ?_;unfold kH su sI;rw[Aw];simp[k,DF,Yl,f,Du<|show 0<m by lia,RW (show 0<m by lia) h2,B]
 ·have e1:0<=(st * 48271+11) % 2147483647:=jf _ ⋯;have e2:(st * 48271+11) % 2147483647<2147483647:=gW _ ⋯;have e3:0<=(st * 48271+11) % 2147483647 / 8:=()
  refine fin ((st * 48271+11) % 2147483647 / 8 * 69621 % 2147483629 % m) g ((st * 48271+11) % 2147483647) (jf _ ()) (gW _ ()) hg e1 () ?_;unfold kH su sI;rw[Aw];simp[k,DF,Yl,f,J,Mj (show -18446744073709551616<st by lia) (),Du<|show(0:Int)<2147483647 by decide,qm q,RW (show(0:Int)<8 by decide) ⋯,Mj (show -18446744073709551616<(st * 48271+11) % 2147483647 / 8 by lia) (),Du<|show(0:Int)<2147483629 by decide,Du<|show 0<m by lia]
open Po (Pl Ok Bd)
def QF{S:jV}{d:Nat}{D:Pl}(hd:l_ S d=some (Po.iv D))(hl:D.length<=16777216):∃S',lK [.ref d] S=.ok (.ref<|S.length+1) S'/\jU S' (S.length+1)=some (Po.pl<|Po.IE D)/\lY S S':=by
 obtain⟨S',e,h1,h2⟩:=T6 hd hl;refine⟨S',?_,h1,h2⟩;unfold lK qJ qE;dsimp[kG,bools,lR,Nat.reduceAdd,Nat.reduceSub];rw[show nc [none,some 0] _ _ _ _ _ _=_ from e];rfl
def MH{S:jV}{n:Nat}{a b:Pl}(hn:jU S n=some (Po.pl a))(hm:jU S m=some (Po.pl b))(ha:Ok a)(hl:a.length+b.length<16777216) :
  ∃(L:Nat) (S':jV),xE [.ref n,.ref m] S=.ok (.ref L) S'/\jU S' L=some (Po.pl<|Po.pG a b)/\S.length<=L/\lY S S':=by
 have f:l_ (S++[.pZ<|Po.iv a]) S.length=some (Po.iv a):=FF;obtain⟨k,j,T,e,d,kp⟩:=Lg (S:=S++[.pZ<|Po.iv a]) (S1:=S++[.pZ<|Po.iv a]) (x0:=.ref n) (x1:=.ref m) (x3:=.unb) (x4:=.unb) (src:=yI) (l:=b) (show yI _ _=_ from qD (by dsimp[kG,bools])<|lg hm) (lg hm) f hl;have ln:=Po.oG b a;obtain⟨S',e2,h1,h2⟩:=QF d ();have c:lY S T:=(Kp.refl.lay (o:=.pZ<|Po.iv a)).old kp λq g _ z=>()
 refine⟨T.length+1,S',?_,by rw[h1,<- Po.V_ ha];rfl,by have:=c.len;lia,c.trans h2⟩;unfold xE Je Ir;dsimp[kG,bools,lR,Nat.reduceAdd,Nat.reduceSub,N_,hn,Po.Xl,Po.WR,Po.Vk ha];rw[show lN yI _ GH _ _=_ from e];dsimp[kG,bools,e2]
def zM(f:Int×Int->A)(hf:∀p τ S,R_ (f p) τ S=R_ (Po.pA p) τ S){S:jV}{n:Nat}{a b:Pl}(hn:jU S n=some (a.map f))(hm:jU S m=some (Po.pl b))(hl:a.length * b.length<16777216)(ha:∀p∈a,p.2.natAbs<big)(hb:∀p∈b,p.2.natAbs<big) :
  ∃(L:Nat) (S':jV),nX [.ref n,.ref m] S=.ok (.ref L) S'/\jU S' L=some (Po.pl<|Po.times a b)/\S.length<=L/\lY S S':=by
 have g:l_ (S++[.pZ []]) S.length=some []:=FF;obtain⟨C,j,B,F,T,e,d,kp⟩:=A9 f hf (S:=S++[.pZ []]) (x3:=.unb) (x4:=.unb) (x5:=.unb) (x6:=.unb) (lg hn) (lg hm) g hl ha hb;have ln:=Po.oG (Po.C5 a b) [];rw[Po.yJ,bX,cF]at ln;obtain⟨S',e2,h1,h2⟩:=QF d (by omega);have c:lY S T:=(Kp.refl.lay (o:=.pZ [])).old kp λq k _ z=>by omega
 refine⟨T.length+1,S',?_,h1,by have:=c.len;omega,c.trans h2⟩;unfold nX Ff Fi;dsimp[kG,bools,lR,Nat.reduceAdd,Nat.reduceSub,yX];rw[show lN DK _ D6 _ _=_ from e];dsimp[kG,bools,e2]
def qA{S:jV}{n:Nat}{a b:Pl}(hn:jU S n=some (Po.pl a))(hm:jU S m=some (Po.pl b))(hl:a.length * b.length<16777216)(ha:∀p∈a,p.2.natAbs<big)(hb:∀p∈b,p.2.natAbs<big) :
  ∃(L:Nat) (S':jV),nX [.ref n,.ref m] S=.ok (.ref L) S'/\jU S' L=some (Po.pl<|Po.times a b)/\S.length<=L/\lY S S':=zM Po.pA (λ_ _ _=>rfl) hn hm hl ha hb
def Nb{S:jV}{n:Nat}{a:Pl}(hn:jU S n=some (Po.pl a))(hl:a.length<=16777216) :
  vQ [.ref n] S=.ok (.ref S.length) (S++[.lst<|Po.pl<|Po.turn a]):=by
 have c:=Qu (l:=a) (n:=n) (cap:=[]) (src:=iRv<|jS 0) (e:=qM<|jR (N5 zq<|jS 0)<|jR (jS 1)<|j6) (τ:=[.ref n]) (S:=S) (S1:=S) (ZC (by dsimp[kG,bools]) hn) hn (λp=>Po.pA (-p.1,p.2)) (λp=>by
  dsimp[kG,bools];exact Ct<|show 2<=16777216 by decide) hl
 unfold vQ BE Bu;dsimp[kG,bools,lR,Nat.reduceAdd,Nat.reduceSub];rw[show nc [none,none] _ _ _ _ _ _=_ from c];unfold Po.pl Po.turn;rw[bK];rfl
end K34
namespace K34
open PySem L2 Am
open Po (Pl Ok Bd)
open Su (Es At Vl)
def Z1{S:jV}{d r:Nat}{D:Es}{o:ag}{p:Pl}{k:Nat}(hd:kK S d=some (D.map Su.kv))(hA:At S D)(hv:Vl k b D)(hr:jU S r=some (Po.pl p))(hl:D.length<16777216)(hk:k+p.length<16777216) :
  ∃(L:Nat) (S':jV),kX [.ref d,.tup<|o.map .int,.ref r] S=.ok .non S'/\kK S' d=some ((Su.r_ D o L<|Po.pG (Su.vS (Su.sm D) o) p).map Su.kv)/\At S' (Su.r_ D o L<|Po.pG (Su.vS (Su.sm D) o) p)/\S.length<=L/\Kp (·=d) S S':=by
 obtain⟨x,ex,q⟩:=Su.get_or (o:=o) hd hA;have B:=hv.v o;obtain⟨L,S2,e2,h1,h2,m⟩:=MH q (lg (o:=.lst []) hr) B.1 ();have g:lY S S2:=(Kp.refl.lay).trans m;have c:=g.dct _ _ (λz=>z) hd;have f:kK (S++[.lst []]) d=some (D.map Su.kv):=Su.E8 hd;refine⟨L,S2.set d<|.dct<|(Su.r_ D o L<|Po.pG (Su.vS (Su.sm D) o) p).map Su.kv,?_,Su.KQ<|Su.IZ c,?_,by simp at h2;lia,g.of0.GP<|.inl rfl⟩
 ·unfold kX uO uN;have C:newL [] S=.ok (.ref S.length) (S++[.lst []]):=mT (show 0<=16777216 by decide);dsimp[kG,bools,lR,Nat.reduceAdd,Nat.reduceSub,Su.KS,Su.L8,hd,dz,C,Su.ER,f,ex,e2,Su.EE,Su.Hh,c,zT<|show(D.map Su.kv).length<16777216 by rw[aI];exact hl,Su.R0 (p:=Po.pG (Su.vS (Su.sm D) o) p)]
 ·refine(Su.At.put (hA.CF g) h1).kp (Kp.refl.GP<|.inl rfl) λe j z=>?_
  rcases Su.wQ j with y|y
  ·exact Su.rW hd (hA e y) z
  ·rw[y]at z;exact Su.rW c h1 z
def El{S:jV}{d:Nat}{D:Es}(hd:kK S d=some (D.map Su.kv))(hA:At S D)(hne:∀e∈D,e.1≠[])(hl:D.length<=16777216) :
  ∃(n:Nat) (S':jV),nR [.ref d] S=.ok (.ref n) S'/\jU S' n=some ((Su.w_ D λp=>!p.isEmpty).map Su.ent)/\At S' (Su.w_ D λp=>!p.isEmpty)/\S.length<n/\lY S S':=by
 have j:=Su.OX hd hne;obtain⟨n,S',e,h1,h2,h3,m⟩:=Su.Pa (cap:=[some 0]) (τ:=[.ref d]) (src:=pI<|kZ (f1 Fe)<|jR (jS 0)<|j6) (t:=CN<|j7 CW (jS 1)<|jS 0) (e:=qM<|jR (jS 0)<|jR (j7 CW (jS 1)<|jS 0)<|j6) hd hA (qD (by dsimp[kG,bools,j]) kh) (λp=>!p.isEmpty)
  (λo r q T c f g=>⟨T,by
   have k:A.Xh (.ref r) T=some (!q.isEmpty):=by
    show(jU T r).map _=_;rw[g]
    cases q<;>rfl
   dsimp[kG,bools,Su.CQ,Su.AA,c,f,k],Kp.refl⟩)
  (λo r T c f=>by
   dsimp[kG,bools,Su.CQ,Su.AA,c,f];exact Ct<|show 2<=16777216 by decide) hl
 refine⟨n,S',?_,h1,h2,h3,m⟩;unfold nR Be Cs;dsimp[kG,bools,lR,Nat.reduceAdd,Nat.reduceSub,e]
def vf:Su.E2 kX:=λh1 h2 h3 e d c=>Z1 h1 h2 h3 e d c
def Jq:Su.NB nX:=λh1 h2 h3 d c=>qA h1 h2 h3 d c
open Po (Pl Ok Bd)
open Su (Es At Vl)
structure Sm (S:jV)(n:Nat)(es:Es):Prop where
 l:jU S n=some (es.map Su.ent)
 a:At S es
def Sm.kp{n:Nat}(h:Sm S n es)(k:lY S S'):Sm S' n es:=⟨k.lst _ _ (λz=>z) h.l,h.a.CF k⟩
def uU{a b:ag}(h:a.length=b.length):mH [.tup<|a.map .int,.tup<|b.map .int] S=.ok .non S:=by
 unfold mH vJ vc;have:((a.length:Int) == (b.length:Int))=true:=by rw[h];exact bS _
 dsimp[kG,nE,bools,lR,Nat.reduceAdd,Nat.reduceSub,aI,this,b_]
def HA{n:Nat}{xs:ae}(h:jU S n=some xs):A.Xh (.ref n) S=some (!xs.isEmpty):=by
 show(jU S n).map _=_;rw[h];rfl
def Fy{n N:Nat}{es fs:Es}(h:Sm S n es)(h':Sm S m fs)(h1:∀e∈es,e.1.length=N)(h2:∀e∈fs,e.1.length=N):qq [.ref n,.ref m] S=.ok .non S:=by
 unfold qq vZ vK;dsimp[kG,nE,bools,lR,Nat.reduceAdd,Nat.reduceSub,HA h.l,HA h'.l]
 cases es with
 | nil=>dsimp[kG,nE,bools,ig,iU,b_]
 | cons e es=>cases fs with
  | nil=>dsimp[kG,nE,bools,ig,iU,b_,bL,List.isEmpty_cons,cP,HA h'.l]
  | cons f fs=>
   have q:=uU (S:=S)<|(h1 e<|aK ..).trans (h2 f<|aK ..).symm;have d:=h.l;have c:=h'.l;rw[bL]at d c;dsimp[kG,nE,bools,bL,List.isEmpty_cons,cP,HA c,d,c,DF,Su.ent,q]
meta abbrev wd (w:ar):ae:=w.map λk:Nat=>A.int (k:Int)
def Z9{l:ag}{k:Nat}{i:Int}(h:i=k)(hk:k<l.length):sO (l.map A.int) i=some (.int<|l.getD k 0):=yv h<|by rw[aL,aH hk];rfl
def UW{l:ag}{k:Nat}:((l.map A.int).set (k-1)<|.int<|l.getD k 0).set k (.int<|l.getD (k-1) 0)=(Wd.ex l k).map A.int:=by
 unfold Wd.ex;rw[iI,iI]
def ac1{f g:A->A->jV->R A}{ca cb cc:Ex}{a c:A}(h1:ca τ S=.ok a S)(h2:cb τ S=.ok b S)(h3:f a b S=.ok (.bl true) S)(h4:cc τ S=.ok c S):Ux f g ca cb cc τ S=g b c S:=by
 unfold Ux;rw[h1,R.nV,h2,R.nV,h3,R.nV];unfold kCh;show(cc τ S).bind _=_;rw[h4];rfl
def adP{f g:A->A->jV->R A}{ca cb cc:Ex}{a:A}(h1:ca τ S=.ok a S)(h2:cb τ S=.ok b S)(h3:f a b S=.ok (.bl false) S):Ux f g ca cb cc τ S=.ok (.bl false) S:=by
 unfold Ux;rw[h1,R.nV,h2,R.nV,h3,R.nV];rfl
def Zd{i:Int}:rG [.int i] S=.ok (.bl true) S:=by
 unfold rG xM xj;dsimp[kG,bools,lR,Nat.reduceAdd,Nat.reduceSub,show Ob .int "int" = some true from rfl,show Ob .int "bool" = some false from rfl,cP]
def adD{n k:Int}(h1:1<=k)(h2:k<n):oH [.int n,.int k] S=.ok (.bl true) S:=by
 unfold oH tB tW;have c:Ux Y0 VB (eC<|.int 1) (jS 1) (jS 0) [.int n,.int k] S=.ok (.bl true) S:=by
  rw[ac1 (a:=.int 1) (b:=.int k) (c:=.int n) rfl rfl (by dsimp[kG,aW h1]) rfl];dsimp[kG,aW h2]
 dsimp[kG,bools,lR,Nat.reduceAdd,Nat.reduceSub,Zd,c]
def yx{xs:ag}{k:Nat}(h1:1<=k)(h2:k<xs.length)(hl:xs.length<=1000):∃S',lz [.tup<|xs.map .int,.int k] S=.ok (.tup<|(Wd.ex xs k).map .int) S'/\lY S S':=by
 have e1:=adD (S:=S) (n:=(xs.length:Int)) (k:=(k:Int)) (by omega) (by omega);have j:sO (xs.map A.int) (k:Int)=some (.int<|xs.getD k 0):=Z9 rfl (by omega);have c:sO (xs.map A.int) ((k:Int)-1)=some (.int<|xs.getD (k-1) 0):=Z9 (k:=k-1) (by omega) (by omega);have g:CZ xs.length ((k:Int)-1)=some (k-1):=zL (by omega) (by omega);have e:CZ xs.length (k:Int)=some k:=zL rfl (by omega);have d:jU (S++[O.lst<|xs.map .int]) S.length=some (xs.map .int):=kh;have f:∀ys,jU ((S++[O.lst<|xs.map .int]).set S.length<|.lst ys) S.length=some ys:=λys=>qm (by simp);have e2:l9 [.tup<|xs.map .int,.int k,.int<|(k:Int)+1] S=.ok (.tup<|(Wd.ex xs k).map .int) (((S++[O.lst<|xs.map .int]).set S.length<|.lst<|(xs.map A.int).set (k-1)<|.int<|xs.getD k 0).set S.length<|.lst<|(Wd.ex xs k).map .int):=by
  unfold l9 oY oZ;dsimp[kG,bools,lR,Nat.reduceAdd,Nat.reduceSub,d,show(k:Int)+1-1=k by omega,j,c,m_<|show 2<=sizeLine by decide,m_<|show 2=2 from rfl,aI,g,f,bW,e,UW];rw[qm<|by simp];dsimp[kG,bools]
 unfold lz wg v9;dsimp[kG,nE,bools,lR,Nat.reduceAdd,Nat.reduceSub,aI,e1,b_,e2];exact⟨_,rfl,((Kp.refl.lay).set<|.inr<|aP _).set<|.inr<|aP _⟩
def ixG{xs:ag}{i:Int}(h1:0<=i)(h2:i<xs.length):sO (xs.map A.int) i=some (.int<|xs.getD i.toNat 0):=Z9 (k:=i.toNat) () ()
abbrev fl (xs:ag)(n:Nat):ag:=(lA 1 (n:Int)).filter λk=>decide<|xs.getD (k-1).toNat 0>xs.getD k.toNat 0
def vW{S:jV}{n:Nat}{xs:ag}(hlen:xs.length=n)(h2:n<=20):pM [.tup<|xs.map .int] S=.ok (.ref S.length) (S++[.lst<|(fl xs n).map .int]):=by
 have c:=SE (lo:=1) (hi:=(n:Int)) (cap:=[some 0]) (src:=zX (eC<|.int 1)<|kZ (f1 sR)<|jR (jS 0)<|j6) (t:=vX<|j7 WW (j7 tZ (jS 1)<|j7 aSub (jS 0)<|eC<|.int 1)<|j7 tZ (jS 1)<|jS 0) (e:=jS 0) (τ:=[.tup<|xs.map .int]) (S:=S) (S1:=S)
  (Gp (S1:=S) (by dsimp[kG,bools]) (by dsimp[kG,bools,aI,hlen]) (pR () ())<|pR () ())
  (λk=>decide<|xs.getD (k-1).toNat 0>xs.getD k.toNat 0) (λk=>.int k) (λk h1 h2=>by
   have f:sO (xs.map A.int) (k-1)=some (.int<|xs.getD (k-1).toNat 0):=ixG () ();have d:sO (xs.map A.int) k=some (.int<|xs.getD k.toNat 0):=ixG () ();dsimp[kG,bools,f,d]) (λk _ _ _=>by dsimp[kG,bools]) ()
 unfold pM Ey Ec;dsimp[kG,bools,lR,Nat.reduceAdd,Nat.reduceSub,c];rfl
theorem D9{t:Int}:∀(p:ag),inA S (.int t) (p.map .int)=some (decide<|t∈p)
 | []=>rfl
 | x::p=>by
  show(xV S 12 (.int x)<|.int t).bind (λa=>(inA S (.int t)<|p.map .int).map λb=>a || b)=_;rw[D9 p];show some ((x == t) || decide (t∈p))=_;by_cases c:x=t
  ·subst c;rw[bS,aW (show x∈x::p from aK ..)];rfl
  ·rw[cV.mpr c];congr 1;rw[gK,gG];constructor
   ·exact λz=>aO _ z
   ·intro z
    rcases bB.mp z with z|z
    ·exact absurd z.symm c
    ·exact z
open Po (Pl Ok Bd)
open Su (Es At Vl AF)
def WJ{o:ag}{N k:Nat}(hl:o.length=N)(h1:1<=k)(h2:k<N):decide ((k:Int)∈fl o N)=Su.mq o k:=by
 unfold fl Su.mq;rw[gG,cD,mU,eN,show((k:Int)-1).toNat=k-1 by lia,c7];constructor
 ·exact λh=>h.2
 ·exact λh=>⟨⟨(),()⟩,h⟩
def V5{S:jV}{n N k:Nat}{es:Es}(h:Sm S n es)(h1:∀e∈es,e.1.length=N/\2 * e.2.2.length<=j/\∀p∈e.2.2,p.2.natAbs<big)(k1:1<=k)(k2:k<N)(hN:N<=20)(hl:(2 * es.length+2) * j<16777216)(hl':es.length<=100000) :
  ∃(L:Nat) (S':jV) (rs:Es),nv [.ref n,.int k] S=.ok (.ref L) S'/\Sm S' L rs/\Su.sm rs=Su.bx k (Su.sm es)/\(∀e∈rs,Ok e.2.2/\e.2.2≠[]/\e.2.2.length<=2 * es.length * j/\S.length<=e.2.1/\e.2.1<L)/\Su.Ap rs/\rs.length<=2 * es.length/\S.length<=L/\lY S S':=by
 have k0:lY S (S++[.dct []]):=Kp.refl.lay;obtain⟨y3,y4,xs,D,T,hz,e1,f,kp⟩:=Su.Bo (w:=2) (j:=j) (b:=S.length) (i0:=0) (S:=S++[.dct []]) (S1:=S++[.dct []]) (d:=S.length) (n:=n) (es:=es) (src:=oQ) (c:=nh) (g:=Ac 2<|qW (kR 3)<|qW (kR 4)<|Af) (λy z _=>[.ref n,.int k,.ref S.length,y,z]) (λ_=>True) (Su.gX k) (λ_ _ _ _ _=>rfl) (x3:=.unb) (x4:=.unb) (xs0:=[]) trivial
  (show oQ _ _=_ from qD (by dsimp[kG,bools])<|lg h.l) (lg h.l) (Su.Fil.new Su.qV) λi e T Q D xs hi K _ F f=>by
   obtain⟨P,b2,b3⟩:=h1 e K;have tl:=F.len;have hm:2 * i+2<=2 * es.length:=()
   have hm2:(2 * i+2) * j<=(2 * es.length) * j:=cH _ hm;have hm3:(2 * es.length+2) * j=2 * es.length * j+2 * j:=by rw[Nat.add_mul]
   have hm4:(2 * i+2) * j=(2 * i+1) * j+j:=fC _ _;have hm5:(2 * i+1) * j=2 * i * j+j:=fC _ _;rw[aV]at tl;obtain⟨T0,e0,M⟩:=yx (S:=T) (xs:=e.1) (k:=k) k1 () ();have aT:=((h.a.CF k0).Mq F Su.qV).CF M;have f0:=f.CF M;have qtl:=M.len;rw[cF]at f0;have W:Wd.ex e.1 k≠[]:=λz=>by have:=Wd.lJ e.1 k;rw[z]at this;simp at this;lia
   obtain⟨D1,T1,e1,f1,B⟩:=f0.add vf (o:=Wd.ex e.1 k) (aT e K) () W () () ();have k1l:=B.len;have Z:=vW (S:=T1) (xs:=e.1) (n:=N) P hN;have m:aIn false (.int k) (.ref T1.length) (T1++[.lst<|(fl e.1 N).map .int])=.ok (.bl<|Su.mq e.1 k) (T1++[.lst<|(fl e.1 N).map .int]):=by
    show opt (jU _ _) _=_;rw[kh,kD,D9,WJ P k1 k2];rfl
   have J:lY T1 (T1++[.lst<|(fl e.1 N).map .int]):=Kp.refl.lay;obtain⟨U,hU⟩:∃U,U=T1++[O.lst<|(fl e.1 N).map .int]:=⟨_,rfl⟩;rw[<- hU]at m J Z;have fU:=f1.CF J;have G:Kp (·=S.length) T U:=(M.of0.trans B).trans J.of0
   cases hf:Su.mq e.1 k with
   | false=>
    refine⟨D1,U,[],trivial,?_,?_,G⟩
    ·rw[hf]at m;unfold nh;dsimp[kG,nE,bools,e0,e1,Z,m]
    ·rw[cF];unfold Su.gX;rw[hf,aJ<|by simp];exact fU.mono ()
   | true=>
    have aU:=(aT.Mq B f0.dd).CF J;have n0:jU (U++[.lst<|AF.map kA]) U.length=some (AF.map kA):=kh;obtain⟨L,T2,e2,l1,l2,Y⟩:=zM kA (λ_ _ _=>rfl) n0 (lg (o:=.lst<|AF.map kA)<|aU e K) (show 2 * e.2.2.length<16777216 by lia) (λp hp=>by
     rw[qT]
     rcases bB.mp hp with z|z
     ·rw[z];exact show 1<2 ^ 4096 by decide +kernel
     ·rw[aS.mp z];exact show 1<2 ^ 4096 by decide +kernel) b3
    have C:lY U T2:=(Kp.refl.lay).trans Y;have tl2:=C.len;have tle:=J.len;obtain⟨D2,T3,e3,f3,V⟩:=(fU.CF C).add vf (o:=e.1) l1 (bH (Su.wJ _ _)<|show 2 * e.2.2.length<=j from b2) (λz=>by rw[z]at P;simp at P;lia) () () ();refine⟨D2,T3,[],trivial,?_,?_,(G.trans C.of0).trans V⟩
    ·rw[hf]at m;unfold nh;dsimp[kG,nE,bools,e0,e1,Z,m];rw[show[((-1:Int),(1:Int)),((1:Int),(-1:Int))].map kA=AF.map kA from rfl];dsimp[kG,nE,bools,e2,e3]
    ·rw[cF];unfold Su.gX;rw[hf,aM rfl];exact f3
 have F:lY S T:=k0.old kp λq hq _ z=>()
 have fl:=f.ll;rw[cF]at fl;obtain⟨L,S',e2,r1,r2,r3,r4⟩:=El f.dd f.aa f.kk ();have tl:=F.len;have fs:=f.ss;rw[Su.Ko]at fs;refine⟨L,S',_,?_,⟨r1,r2⟩,by rw[Su.A2,fs];rfl,λe K=>?_,f.pw.out _,?_,(),F.trans r4⟩
 ·unfold nv sV tU;dsimp[kG,nE,bools,lR,Nat.reduceAdd,Nat.reduceSub,Su.yG];rw[show lN oQ _ nh _ _=_ from e1];dsimp[kG,nE,bools,e2]
 ·obtain⟨m1,m2⟩:=Su.A0 K;obtain⟨v1,v2,v3⟩:=f.vv e m1;have lt:=p6<|f.aa e m1;rw[cF]at v2;exact⟨v1,λz=>(by rw[z]at m2;cases m2),v2,v3,()⟩
 ·unfold Su.w_;rw[aI];refine bH (gq _ _) ?_;rw[(kP _).length_eq,aI];exact fl
end K34
namespace K34
open PySem L2 Am
open Po (Pl Ok Bd)
open Su (Es At Vl AF)
open He (Sz)
open Fw (rg)
def Sm.Mq{n d:Nat}(h:Sm S n es)(k:Kp (·=d) S S')(hd:kK S d=some kvs):Sm S' n es:=⟨k.lst _ _ (λz=>Su.rW hd h.l z.symm) h.l,h.a.Mq k hd⟩
def qc{N:Nat}{o:ag}(h:o.Perm<|rg N):o.length=N:=by rw[h.length_eq,Wd.j3]
def pW{es:Es}{l:Su.Ps}(h:Su.sm es=l){e:Su.En}(he:e∈es):(e.1,e.2.2)∈l:=by rw[<- h];exact bI.mpr ⟨e,he,rfl⟩
structure Kn (N:Nat)(Φ:ag->Su.Ps)(T:jV)(d:Nat)(K:Es):Prop where
 dd:kK T d=some (K.map Su.kv)
 gd:Su.Gd (Su.sm K)
 pm:∀e∈K,e.1.Perm (rg N)
 at_:∀e∈K,∃es:Es,Sm T e.2.1 es/\Su.sm es=Φ e.1
def Kn.CF{N d:Nat}{Φ:ag->Su.Ps}{K:Es}(h:Kn N Φ T d K)(k:lY T T'):Kn N Φ T' d K:=⟨k.dct _ _ (λz=>z) h.dd,h.gd,h.pm,λe c=>by obtain⟨es,a,b⟩:=h.at_ e c;exact⟨es,a.kp k,b⟩⟩
def Kn.Mq{N d f:Nat}{Φ:ag->Su.Ps}{K:Es}(h:Kn N Φ T d K)(k:Kp (·=f) T T')(hf:kK T f=some kvs)(ne:d≠f):Kn N Φ T' d K:=⟨k.dct _ _ ne h.dd,h.gd,h.pm,λe c=>by obtain⟨es,a,b⟩:=h.at_ e c;exact⟨es,a.Mq k hf,b⟩⟩
def Kn.many{N d:Nat}{Φ:ag->Su.Ps}{K:Es}(hN:N<6)(h:Kn N Φ T d K):K.length<=120:=by
 have:=He.many hN h.gd.nd λo g=>by
  obtain⟨e,c,rfl⟩:=bI.mp g;obtain⟨f,hf,rfl⟩:=bI.mp c;exact h.pm f hf
 rwa [aI,Su.zy]at this
def aax:Ok []:=⟨List.Pairwise.nil,nofun⟩
def Kn.put{N d r:Nat}{Φ:ag->Su.Ps}{K:Es}{o:ag}(hN:N<6)(h:Kn N Φ T d K)(po:o.Perm<|rg N)(hr:Sm T r es)(he:Su.sm es=Φ o) :
  ∃T' K',Gz (.ref d) (.tup<|o.map .int) (.ref r) T=.ok Unit.unit T'/\Kn N Φ T' d K'/\CW (.ref d) (.tup<|o.map .int) T'=.ok (.ref r) T'/\Sm T' r es/\Kp (·=d) T T':=by
 have k:Kp (·=d) T (T.set d<|.dct<|(Su.r_ K o r []).map Su.kv):=Kp.refl.GP<|.inl rfl;have dd:kK (T.set d<|.dct<|(Su.r_ K o r []).map Su.kv) d=some ((Su.r_ K o r []).map Su.kv):=Su.KQ<|Su.IZ h.dd;obtain⟨e,e1,e2⟩:=Su.NJ (D:=K) (o:=o) (r:=r) (p:=[]);have f:=h.many hN;refine⟨_,Su.r_ K o r [],?_,⟨dd,?_,λe he=>?_,λe c=>?_⟩,?_,hr.Mq k h.dd,k⟩
 ·rw[Su.Hh,h.dd,kD,Su.R0 (p:=[])];exact zT (show(K.map Su.kv).length<16777216 by rw[aI];lia)
 ·rw[Su.Se];exact h.gd.put aax
 ·rcases Su.wQ he with z|z
  ·exact h.pm e z
  ·rw[z];exact po
 ·rcases Su.wQ c with z|z
  ·obtain⟨fs,a,b⟩:=h.at_ e z;exact⟨fs,a.Mq k h.dd,b⟩
  ·rw[z];exact⟨es,hr.Mq k h.dd,he⟩
 ·rw[Su.AA,dd,kD,Su.wM,e1,dz,kD,e2]
def YI{d:Nat}{o:ag}:Ve true (.tup<|o.map .int) (.ref d) S=opt (kK S d) λkvs=>.ok (.bl<|!(mC kvs o).isSome) S:=by
 show opt (kK S d) (λkvs=>opt (A.ints<|o.map .int) λc=>_)=_;rw[ints_map];rfl
open Po (Pl Ok Bd)
open Su (Es At Vl AF)
open He (Sz)
open Fw (rg)
structure Nw (b L:Nat)(rs:Es):Prop where
 ap:Su.Ap rs
 nw:∀e∈rs,b<=e.2.1/\e.2.1<L
def sH{xs:ag}{n:Nat}(px:xs.Perm<|lA 1<|(n:Int)+1):xs.length=n:=by have:=BF px ();lia
def Jk{xs:ag}{n:Int}(px:xs.Perm<|lA 1<|n+1):xs.Nodup:=px.nodup_iff.mpr<|nJ _ _
def WK{xs:ag}{n:Nat}(px:xs.Perm<|lA 1<|(n:Int)+1)(h2:n<=1000):∃(ys:ag) (S':jV),CA [.tup<|xs.map .int] S=.ok (.tup<|ys.map .int) S'/\Bl.qL xs ys/\ys.Perm (lA 1<|(n:Int)+1)/\lY S S':=by
 have J:=sH px;unfold CA Jp Ip;dsimp[kG,bools,lR,Nat.reduceAdd,Nat.reduceSub,aI,J];rw[X5 (k:=n) kh ()];dsimp[kG,bools];have d:(S++[O.lst [.int 0]]).length=S.length+1:=by simp
 rw[d];refine aaC (xs:=xs.map .int) (S1:=S++[O.lst [.int 0]]++[O.lst<|List.replicate n<|.int 0]) (aa0<|by dsimp[kG,bools])
  (λt τ S'=>∃(q j:A) (ps:ag),τ=[.tup<|xs.map .int,.ref<|S.length+1,q,j]/\jU S' (S.length+1)=some (ps.map .int)/\ps.length=n/\(∀(p:Nat) (h:p<xs.length),p<t->ps[(xs[p]-1).toNat]?=some ((p:Int)+1))/\lY S S')
  (λr=>∃(ys:ag) (S':jV),RS.end (RS.seq r _)=.ok (.tup<|ys.map .int) S'/\Bl.qL xs ys/\ys.Perm (lA 1<|(n:Int)+1)/\lY S S') ⟨.unb,.unb,List.replicate n 0,rfl,?_,by simp,λ_ _ h=>absurd h<|eS _,Kp.refl.lay.lay⟩ ?_ ?_
 ·rw[List.map_replicate,<- d];exact kh
 ·rintro t x τ S' F ⟨q,j,ps,rfl,g,C,c,m⟩;rw[aX]at F;obtain⟨v,hv,rfl⟩:=bg.mp F;obtain⟨M,B⟩:=aN.mp hv;have mv:=ym px<|aY hv;refine⟨_,_,by dsimp[kG,bools,m_<|show([_,_]:ae).length=2 from rfl];rfl,.inl ?_⟩;have hi:CZ ps.length (v-1)=some (v-1).toNat:=zL () ();have K:=p6 g;unfold G8;dsimp[kG,bools,g,aI,hi];refine⟨_,_,rfl,_,_,ps.set (v-1).toNat<|(t:Int)+1,rfl,?_,by rw[bW];exact C,λp f L=>?_,m.set<|.inr ()⟩
  ·rw[qm K,iI]
  ·by_cases e:p=t
   ·subst e;rw[B,bJ ()]
   ·have G:(xs[p]-1).toNat≠(v-1).toNat:=λz=>by
     have mp:=ym px<|eg f;have:xs[p]=xs[t]:=by rw[B];lia
     exact e<|(dB<|Jk px).mp this
    rw[bP<|c9 G];exact c p f ()
 ·rintro τ S' ⟨q,j,ps,rfl,g,C,c,m⟩;rw[aI]at c;refine⟨ps,S',by dsimp[kG,bools,g],⟨(),λp h=>c p h h⟩,?_,m⟩;refine(we (nJ _ _) (λv hv=>?_)<|by rw[pU];lia).symm;have:=mU.mp hv;have f:(v-1).toNat<xs.length:=()
  have:=aY (c (v-1).toNat f f)
  rwa [show(((v-1).toNat:Nat):Int)+1=v by lia]at this
end K34
namespace K34
open PySem L2 Am
open Po (Pl Ok Bd)
def Mt{S:jV}{d:Nat}{D:Pl}(hd:l_ S d=some (Po.iv D))(hl:D.length<=16777216):∃S',mz [.ref d] S=.ok (.ref<|S.length+1) S'/\jU S' (S.length+1)=some (Po.pl<|Po.IE D)/\lY S S':=by
 obtain⟨S',e,h1,h2⟩:=T6 hd hl;refine⟨S',?_,h1,h2⟩;unfold mz rj rH;dsimp[kG,bools,lR,Nat.reduceAdd,Nat.reduceSub];rw[show nc [none,some 0] _ _ _ _ _ _=_ from e];rfl
def TF{S:jV}{n:Nat}{a b:Pl}(hn:jU S n=some (Po.pl a))(hm:jU S m=some (Po.pl b))(hl:a.length+b.length<16777216) :
  ∃(L:Nat) (S':jV),nU [.ref n,.ref m] S=.ok (.ref L) S'/\jU S' L=some (Po.pl<|Po.pG a b)/\S.length<=L/\lY S S':=by
 have g:l_ (S++[.pZ []]++[.lst<|Po.pl<|a++b]) S.length=some (Po.iv []):=Ud FF;have f:mF (.ref n) (.ref m) (S++[.pZ []])=.ok (.ref (S++[O.pZ []]).length) (S++[.pZ []]++[.lst<|Po.pl<|a++b]):=by
  show opt (jU (S++[.pZ []]) n) _=_;rw[lg hn,kD,lg hm,kD];unfold Po.pl;rw[bZ];exact Ct<|show(a.map Po.pA).length+(b.map Po.pA).length<=16777216 by rw[aI,aI];omega
 obtain⟨p,k,T,e,d,kp⟩:=Lg (S:=S++[.pZ []]) (S1:=S++[.pZ []]++[.lst<|Po.pl<|a++b]) (x0:=.ref n) (x1:=.ref m) (x3:=.unb) (x4:=.unb) (src:=n6) (l:=a++b) (show n6 _ _=_ from qD (by dsimp[kG,bools,f]) kh) kh g (by rw[aV];simpa using hl);have ln:=Po.oG (a++b) [];rw[aV,bX,cF]at ln;obtain⟨S',e2,h1,h2⟩:=Mt d (by omega);have c:lY S T:=((Kp.refl.lay (o:=.pZ [])).lay (o:=.lst<|Po.pl<|a++b)).old kp λq j _ z=>by omega
 refine⟨T.length+1,S',?_,h1,by have:=c.len;omega,c.trans h2⟩;unfold nU rP rR;dsimp[kG,bools,lR,Nat.reduceAdd,Nat.reduceSub,yX];rw[show lN n6 _ uw _ _=_ from e];dsimp[kG,bools,e2]
def Og{S:jV}{n:Nat}{a b:Pl}(hn:jU S n=some (Po.pl a))(hm:jU S m=some (Po.pl b))(hl:a.length * b.length<16777216)(ha:∀p∈a,p.2.natAbs<big)(hb:∀p∈b,p.2.natAbs<big) :
  ∃(L:Nat) (S':jV),m9 [.ref n,.ref m] S=.ok (.ref L) S'/\jU S' L=some (Po.pl<|Po.times a b)/\S.length<=L/\lY S S':=by
 have f:l_ (S++[.pZ []]) S.length=some []:=FF;obtain⟨B,g,k,C,T,e,d,kp⟩:=Ni (S:=S++[.pZ []]) (x3:=.unb) (x4:=.unb) (x5:=.unb) (x6:=.unb) (lg hn) (lg hm) f hl ha hb;have ln:=Po.oG (Po.C5 a b) [];rw[Po.yJ,bX,cF]at ln;obtain⟨S',e2,h1,h2⟩:=Mt d ();have c:lY S T:=(Kp.refl.lay (o:=.pZ [])).old kp λq j _ z=>()
 refine⟨T.length+1,S',?_,h1,by have:=c.len;lia,c.trans h2⟩;unfold m9 qH qF;dsimp[kG,bools,lR,Nat.reduceAdd,Nat.reduceSub,yX];rw[show lN sL _ sF _ _=_ from e];dsimp[kG,bools,e2]
open Po (Pl Ok Bd)
open Po (Pl Ok Bd)
open Su (Es At Vl)
def adM(xs:ae)(j:Nat)(h:j<=xs.length):yU xs none (some (j:Int))=xs.take j:=by
 unfold yU;rw[HT.u5,HT.GU,List.drop_zero,f_<|by omega,Nat.sub_zero]
def slT{us:ag}{t:Nat}(h:t<us.length):Jt (.tup<|us.map .int) none (some (t:Int)) S=.ok (.tup<|(us.take t).map .int) S:=by
 have hg:¬(HT.oK (us.map A.int).length 0 none=0/\HT.oK (us.map A.int).length (us.map A.int).length (some (t:Int))=(us.map A.int).length):=by
  rw[HT.u5,aI]
  lia
 have hs:Jt (.tup<|us.map .int) none (some (t:Int)) S=.ok (.tup<|yU (us.map .int) none<|some (t:Int)) S:=m_ hg;rw[hs,adM _ t<|by rw[aI];lia,map_take]
def slD{us:ag}{t:Nat}(h0:1<=t)(h:t<=us.length):Jt (.tup<|us.map .int) (some (t:Int)) none S=.ok (.tup<|(us.drop t).map .int) S:=by
 have hg:¬(HT.oK (us.map A.int).length 0 (some (t:Int))=0/\HT.oK (us.map A.int).length (us.map A.int).length none=(us.map A.int).length):=by
  rw[HT.u5,aI]
  lia
 have hs:Jt (.tup<|us.map .int) (some (t:Int)) none S=.ok (.tup<|yU (us.map .int) (some (t:Int)) none) S:=m_ hg;rw[hs];congr 2;unfold yU;rw[HT.u5,HT.GU,aI,f_ (),eU<|by simp,map_drop]
open Po (Pl Ok Bd)
open Su (Es At Vl)
open He (Sz)
def Y7{S:jV}{n N P c:Nat}{fs:Es}(hN:N<6)(h0:1<=N)(h:Sm S n es)(h':Sm S m fs)(hz:Sz N P C<|Su.sm es)(hz':Sz N P c<|Su.sm fs)(hP:P<=10000) :
  ∃(L:Nat) (S':jV) (rs:Es),wK [.ref n,.ref m] S=.ok (.ref L) S'/\Sm S' L rs/\Su.sm rs=He.Nd (Su.sm es) (Su.sm fs)/\Nw S.length L rs/\S.length<=L/\lY S S':=by
 have U:=Fy h h' (λe g=>qc<|hz.pm _<|pW rfl g) λe g=>qc<|hz'.pm _<|pW rfl g;have k:=hz.many hN;have K:=hz'.many hN;rw[Su.zy]at k K;have Y:(es++fs).length=es.length+fs.length:=aV ..;have V:jU (S++[.dct []]) n=some (es.map Su.ent):=lg h.l;have W:jU (S++[.dct []]) m=some (fs.map Su.ent):=lg h'.l;have J:=aci V W (by rw[aI,aI];lia);rw[<- bZ]at J;have p:lY S (S++[.dct []]++[.lst<|(es++fs).map Su.ent]):=Kp.refl.lay.lay;have F:∀e∈es++fs,e.2.2.length<=2 * P+1/\e.1≠[]:=λe g=>by
  have:e.1.length=N/\e.2.2.length<=2 * P+1:=(bG.mp g).elim (λz=>⟨qc<|hz.pm _<|pW rfl z,(hz.pb<|pW rfl z).2⟩) λz=>⟨qc<|hz'.pm _<|pW rfl z,(hz'.pb<|pW rfl z).2⟩;exact⟨this.2,λz=>by rw[z]at this;have:=this.1;simp at this;lia⟩
 obtain⟨j,B⟩:∃j,j=2 * P+1:=⟨_,rfl⟩;rw[<- B]at F;have O:(0+(es++fs).length) * j+j<16777216:=by
  have:(0+(es++fs).length) * j<=240 * j:=cH _ ()
  lia
 obtain⟨y3,y4,D,T,e1,f,kp⟩:=Su.WV vf (j:=j) (b:=S.length) (i0:=0) (S:=S++[.dct []]) (S1:=S++[.dct []]++[.lst<|(es++fs).map Su.ent]) (d:=S.length) (x0:=.ref n) (x1:=.ref m) (x3:=.unb) (x4:=.unb) (xs:=[]) (src:=wG) (es:=es++fs)
  (show wG _ _=_ from qD (by dsimp[kG,bools,J]) kh) kh ((h.a.app h'.a).CF p) (Su.Fil.new<|Su.E8 Su.qV) p.len F O ()
 have G:lY S T:=p.old kp λq hq _ z=>()
 have fl:=f.ll;obtain⟨L,S',e2,r1,r2,r3,Z⟩:=El f.dd f.aa f.kk ();have tl:=G.len;refine⟨L,S',_,?_,⟨r1,r2⟩,by rw[Su.A2,f.ss,Su.SN];rfl,⟨f.pw.out _,λe g=>?_⟩,(),G.trans Z⟩
 ·unfold wK FD FH;dsimp[kG,nE,bools,lR,Nat.reduceAdd,Nat.reduceSub,U,Su.yG];rw[show lN wG _ Dv _ _=_ from e1];dsimp[kG,nE,bools,e2]
 ·obtain⟨k,K⟩:=Su.A0 g;obtain⟨v1,v2,M⟩:=f.vv e k;have lt:=p6<|f.aa e k;exact⟨M,()⟩
abbrev Sn (N P C:Nat)(S:jV)(n:Nat)(l:Su.Ps):Prop:=Sz N P C l/\∃es,Sm S n es/\Su.sm es=l
end K34
namespace K34
open PySem L2 Am
open Fw (xH Dn Two Va rg)
def Jg{l:ag}{n:Nat}(hl:l.length=n){x:Int}:x∈fl l n ↔ ∃k:Nat,x=k/\xH l k:=by
 unfold fl;rw[cD,mU,eN];constructor
 ·rintro⟨⟨h1,h2⟩,h3⟩;refine⟨x.toNat,(),(),(),?_⟩;rw[show(x-1).toNat=x.toNat-1 by lia]at h3;exact h3
 ·rintro⟨k,rfl,h1,h2,h3⟩;refine⟨⟨(),()⟩,?_⟩;rw[show((k:Int)-1).toNat=k-1 by lia,c7];exact h3
def Ws{l:ag}{n:Nat}(hl:l.length=n)(h:∀k,¬xH l k):fl l n=[]:=by
 rw[List.eq_nil_iff_forall_not_mem];intro x c;obtain⟨k,_,d⟩:=(Jg hl).mp c;exact h k d
def VI{l:ag}{n k:Nat}(hl:l.length=n)(hk:xH l k)(hm:∀j,xH l j->k<=j):∃t,fl l n=(k:Int)::t:=by
 have c:(k:Int)∈fl l n:=(Jg hl).mpr ⟨k,rfl,hk⟩;have f:(fl l n).Pairwise (·<=·):=(EM 1 (n:Int)).sublist List.filter_sublist;have d:∀x∈fl l n,(k:Int)<=x:=λx g=>by
  obtain⟨j,rfl,m⟩:=(Jg hl).mp g;have:=hm j m
  lia
 cases e:fl l n with
 | nil=>rw[e]at c;cases c
 | cons y t=>
  rw[e]at c f d;have h1:=d y<|aK ..;have:y=(k:Int):=by
   rcases bB.mp c with z|z
   ·exact z.symm
   ·have:=(bV.mp f).1 _ z;lia
  exact⟨t,by rw[this]⟩
def abL{n:Nat}{xs:ae}(h:jU S n=some xs):A.Xh (.ref n) S=some (!xs.isEmpty):=by
 show(jU S n).map _=_;rw[h];rfl
def VU(w:ar)(k:Nat):wd w++[A.int (k:Int)]=wd (w++[k]):=by unfold wd;rw[bZ];rfl
def acA{S:jV}{o:ag}{n:Nat}{ks:ar}(px:o.Perm<|lA 1<|(n:Int)+1)(h2:n<=20)(hu:Bl.qL o u)(hk:Dn u ks) :
  ∃(W:Nat) (S':jV),nW [.tup<|o.map .int] S=.ok (.ref W) S'/\jU S' W=some (wd ks)/\S.length<=W/\lY S S':=by
 obtain⟨ys,S1,e1,U,N,P⟩:=WK (S:=S) px (show n<=1000 by lia);have K:ys=u:=by
  have l1:=U.1;have l2:=hu.1;apply cJ;intro q;by_cases hq:q<u.length
  ·have lo:=sH px;obtain⟨p,j,ep⟩:∃p,∃h:p<o.length,o[p]=(q:Int)+1:=by
    have:(q:Int)+1∈o:=px.mem_iff.mpr<|mU.mpr ⟨(),()⟩;obtain⟨p,j,ep⟩:=List.getElem_of_mem this;exact⟨p,j,ep⟩
   have Z:=U.2 p j;have V:=hu.2 p j;rw[ep,show((q:Int)+1-1).toNat=q by lia]at Z V;rw[Z,V]
  ·rw[bQ (),bQ ()]
 subst K;have lu:=sH N;have hks:ks.length<=400:=by
  rw[hk.len];have:=Iv.IW ys;rw[lu]at this;exact bH this<|eG h2 h2
 have f0:=vW (S:=S1++[.lst []]) (xs:=ys) lu h2;have l1:(S1++[O.lst []]).length=S1.length+1:=by simp
 have G:=vm (t:=rq) (c:=rE)
  (λτ T=>∃(C:Nat) (l:ag) (done rest:ar),τ=[.tup<|o.map .int,.tup<|l.map .int,.ref S1.length,.ref C]/\ks=done++rest/\Dn l rest/\l.Perm (lA 1<|(n:Int)+1)/\jU T S1.length=some (wd done)/\jU T C=some ((fl l n).map .int)/\C≠S1.length/\lY S1 T)
  (λτ T=>ks.length-((jU T S1.length).getD []).length)
  (λr=>∃(W:Nat) (S':jV),RS.end (RS.seq r<|mw<|jS 2)=.ok (.ref W) S'/\jU S' W=some (wd ks)/\S.length<=W/\lY S S') ?_ 1000000
 ·unfold nW uG uZ;dsimp[kG,nE,bools,lR,Nat.reduceAdd,Nat.reduceSub,e1,f0];refine G _ _ ⟨(S1++[O.lst []]).length,ys,[],ks,rfl,rfl,hk,N,lg kh,kh,(),Kp.refl.lay.lay⟩ ()
 ·rintro τ T ⟨C,l,done,rest,rfl,m,d,pl,F,B,J,kp⟩;have M:=sH pl;unfold rq;dsimp[kG,bools,abL B]
  cases rest with
  | nil=>
   left;rw[Ws M d];rw[cZ]at m;refine⟨T,rfl,S1.length,T,?_,by rw[m];exact F,P.len,P.trans kp⟩;dsimp[kG,bools]
  | cons k rest=>
   right;obtain⟨t,Y⟩:=VI M d.1.1 d.1.2;rw[Y]at B;rw[Y];refine⟨T,rfl,.inl ?_⟩;have e:=d.1.1;have a0:sO ((((k:Int)::t).map A.int)) 0=some (.int k):=DF;have hdl:done.length<ks.length:=by rw[m,aV,bu];lia
   have lW:=p6 F;have L:jU (T.set S1.length<|.lst<|wd<|done++[k]) C=some (((k:Int)::t).map .int):=by rw[p9<|c9 J];exact B
   obtain⟨T2,e2,f⟩:=yx (S:=T.set S1.length<|.lst<|wd<|done++[k]) (xs:=l) (k:=k) e.1 e.2.1 ();have hx:(Wd.ex l k).length=n:=by rw[Wd.lJ];exact M
   have f1:=vW (S:=T2) (xs:=Wd.ex l k) hx h2;unfold rE;dsimp[kG,nE,bools,B,a0,F,zT<|show(wd done).length<16777216 by rw[aI];lia,VU,L,e2,f1];have g:jU (T2++[O.lst<|(fl (Wd.ex l k) n).map A.int]) S1.length=some (wd<|done++[k]):=lg<|f.lst _ _ (λz=>z)<|qm lW;have lt2:T.length<=T2.length:=by have:=f.len;rwa [bW]at this
   refine⟨_,_,rfl,⟨T2.length,Wd.ex l k,done++[k],rest,rfl,by rw[m,bM];rfl,d.2,Fw.lH pl e.1 e.2.1,g,kh,(),((kp.set<|.inr<|aP _).trans f).lay⟩,?_⟩;dsimp[g,F,eV];dsimp[aI,aV,bu,bX]
   lia
open Po (Pl Ok Bd)
open Su (Es At Vl AF)
open He (Sz PB)
open Fw (rg)
def W_{S:jV}{n N P c:Nat}{q:Pl}(f:Int×Int->A)(hf:∀p τ S,R_ (f p) τ S=R_ (Po.pA p) τ S)(hN:N<6)(h0:1<=N)(h:Sm S n es)(hz:Sz N P C<|Su.sm es)(hq:jU S m=some (q.map f))(pq:PB Q c q)(lq:q.length<=2)(hP:P<=1000)(hC:C<big)(hc:c<big) :
  ∃(L:Nat) (S':jV) (rs:Es),uv [.ref m,.ref n] S=.ok (.ref L) S'/\Sm S' L rs/\Su.sm rs=He.UJ q (Su.sm es)/\S.length<=L/\lY S S':=by
 have K:lY S (S++[.dct []]):=Kp.refl.lay;have W:=hz.many hN;rw[Su.zy]at W;obtain⟨j,V⟩:∃j,j=2 * (2 * P+1):=⟨_,rfl⟩;obtain⟨y3,y4,_,D,T,_,e1,B,kp⟩:=Su.Bo (w:=1) (j:=j) (b:=S.length) (i0:=0) (S:=S++[.dct []]) (S1:=S++[.dct []]) (d:=S.length) (n:=n) (es:=es) (src:=uP) (c:=uY) (g:=Ac 2<|qW (kR 3)<|qW (kR 4) Af) (λy z _=>[.ref m,.ref n,.ref S.length,y,z]) (λ_=>True) (λe Q=>Su.Ao Q e.1<|Po.times q e.2.2) (λ_ _ _ _ _=>rfl) (x3:=.unb) (x4:=.unb) (xs0:=[]) trivial
  (show uP _ _=_ from qD (by dsimp[kG,bools])<|lg h.l) (lg h.l) (Su.Fil.new Su.qV) λi e T Q1 D xs hi G _ k fT=>by
   have b:=hz.pb<|pW rfl G;have tl:=k.len;rw[aV]at tl;rw[cF,fH]at fT;rw[cF,fH];have hm1:i * j<=120 * j:=cH _ ();have U:e.2.2.length<=2 * P+1:=b.2;have ll:q.length * e.2.2.length<=j:=by rw[V];exact eG lq U
   obtain⟨L,T1,x1,M,l2,J⟩:=zM f hf (k.lst _ _ (λz=>Su.rW (Su.qV (S:=S) (xs:=[])) (lg (o:=.dct []) hq) z.symm)<|lg hq) (((h.a.CF K).Mq k Su.qV) e G) () (λp F=>dg (pq.c p F) hc) λp F=>dg (b.1.c p F) hC;have Y:=J.len;obtain⟨D',T',x2,O,Z⟩:=(fT.CF J).add vf (o:=e.1) M (bH (Su.wJ _ _) ll) (λz=>by
    have:=qc<|hz.pm _<|pW rfl G;rw[show((e.1,e.2.2):ag×Pl).1=e.1 from rfl,z]at this;simp at this;lia) () () ()
   exact⟨D',T',[],trivial,by unfold uY;dsimp[kG,bools,x1,x2],O,J.of0.trans Z⟩
 rw[cF,fH,Su.DL]at B;have k:lY S T:=K.old kp λq hq _ z=>()
 have fl:=B.ll;obtain⟨L,S',e2,r1,r2,r3,r4⟩:=El B.dd B.aa B.kk ();have tl:=k.len;refine⟨L,S',_,?_,⟨r1,r2⟩,by rw[Su.A2,B.ss];rfl,(),k.trans r4⟩;unfold uv BA Cm;dsimp[kG,bools,lR,Nat.reduceAdd,Nat.reduceSub,Su.yG];rw[show lN uP _ uY _ _=_ from e1];dsimp[kG,bools,e2]
def W8{w:ar}{k:Nat}(h:w.getLast?=some k):sO (wd w) (-1)=some (.int k):=by
 obtain⟨u,rfl⟩:=List.getLast?_eq_some_iff.mp h;unfold wd;rw[bZ];have e:CZ (u.map (λk:Nat=>A.int (k:Int))++[A.int (k:Int)]).length (-1)=some u.length:=by
  unfold CZ;rw[aV,aI,dN,aJ (),aM ()];congr 1
  lia
 show(CZ _<|-1).bind _=_;rw[show List.map (λk:Nat=>A.int (k:Int)) [k]=[A.int (k:Int)]from rfl,e,fX,c6<|by rw[aI];exact aP _,aI,f9];rfl
theorem ME{N d:Nat}(hN:N<6)(h0:1<=N):∀(f:Nat) {S:jV}{K:Es}{o:ag},Iv.inv o<f->o.Perm (rg N)->Kn N (He.tV N) S d K ->
  ∃(r:Nat) (S':jV) (K' rs:Es),m8 f [.tup<|o.map .int,.ref d] S=.ok (.ref r) S'/\Kn N (He.tV N) S' d K'/\Sm S' r rs/\Su.sm rs=He.tV N o/\Kp (·=d) S S'
 | 0,S,K,o,hf,_,_=>absurd hf (eS _)
 | f+1,S,K,o,hf,po,hK=>by
  have lo:=qc po;show ∃(r:Nat) (S':jV) (K' rs:Es),lB nQ (nG<|m8 f) [.tup<|o.map .int,.ref d] S=.ok (.ref r) S'/\_;have J:Ve true (.tup<|o.map .int) (.ref d) S=.ok (.bl<|!(mC (K.map Su.kv) o).isSome) S:=by rw[YI,hK.dd,kD]
  unfold nG nQ
  cases hL:Su.fE K o with
  | some e=>
   obtain⟨m1,rfl⟩:=Su.vA hL;obtain⟨rs,r1,r2⟩:=hK.at_ e m1;have L:mC (K.map Su.kv) e.1=some (.ref e.2.1):=by rw[Su.wM,hL];rfl
   have x1:CW (.ref d) (.tup<|e.1.map .int) S=.ok (.ref e.2.1) S:=by rw[Su.AA,hK.dd,kD,L,kD]
   rw[L]at J;refine⟨e.2.1,S,K,rs,?_,hK,r1,r2,Kp.refl⟩;dsimp[kG,nE,bools,lR,Nat.reduceAdd,Nat.reduceSub,J,jn,b_,x1]
  | none=>
   have L:mC (K.map Su.kv) o=none:=by rw[Su.wM,hL];rfl
   rw[L]at J;obtain⟨W,S1,e1,l1,_,Y⟩:=acA (S:=S) po () (He.nN po).ou<|He.Uo o;have M:=HA l1
   cases hw:(He.fwd o).getLast? with
   | none=>
    have fe:=List.getLast?_eq_none_iff.mp hw;rw[fe]at M;obtain⟨S2,h2⟩:∃S2,S2=S1++[O.lst [.tup [.int 0,.int 1]]]++[O.lst [.tup [.tup<|o.map .int,.ref S1.length]]]:=⟨_,rfl⟩;have C:lY S1 S2:=by rw[h2];exact Kp.refl.lay.lay
    have s2:Sm S2 (S1.length+1) [(o,S1.length,[((0:Int),(1:Int))])]:=by
     have:=kh (S:=S1++[O.lst [.tup [.int 0,.int 1]]]) (xs:=[.tup [.tup<|o.map .int,.ref S1.length]]);rw[aV,dN]at this;rw[h2];exact⟨this,λe P=>by rw[aS.mp P];exact lg kh⟩
    have et:Su.sm [(o,S1.length,[((0:Int),(1:Int))])]=He.tV N o:=(He.aal po hw).symm;obtain⟨T',K',x2,n2,x3,U,kp⟩:=(hK.CF<|Y.trans C).put hN po s2 et;refine⟨S1.length+1,T',K',_,?_,n2,U,et,(Y.trans C).of0.trans kp⟩;dsimp[kG,nE,bools,lR,Nat.reduceAdd,Nat.reduceSub,J,fh,cP,e1,M,ig,iU,b_,m_<|show 2<=sizeLine by decide,aV,dN,bu,bX];rw[<- h2];dsimp[kG,nE,bools,Su.EE,x2,x3]
   | some k=>
    obtain⟨f1,f2,f3⟩:=He.A_ po hw;have ne:((wd<|He.fwd o).isEmpty)=false:=by
     cases hx:He.fwd o with
     | nil=>rw[hx]at hw;cases hw
     | cons=>rfl
    rw[ne]at M;have a1:=W8 hw;have hd:=Fw.oq f1 (show k<o.length by lia) (by have:=bN f3;lia);obtain⟨S2,x2,C⟩:=yx (S:=S1) (xs:=o) (k:=k) f1 () ();have B:=Y.trans C;have pe:=He.lH po f1 f2;obtain⟨r3,S3,K3,rs3,x3,n3,U,q3,k3⟩:=ME hN h0 f () pe<|hK.CF B;have z3:Sz N 25 (5 ^ 25) (Su.sm rs3):=by rw[q3];exact He.Uc hN pe
    have B5:5 ^ 25<big:=by rw[qT];exact show 5 ^ 25<2 ^ 4096 by decide +kernel
    have m3:=z3.many hN;rw[Su.zy]at m3;obtain⟨L4,V,Z,x4,s4,q4,_,_,_,_,k4⟩:=V5 (j:=2 * (2 * 25+1)) U (k:=k) (N:=N) (λe P=>by
     have b:=z3.pb<|pW rfl P;exact⟨qc<|z3.pm _<|pW rfl P,by have:=b.2;show 2 * e.2.2.length<=_;exact Nat.mul_le_mul_left _ this,λp hp=>dg (b.1.c p hp) B5⟩) f1 f2 () () ()
    have z4:Sz N 26 (3 * 5 ^ 25) (Su.sm Z):=by rw[q4];exact z3.bx f1 f2
    have T:lY V (V++[O.lst<|He.LB.map kA]):=Kp.refl.lay;obtain⟨L5,S5,rs5,x5,s5,q5,_,k6⟩:=W_ kA (λ_ _ _=>rfl) (S:=V++[O.lst<|He.LB.map kA]) (m:=V.length) (q:=He.LB) (Q:=1) (c:=1) hN h0 ((U.kp k4).kp T) z3 kh ⟨λq g=>by
     rcases bB.mp g with z|z
     ·rw[z];decide
     ·rw[aS.mp z];decide,λq g=>by
     rcases bB.mp g with z|z
     ·rw[z];decide
     ·rw[aS.mp z];decide⟩ (aP 2) ⋯ B5 (by rw[qT];exact show 1<2 ^ 4096 by decide +kernel)
    have z5:Sz N 26 (2 * (1 * 5 ^ 25)) (Su.sm rs5):=by
     rw[q5];exact(z3.UJ (Q:=1) (c:=1) (p:=He.LB) ⟨λq g=>by
      rcases bB.mp g with z|z
      ·rw[z];decide
      ·rw[aS.mp z];decide,λq g=>by
      rcases bB.mp g with z|z
      ·rw[z];decide
      ·rw[aS.mp z];decide⟩)
    obtain⟨L6,S6,G,x6,s6,q6,_,_,k7⟩:=Y7 hN h0 (s4.kp<|T.trans k6) s5 z4 z5 ⋯;have F:Su.sm G=He.tV N o:=by rw[q6,q4,q5,q3];exact(He.VA po hw).symm
    obtain⟨T',K',x7,n7,x8,s8,kp⟩:=(n3.CF<|(k4.trans<|T.trans k6).trans k7).put hN po s6 F;refine⟨L6,T',K',G,?_,n7,s8,F,((B.of0.trans k3).trans ((k4.trans<|T.trans k6).trans k7).of0).trans kp⟩;have l3:jU S2 W=some (wd<|He.fwd o):=C.lst _ _ (λz=>z) l1;have l4:jU S3 W=some (wd<|He.fwd o):=k3.lst _ _ (λz=>Su.rW (hK.CF B).dd l3 z.symm) l3;dsimp[kG,nE,bools,lR,Nat.reduceAdd,Nat.reduceSub,J,fh,cP,e1,M,l1,a1,x2,x3,l4,x4];rw[show[((-1:Int),(-1:Int)),((1:Int),(1:Int))].map kA=He.LB.map kA from rfl];dsimp[kG,nE,bools,x5,x6,Su.EE,x7,x8]
end K34
namespace K34
open PySem L2 Am
open Po (Pl Ok Bd)
open Su (Es At Vl AF)
open He (Sz PB)
open Fw (rg)
def Ik{S:jV}{N c:Nat}{fs:Es}(hN:N<6)(h0:1<=N)(h':Sm S m fs)(hz':Sz N Q c<|Su.sm fs)(hP:Q<=500)(hc:c<big) :
  ∃(L:Nat) (S':jV) (rs:Es),rf [.ref m] S=.ok (.ref L) S'/\Sm S' L rs/\Su.sm rs=He.tu N He.vw (Su.sm fs)/\Nw S.length L rs/\S.length<=L/\lY S S':=by
 have B5:5 ^ 25<big:=by rw[qT];exact show 5 ^ 25<2 ^ 4096 by decide +kernel
 obtain⟨S1,G⟩:∃S1,S1=S++[O.dct []]++[O.dct []]:=⟨_,rfl⟩;have k0:lY S S1:=by rw[G];exact Kp.refl.lay.lay
 have d0:kK S1 S.length=some []:=by rw[G];exact Su.E8 Su.qV
 have d1:kK S1 (S.length+1)=some []:=by
  have:=Su.qV (S:=S++[O.dct []]) (xs:=[]);rw[aV,dN]at this;rw[G];exact this
 obtain⟨j,hj⟩:∃j,j=2 * (25+Q)+1:=⟨_,rfl⟩;have lf:=hz'.many hN;rw[Su.zy]at lf;have Z:(fs.map Su.ent).length=fs.length:=aI ..;have key:∃(J M B k:A) (D:Es) (T:jV) (i:Nat),lN sN (Ac 2<|qW (kR 3)<|qW (kR 4) Af) sJ [.ref m,.ref S.length,.ref<|S.length+1,.unb,.unb,.unb,.unb] S1=.nx [.ref m,.ref S.length,.ref<|S.length+1,J,M,B,k] T/\i<=120 * fs.length/\Su.Fil T S.length S.length i j (Su.adds []<|He.UE N He.vw<|Su.sm fs) D/\lY S T:=by
  refine uX (n:=m) (xs:=fs.map Su.ent) (S1:=S1) (show sN _ _=_ from qD (by dsimp[kG,bools])<|k0.lst _ _ (λz=>z) h'.l)
   (λt τ T=>(∃J M B k:A,τ=[.ref m,.ref S.length,.ref<|S.length+1,J,M,B,k])/\(∃(i:Nat) (D:Es),i<=120 * t/\Su.Fil T S.length S.length i j (Su.adds []<|He.UE N He.vw<|Su.sm<|fs.take t) D)/\(∃K,Kn N (He.tV N) T (S.length+1) K)/\lY S T)
   (λr=>∃(J M B k:A) (D:Es) (T:jV) (i:Nat),r=.nx [.ref m,.ref S.length,.ref<|S.length+1,J,M,B,k] T/\i<=120 * fs.length/\Su.Fil T S.length S.length i j (Su.adds []<|He.UE N He.vw<|Su.sm fs) D/\lY S T)
   ⟨⟨_,_,_,_,rfl⟩,⟨0,[],aP _,Su.Fil.new d0⟩,⟨[],d1,Su.Gd.nil,(nofun),nofun⟩,k0⟩ (λt τ T hh=>hh.2.2.2.lst _ _ (λz=>z) h'.l) ?_ ?_
  ·rintro t z τ T W ⟨⟨J,M,B,k,rfl⟩,⟨i,D,hi,C⟩,⟨K,hK⟩,F⟩;rw[aX]at W;obtain⟨e,Y,rfl⟩:=bg.mp W;have htl:=(aN.mp Y).1;have me:=aY Y;have pe:=hz'.pm _<|pW rfl me;have be:=hz'.pb<|pW rfl me;refine⟨[.ref m,.ref S.length,.ref<|S.length+1,.tup<|e.1.map .int,.ref e.2.1,B,k],T,rfl,.inl ?_⟩;obtain⟨r,T1,K1,rs,x1,n1,s1,q1,V⟩:=ME hN h0 26 (by have:=He.Qe hN pe;lia) pe hK;have z1:Sz N 25 (5 ^ 25) (Su.sm rs):=by rw[q1];exact He.Uc hN pe
   have m1:=z1.many hN;rw[Su.zy]at m1;have f1:Su.Fil T1 S.length S.length i j (Su.adds []<|He.UE N He.vw<|Su.sm<|fs.take t) D:=⟨V.dct _ _ () C.dd,C.aa.Mq V hK.dd,C.ss,C.vv,C.kk,C.ll,C.pw⟩;have p1:jU T1 e.2.1=some (Po.pl e.2.2):=V.lst _ _ (λz=>Su.rW hK.dd ((h'.kp F).a e me) z.symm)<|(h'.kp F).a e me;have tl:=F.len;have tl1:=V.len;have len2:S.length+2<=T.length:=by have:=Su.IZ hK.dd;lia
   have le:e.2.2.length<=2 * Q+1:=be.2;obtain⟨z6,z7,_,D2,T2,_,x2,f2,k2⟩:=Su.Bo (w:=1) (j:=j) (b:=S.length) (i0:=i) (S:=T) (S1:=T1) (d:=S.length) (n:=r) (es:=rs) (src:=vM) (c:=vB) (g:=Ac 2<|qW (kR 5)<|qW (kR 6) Af) (λy z _=>[.ref m,.ref S.length,.ref<|S.length+1,.tup<|e.1.map .int,.ref e.2.1,y,z]) (λ_=>True) (λx Q=>Su.Ao Q x.1<|Po.times (Po.turn e.2.2) x.2.2) (λ_ _ _ _ _=>rfl) (x3:=B) (x4:=k) (xs0:=[]) trivial
    (show vM _ _=_ from qD (by
     have x1':rZ [.tup<|e.1.map .int,.ref<|S.length+1] T=.ok (.ref r) T1:=x1;dsimp[kG,nE,bools,x1']) s1.l) s1.l f1 λa x U Q1 D' xs ha hx _ kU f=>by
     have ul:=kU.len;have b1:=z1.pb<|pW rfl hx;have l1':x.2.2.length<=2 * 25+1:=b1.2;rw[fH]at f;rw[fH];have hm1:(i+a) * j<=14400 * j:=cH _ ();have tn:=Nb (S:=U) (kU.lst _ _ (λz=>Su.rW f1.dd p1 z.symm) p1) (show e.2.2.length<=16777216 by lia);have kV:lY U (U++[O.lst<|Po.pl<|Po.turn e.2.2]):=Kp.refl.lay;obtain⟨L,U1,e1,l1,l2,P⟩:=Jq (n:=U.length) (a:=Po.turn e.2.2) kh (kV.lst _ _ (λz=>z)<|(s1.a.Mq kU f1.dd) x hx) (by
      rw[He.GJ];have a3:(2 * Q+1) * (2 * 25+1)<=1001 * 51:=eG () ();exact dg (bH (eG le l1') a3) ⋯) (λp hp=>dg (be.1.turn.c p hp) hc) λp hp=>dg (b1.1.c p hp) B5
     have k1l:=P.len;have kVl:=kV.len;have tl':(Po.times (Po.turn e.2.2) x.2.2).length<=j:=by
      have:=He.PB.times be.1.turn b1.1;rw[hj];refine bH this ?_
      lia
     obtain⟨D3,U2,e2,f',k'⟩:=((f.CF kV).CF P).add vf (o:=x.1) l1 tl' (λz=>by
      have:=qc<|z1.pm _<|pW rfl hx;rw[show((x.1,x.2.2):ag×Pl).1=x.1 from rfl,z]at this;simp at this;lia) () () ()
     exact⟨D3,U2,[],trivial,by unfold vB;dsimp[kG,nE,bools,tn,e1,e2],f',(kV.trans P).of0.trans k'⟩
   have kT2:lY S T2:=(F.old V λq hq _ z=>()).old k2 λq hq _ z=>()
   refine⟨[.ref m,.ref S.length,.ref<|S.length+1,.tup<|e.1.map .int,.ref e.2.1,z6,z7],T2,?_,⟨_,_,_,_,rfl⟩,⟨i+1 * rs.length,D2,(),?_⟩,⟨K1,n1.Mq k2 f1.dd ()⟩,kT2⟩
   ·unfold sJ;exact x2
   ·rw[Su.DL]at f2;rw[dM,Y,Su.SN];unfold He.UE at f2 ⊢;rw[List.flatMap_append,Su.GK];have:List.flatMap (λe=>He.YA (Po.turn e.2)<|He.tO N<|He.vw e.1) (Su.sm (some e).toList)=(Su.sm rs).map λx=>(x.1,Po.times (Po.turn e.2.2) x.2):=by
     show He.YA (Po.turn e.2.2) (He.tO N<|He.vw e.1)++[]=_;rw[cZ,q1];rfl
    rw[this];exact f2
  ·rintro τ T ⟨⟨J,M,B,k,rfl⟩,⟨i,D,hi,C⟩,⟨K,hK⟩,F⟩;rw[Z]at hi;rw[Z,dU]at C;exact⟨J,M,B,k,D,T,i,rfl,hi,C,F⟩
 obtain⟨J,M,B,k,D,T,i,e1,hi,f,F⟩:=key;have fl:=f.ll;obtain⟨L,S',e2,r1,r2,r3,r4⟩:=El f.dd f.aa f.kk ();have tl:=F.len;refine⟨L,S',_,?_,⟨r1,r2⟩,by rw[Su.A2,f.ss];rfl,⟨f.pw.out _,λe Y=>?_⟩,(),F.trans r4⟩
 ·unfold rf y_ zP;dsimp[kG,nE,bools,lR,Nat.reduceAdd,Nat.reduceSub,Su.yG,aV,dN];rw[<- G,show lN sN _ sJ _ _=_ from e1];dsimp[kG,nE,bools,e2]
 ·obtain⟨m1,m2⟩:=Su.A0 Y;obtain⟨v1,v2,v3⟩:=f.vv e m1;have lt:=p6<|f.aa e m1;exact⟨v3,()⟩
def Sn.tu{N c:Nat}{k:Su.Ps}(h:Sn N Q c S m k)(hN:N<6)(h0:1<=N)(hP:Q<=500)(hc:c<big) :
  ∃(L:Nat) (S':jV),rf [.ref m] S=.ok (.ref L) S'/\Sn N (25+Q) (120 * ((2 * Q+1) * (c * 5 ^ 25))) S' L (He.tu N He.vw k)/\lY S S':=by
 obtain⟨a,fs,b,rfl⟩:=h;obtain⟨L,S',g,e1,e,d,_,_,f⟩:=Ik hN h0 b a hP hc;exact⟨L,S',e1,⟨a.tu hN,g,e,d⟩,f⟩
end K34
namespace K34
open PySem L2 Am
open Bl
def Pp{L:Nat}{ms:ag}(hL:jU S L=some (ms.map .int))(hp:∃m∈ms,0<m)(hms:ms.length<=1000):∃j:Nat,lG [.ref L] S=.ok (.int<|(j:Int)+1) S/\(∃m,ms[j]?=some m/\0<m)/\∀(k:Nat) (m:Int),k<j->ms[k]?=some m->m<=0:=by
 unfold lG nK nI;dsimp[kG,bools,lR,Nat.reduceAdd,Nat.reduceSub];refine vm (λτ q=>q=S/\∃p:Nat,p<ms.length/\τ=[.ref L,.int<|(p:Int)+1]/\∀(k:Nat) (m:Int),k<p->ms[k]?=some m->m<=0)
  (λτ _=>match τ with
   | [_,.int i]=>(ms.length+1)-i.toNat
   | _=>0)
  (λr=>∃j:Nat,RS.end (RS.seq r _)=.ok (.int<|(j:Int)+1) S/\(∃m,ms[j]?=some m/\0<m)/\∀(k:Nat) (m:Int),k<j->ms[k]?=some m->m<=0) ?_ 1000000 _ _ ⟨rfl,0,?_,rfl,λk m g=>absurd g<|eS _⟩ ?_
 ·rintro τ q ⟨rfl,p,f,rfl,c⟩;have B:sO (ms.map A.int) ((p:Int)+1-1)=some (.int ms[p]):=yv (k:=p) ()<|aH f;unfold pP pJ;dsimp[kG,bools,hL,B];by_cases h0:ms[p]<=0
  ·right;refine⟨q,by rw[aW h0],.inl ⟨_,_,rfl,⟨rfl,p+1,?_,dQ (λz=>[A.ref L,A.int z]) (),λk m g d=>?_⟩,?_⟩⟩
   ·obtain⟨m,d,C⟩:=hp;obtain⟨k,g,e⟩:=i7.mp d;have:¬k<=p:=λF=>by
     rcases lt_or_ge k p with h|h
     ·have:=c k m h (by rw[aH g,e])
      lia
     ·have:k=p:=()
      subst this
      lia
    lia
   ·rcases lt_or_ge k p with h|h
    ·exact c k m h d
    ·have:k=p:=()
     subst this;rw[aH f]at d
     cases d
     exact h0
   ·show ms.length+1-((p:Int)+1+1).toNat<ms.length+1-((p:Int)+1).toNat
    lia
  ·left;refine⟨q,by rw[bq h0],p,by dsimp[kG,bools],⟨ms[p],aH f,()⟩,c⟩
 ·obtain⟨m,d,_⟩:=hp;exact List.length_pos_of_mem d
 ·show ms.length+1-(1:Int).toNat<1000000
  lia
def H_{f:A->A->jV->R A}{d:Int}(hf:∀(m:Int) S,f (.int m) (.int 1) S=.ok (.int<|m+d) S){src:Ic}{L:Nat}{ms:ag}{x:Int}{Post:RS->Prop}(hx0:0<=x)(hx:x<=ms.length)
  (hsrc:src [a0,a1,.ref L,a3,a4] S=.ok (uy 0 x) S) (hL:jU S L=some (ms.map .int)) (fin:∀a4' S',jU S' L=some ((oJ x.toNat d ms).map .int)->Kp (·=L) S S'->Post (.nx [a0,a1,.ref L,a3,a4'] S')) :
  Post (lN src (kR 4) (Ca (jS 2) (jS 4) (eC<|.int 1) f) [a0,a1,.ref L,a3,a4] S):=by
 refine sq (lo:=0) (hi:=x) hsrc (λi τ S'=>∃a4',τ=[a0,a1,.ref L,a3,a4']/\jU S' L=some ((oJ i d ms).map .int)/\Kp (·=L) S S') Post ⟨a4,rfl,hL,Kp.refl⟩ ?_ ?_
 ·rintro i τ S' hi ⟨a4',rfl,c,g⟩;left;have e:i<ms.length:=()
  have e1:((oJ i d ms).map A.int)[((0:Int)+(i:Int)).toNat]?=some (.int ms[i]):=by
   rw[show((0:Int)+(i:Int)).toNat=i by lia,aX,wH,aH e];simp
  have e2:CZ (oJ i d ms).length (0+(i:Int))=some i:=zL () (by rw[yT];exact e);have j:=p6 c;dsimp[kG,bools,c,m_<|show(0:Int)<=0+(i:Int)by lia,e1,hf,aI,e2];refine⟨_,_,rfl,_,rfl,?_,g.set<|.inl rfl⟩;rw[qm j,<- BU i d ms ms[i] (aH e),iI]
 ·rintro τ S' ⟨a4',rfl,c,g⟩;exact fin a4' S' (by rw[Int.sub_zero]at c;exact c) g
abbrev Yx (xs ys:ag)(i j:Nat):Prop:=cnt (ys.take i) j<cnt (xs.take i) j/\(∀d c:Nat,d<i->1<=c->c<=xs.length->cnt (xs.take d) c<=cnt (ys.take d) c)/\∀c:Nat,1<=c->c<j->cnt (xs.take i) c<=cnt (ys.take i) c
def Y6{xs ys:ag}{n:Nat}(px:xs.Perm<|lA 1<|(n:Int)+1)(py:ys.Perm<|lA 1<|(n:Int)+1)(h1:1<=n)(h2:n<=20):∃S',((Dg [.tup<|xs.map .int,.tup<|ys.map .int] S=.ok .non S'/\Below xs ys) \/
  ∃i j:Nat,Dg [.tup<|xs.map .int,.tup<|ys.map .int] S=.ok (.tup [.int i,.int j]) S'/\1<=i/\i<=n/\1<=j/\j<=n/\Yx xs ys i j)/\lY S S':=by
 have T:xs.length=n:=by have:=BF px ();lia
 have ly:ys.length=n:=by have:=BF py ();lia
 unfold Dg Uv RV;dsimp[kG,bools,lR,Nat.reduceAdd,Nat.reduceSub,uU (S:=S)<|T.trans ly.symm,aI,T];rw[X5 (k:=n) kh ()];dsimp[kG,bools];have F:(S++[O.lst [.int 0]]).length=S.length+1:=by simp
 rw[F];refine sq (lo:=0) (hi:=(n:Int)) (S1:=S++[O.lst [.int 0]]++[O.lst<|List.replicate n<|.int 0]) ?_
  (λt τ S'=>∃a3 a4,τ=[.tup<|xs.map .int,.tup<|ys.map .int,.ref<|S.length+1,a3,a4]/\jU S' (S.length+1)=some ((uq n xs ys t).map .int)/\lY S S'/\∀g c:Nat,g<=t->1<=c->c<=n->cnt (xs.take g) c<=cnt (ys.take g) c)
  (λr=>∃S',((RS.end (RS.seq r _)=.ok .non S'/\Below xs ys)\/∃i j:Nat,RS.end (RS.seq r _)=.ok (.tup [.int i,.int j]) S'/\1<=i/\i<=n/\1<=j/\j<=n/\Yx xs ys i j)/\lY S S') ⟨.unb,.unb,rfl,?_,Kp.refl.lay.lay,?_⟩ ?_ ?_
 ·refine qz ?_<|pR () ();dsimp[kG,bools,aI,T]
 ·rw[VP,List.map_replicate,<- F];exact kh
 ·intro g c hi _ _;have:g=0:=()
  subst this;simp[cnt]
 ·rintro t τ S' ht ⟨a3,a4,rfl,hL,N,hok⟩;have ht':t<n:=()
  have U:t<xs.length:=()
  have P:t<ys.length:=()
  have mx:=ym px<|eg U;have my:=ym py<|eg P;have ax:sO (xs.map A.int) (0+(t:Int))=some (.int xs[t]):=yv (k:=t) ()<|aH U;have ay:sO (ys.map A.int) (0+(t:Int))=some (.int ys[t]):=yv (k:=t) ()<|aH P;unfold J_;dsimp[kG,bools];obtain⟨e,S2,e2,M,V⟩:=H_ (f:=Nl) (d:=1) (ms:=uq n xs ys t) (x:=xs[t]) (src:=Li) (a0:=.tup<|xs.map .int) (a1:=.tup<|ys.map .int) (a3:=.int<|0+(t:Int)) (a4:=a4) (Post:=λr=>∃e S2,r=.nx [.tup<|xs.map .int,.tup<|ys.map .int,.ref<|S.length+1,.int<|0+(t:Int),e] S2/\jU S2 (S.length+1)=some ((oJ xs[t].toNat 1 (uq n xs ys t)).map .int)/\Kp (·=S.length+1) S' S2) (λ_ _=>rfl) () (by rw[qg];lia)
   (qz (by dsimp[kG,bools,ax])<|pR () ()) hL (λe S2 h1 h2=>⟨e,S2,rfl,h1,h2⟩)
  obtain⟨C,S3,e3,B,Y⟩:=H_ (f:=aSub) (d:=-1) (ms:=oJ xs[t].toNat 1 (uq n xs ys t)) (x:=ys[t]) (src:=ML) (a0:=.tup<|xs.map .int) (a1:=.tup<|ys.map .int) (a3:=.int<|0+(t:Int)) (a4:=e) (Post:=λr=>∃C S3,r=.nx [.tup<|xs.map .int,.tup<|ys.map .int,.ref<|S.length+1,.int<|0+(t:Int),C] S3/\jU S3 (S.length+1)=some ((oJ ys[t].toNat (-1) (oJ xs[t].toNat 1 (uq n xs ys t))).map .int)/\Kp (·=S.length+1) S2 S3) (λ_ _=>rfl) () (by rw[yT,qg];lia)
   (qz (by dsimp[kG,bools,ay])<|pR () ()) M (λe S2 h1 h2=>⟨e,S2,rfl,h1,h2⟩)
  rw[IY U P]at B;have K:lY S S3:=(N.old V λn hn _=>()).old Y λn hn _=>()
  obtain⟨m,em,m1,m2⟩:=P9 B (by intro z;have:=dQ List.length z;rw[qg]at this;simp at this;lia);dsimp[show J5=Ca (jS 2) (jS 4) (eC<|.int 1) Nl from rfl,show MF=Ca (jS 2) (jS 4) (eC<|.int 1) aSub from rfl,e2,e3,kG,bools,em];by_cases L:0<m
  ·right;rw[aW L];obtain⟨j,ej,⟨mj,J,hj2⟩,Z⟩:=Pp B ⟨m,m1,L⟩ (by rw[qg];lia);dsimp[kG,bools,ej,Ct<|show([_,_]:ae).length<=16777216 by simp];have W:j<n:=by
    have:=(aN.mp J).1
    rwa [qg]at this
   refine⟨_,_,rfl,S3,.inr ⟨t+1,j+1,?_,(),(),(),(),?_,?_,?_⟩,K⟩
   ·have e5:(0:Int)+(t:Int)+1=((t+1:Nat):Int):=()
    have e6:(j:Int)+1=((j+1:Nat):Int):=()
    rw[e5,e6]
   ·rw[ur W]at J
    cases J
    have:((j+1:Nat):Int)=(j:Int)+1:=()
    rw[this]
    lia
   ·intro g c hi' p G;exact hok g c () p ()
   ·intro c p G;have:=Z (c-1) _ ()<|ur ();rw[show(((c-1:Nat):Int)+1)=(c:Int)by lia]at this
    lia
  ·left;rw[bq L];dsimp[kG,bools];refine⟨_,_,rfl,_,_,rfl,B,K,λg c hi' p G=>?_⟩;by_cases hi:g<=t
   ·exact hok g c hi p G
   ·have:g=t+1:=()
    subst this;have:=m2 _<|aY<|ur (n:=n) (xs:=xs) (ys:=ys) (t:=t+1) (j:=c-1) ();rw[show(((c-1:Nat):Int)+1)=(c:Int)by lia]at this
    lia
 ·rintro τ S' ⟨a3,a4,rfl,hL,N,hok⟩;refine⟨S',.inl ⟨by dsimp[kG,bools],?_⟩,N⟩;refine(NL px py).mp λi q hi hq=>?_;have:=hok (i+1) (q+1) () () ();exact this
def TN{xs ys:ag}{n:Nat}(px:xs.Perm<|lA 1<|(n:Int)+1)(py:ys.Perm<|lA 1<|(n:Int)+1)(h1:1<=n)(h2:n<=20):∃(k:Bool) (S':jV),oS [.tup<|xs.map .int,.tup<|ys.map .int] S=.ok (.bl k) S'/\(k=true ↔ Below xs ys)/\lY S S':=by
 obtain⟨S',h|⟨i,j,e,m,d,f,g,h,_⟩,c⟩:=Y6 (S:=S) px py h1 h2
 ·refine⟨true,S',?_,⟨λ_=>h.2,λ_=>rfl⟩,c⟩;unfold oS uC uA;dsimp[kG,bools,lR,Nat.reduceAdd,Nat.reduceSub,h.1]
 ·refine⟨false,S',?_,⟨λz=>absurd z bR,λz=>?_⟩,c⟩
  ·unfold oS uC uA;dsimp[kG,bools,lR,Nat.reduceAdd,Nat.reduceSub,e]
  ·have:=z i j
   lia
theorem BK:∀(l:ag) (j:Nat) (h:j<l.length),(l[j]::l.eraseIdx j).Perm l
 | x::l,0,_=>ff _
 | x::l,j+1,h=>(List.Perm.swap x _ _).trans<|List.Perm.cons x<|BK l j<|iH h
def N7{ls fs:ag}{j:Nat}(h:j<ls.length):((fs++[ls[j]])++ls.eraseIdx j).Perm (fs++ls):=by
 rw[bM];refine List.Perm.append_left fs ?_
 skip
 exact BK ls j h
def Tt{d:Int}{n:Nat}(h0:0<=d)(h:d.toNat<n):seqIndex? d n=some d.toNat:=by
 unfold seqIndex?;simp
 lia
theorem zR{α β:Type}(f:α->β):∀(l:List α) (k:Nat),(l.map f).eraseIdx k=(l.eraseIdx k).map f
 | [],_=>rfl
 | _::_,0=>rfl
 | x::l,k+1=>dQ (f x::·)<|zR f l k
theorem F3{n:Int}(h:CJ S b)(h1:1<=n)(h2:n<=20):∃(xs:ag) (S':jV),nH [.ref b,.int n] S=.ok (.tup<|xs.map .int) S'/\xs.Perm (lA 1<|n+1)/\CJ S' b/\Kp (·=b) S S':=by
 have Y:b<S.length:=by obtain⟨_,_,e,_⟩:=h;exact p6 e
 unfold nH vd vF;dsimp[kG,bools,lR,Nat.reduceAdd,Nat.reduceSub,N4<|TU (show(-1000000:Int)<=1 by decide) ⋯ (show -1000000<=n+1 by lia) () (),aV];have G:=vm (t:=tY) (c:=tR)
  (λτ S1=>∃(f fs:ag),τ=[.ref b,.int n,.ref S.length,.ref<|S.length+1]/\jU S1 S.length=some (f.map .int)/\jU S1 (S.length+1)=some (fs.map .int)/\(fs++f).Perm (lA 1<|n+1)/\CJ S1 b/\Kp (·=b) S S1)
  (λτ S1=>((jU S1 S.length).getD []).length)
  (λr=>∃(xs:ag) (S':jV),RS.end (RS.seq r<|mw<|kZ (f1 xq)<|jR (jS 3) j6)=.ok (.tup<|xs.map .int) S'/\xs.Perm (lA 1<|n+1)/\CJ S' b/\Kp (·=b) S S') ?_ 1000000
 ·refine G _ _ ⟨lA 1<|n+1,[],rfl,lg kh,?_,ff _,h.kp (c:=λ_=>False) (Kp.refl.lay.lay) λz=>z,Kp.refl.lay.lay⟩ ?_
  ·have:jU (S++[.lst<|(lA 1<|n+1).map .int]++[.lst []]) (S++[O.lst<|(lA 1<|n+1).map .int]).length=some []:=kh;simpa using this
  ·rw[lg kh,eV,aI,pU]
   lia
 ·rintro τ S1 ⟨f,fs,rfl,J,M,F,P,N⟩;have T:fs.length+f.length<=20:=by
   have:=F.length_eq;rw[aV,pU]at this
   lia
  unfold tY tR;dsimp[kG,bools,J,aI];by_cases h0:f=[]
  ·subst h0;left;exact⟨S1,rfl,fs,S1,by dsimp[kG,bools,M],by simpa using F,P,N⟩
  ·right;have V:0<f.length:=List.length_pos_iff.mpr h0;refine⟨S1,by rw[aW<|show(0:Int)<(f.length:Int)by lia],.inl ?_⟩;obtain⟨d,S2,e2,d0,d1,K,j⟩:=digit (m:=(f.length:Int)) P () ();have k:=j.lst S.length _ () J;have p:=j.lst (S.length+1) _ () M;have B:d.toNat<f.length:=()
   have W:=p6 p;have U:=p6 k;have L:seqIndex? d f.length=some d.toNat:=Tt d0 B;have C:jU (S2.set S.length<|.lst<|(f.map A.int).eraseIdx d.toNat) (S.length+1)=some (fs.map .int):=by rw[p9 ()];exact p
   dsimp[kG,bools,J,M,aI,e2,k,JT,m_<|show -(2 ^ 63:Int)<=d/\d<2 ^ 63 by lia,L,aX,aH B,dz,C,zT<|show fs.length<16777216 by lia];refine⟨_,_,rfl,⟨f.eraseIdx d.toNat,fs++[f[d.toNat]],rfl,?_,?_,(N7 B).trans F,?_,?_⟩,?_⟩
   ·rw[p9 (),qm U,zR]
   ·rw[qm<|by rw[bW];exact W,bZ];rfl
   ·obtain⟨g,st,e,q⟩:=K;exact⟨g,st,by rw[p9 (),p9 ()];exact e,q⟩
   ·exact((N.trans j).set<|.inr<|aP _).set (.inr ())
   ·rw[p9 (),qm U,eV,eV,zR,aI,aI,List.length_eraseIdx_of_lt B];lia
end K34
namespace K34
open PySem L2 Am
open Bl
open Po (Pl Ok)
open Hz (IsR)
open Fw (rg)
def EZ{N k:Nat}(h1:1<=k)(h2:k<N):decide ((k:Int)∈fl o N)=Su.mq o k:=by
 unfold fl Su.mq;rw[gG,cD,mU,eN,show((k:Int)-1).toNat=k-1 by lia,c7];constructor
 ·exact λh=>h.2
 ·exact λh=>⟨⟨(),()⟩,h⟩
def Uk{k:nj}{v:A}:∀{kvs:List<|nj×A},pL (v_ kvs k v) k=some v:=by
 intro kvs;unfold v_;split
 ·rename_i h;revert h
  induction kvs with
  | nil=>intro h;exact absurd h (show ¬(none:Option A).isSome=true by simp)
  | cons p r d=>
   intro h;rw[bL];by_cases c:p.1=k
   ·rw[aM c,wu (p:=(p.1,v)) c]
   ·rw[aJ c,uc c];rw[uc c]at h;exact d h
 ·rename_i h
  induction kvs with
  | nil=>exact wu rfl
  | cons p r d=>
   by_cases c:p.1=k
   ·rw[wu c]at h;exact absurd rfl h
   ·rw[gF,uc c];rw[uc c]at h;exact d h
def OL{k:nj}{v:A}{kvs:List<|nj×A}{p:nj×A}(h:p∈v_ kvs k v):p∈kvs\/p=(k,v):=by
 unfold v_ at h;split at h
 ·obtain⟨q,d,rfl⟩:=bI.mp h;by_cases c:q.1=k
  ·rw[aM c,c];exact .inr rfl
  ·rw[aJ c];exact .inl d
 ·rcases bG.mp h with z|z
  ·exact .inl z
  ·exact .inr<|aS.mp z
def Sq{k:nj}{v:A}{kvs:List<|nj×A}:(v_ kvs k v).length<=kvs.length+1:=by
 unfold v_;split
 ·rw[aI];lia
 ·rw[aV];exact aP _
def RC{k:nj}{v:A}{kvs:List<|nj×A}(h:pL kvs k=some v):(k,v)∈kvs:=by
 unfold pL at h;obtain⟨p,c,e⟩:=bg.mp h;have h1:=gH c;have h2:=je c;have h2:=bN h2;rw[<- h2,<- e];exact h1
def JC{n:Nat}{d:List<|nj×A}(h:p5 S n=some d)(h':jU S m=some xs):n≠m:=λz=>by
 subst z;have e1:=rO h;rw[kg h']at e1
 cases e1
def Kp.u9{b:Nat->Prop}(h:Kp b S S')(n:Nat)(d:List<|nj×A)(hb:¬b n)(e:p5 S n=some d):p5 S' n=some d:=Cr<|h.obj n _ hb<|rO e
def FY(x w:ag):CV (.tup [.tup<|x.map .int,.tup<|w.map .int])=some (x,w):=by
 unfold CV;dsimp only;rw[ints_map,ints_map];rfl
def Zv{d:Nat}{x w:ag}:WY true (.tup [.tup<|x.map .int,.tup<|w.map .int]) (.ref d) S=opt (p5 S d) λkvs=>.ok (.bl<|!(pL kvs (x,w)).isSome) S:=by
 show opt (p5 S d) (λkvs=>opt (CV _) _)=_;rw[FY];rfl
def Ut{d:Nat}{x w:ag}:M4 (.ref d) (.tup [.tup<|x.map .int,.tup<|w.map .int]) S=opt (p5 S d) λkvs=>opt (pL kvs (x,w)) λv=>.ok v S:=by
 show opt (p5 S d) (λkvs=>opt (CV _) _)=_;rw[FY];rfl
def W5{d:Nat}{S:jV}{x w:ag}{v:A}:Hw (.ref d) (.tup [.tup<|x.map .int,.tup<|w.map .int]) v S=opt (p5 S d) λkvs=>gd (kvs.length<sizeLine) (.ok Unit.unit<|S.set d<|.u9<|v_ kvs (x,w) v):=by
 show opt (p5 S d) (λkvs=>opt (CV _) _)=_;rw[FY];rfl
def wA{co ci:Ex}{a:A}:Q6 co ci a τ S=(co τ S).bind λo S1=>(ci τ S1).bind λi S2=>(Hw o i a S2).bind λ_ S3=>.ok τ S3:=rfl
structure KnQ (n:Nat)(S:jV)(d:Nat)(kvs:List (nj×A)):Prop where
 dd:p5 S d=some kvs
 at_:∀p∈kvs,∃(r:Nat) (l:Pl),p.2=.ref r/\jU S r=some (Po.pl l)/\IsR n p.1.1 p.1.2 l
def KnQ.kp{n d:Nat}(h:KnQ n S d kvs)(k:lY S S'):KnQ n S' d kvs:=⟨Kp.u9 k _ _ (λz=>z) h.dd,λp e=>by obtain⟨r,l,a,b,c⟩:=h.at_ p e;exact⟨r,l,a,k.lst _ _ (λz=>z) b,c⟩⟩
def KnQ.put{n d r:Nat}{kvs:List<|nj×A}{x w:ag}{l:Pl}(h:KnQ n S d kvs)(hl:kvs.length<16777216)(hr:jU S r=some (Po.pl l))(hi:IsR n x w l) :
  ∃(S':jV) (kvs':List<|nj×A),Hw (.ref d) (.tup [.tup<|x.map .int,.tup<|w.map .int]) (.ref r) S=.ok Unit.unit S'/\M4 (.ref d) (.tup [.tup<|x.map .int,.tup<|w.map .int]) S'=.ok (.ref r) S'/\KnQ n S' d kvs'/\jU S' r=some (Po.pl l)/\kvs'.length<=kvs.length+1/\Kp (·=d) S S':=by
 have k:Kp (·=d) S (S.set d<|.u9<|v_ kvs (x,w)<|.ref r):=Kp.refl.GP<|.inl rfl;have dd:p5 (S.set d<|.u9<|v_ kvs (x,w)<|.ref r) d=some (v_ kvs (x,w)<|.ref r):=Cr<|bJ<|Cd<|rO h.dd;have e:∀(q:Nat) (xs:ae),jU S q=some xs->jU (S.set d<|.u9<|v_ kvs (x,w)<|.ref r) q=some xs:=λq xs f=>k.lst _ _ (λz=>JC h.dd f z.symm) f;refine⟨_,v_ kvs (x,w)<|.ref r,?_,?_,⟨dd,λp g=>?_⟩,e _ _ hr,Sq,k⟩
 ·rw[W5,h.dd,kD];exact zT hl
 ·rw[Ut,dd,kD,Uk,kD]
 ·rcases OL g with z|z
  ·obtain⟨q,m,a,b,c⟩:=h.at_ p z;exact⟨q,m,a,e _ _ b,c⟩
  ·rw[z];exact⟨r,l,rfl,e _ _ hr,hi⟩
def Wu:∀p∈[((1:Int),(1:Int))],p.2.natAbs<big:=λp c=>by
 rw[aS.mp c,qT];exact show 1<2 ^ 4096 by decide +kernel
def Vv{n:Nat}{x w:ag}{l:Pl}(h:IsR n x w l)(px:x.Perm<|rg n)(pw:w.Perm<|rg n)(hi:Iv.inv w<=100):∀p∈l,p.2.natAbs<big:=λp c=>by
 obtain⟨_,_,a,b,_⟩:=h.keys px pw c;have:(2:Nat) ^ Iv.inv w<=2 ^ 100:=dY ⋯ hi;have d:(2:Nat) ^ 100<big:=by rw[qT];exact Nat.pow_lt_pow_right ⋯ ⋯
 lia
def Yd{x w:ag}:yS false (.tup<|x.map .int) (.tup<|w.map .int) S=.ok (.bl<|decide<|x=w) S:=Y4 (by
 show vI (xV S 11) (x.map .int) (w.map .int)=_;exact DM x w)
def CU{α:Type}{x:R α}:gd (2<=sizeLine) x=x:=m_ ⋯
meta abbrev RF:Nat:=26
theorem Bc{n d:Nat}(h1:1<=n)(h2:n<=8):∀(f:Nat) {S:jV}{kvs:List<|nj×A}{x w:ag},Iv.inv w<f->f<=100->x.Perm (rg n)->w.Perm (rg n)->KnQ n S d kvs->kvs.length+2 ^ (Iv.inv w+1)<=8388608 ->
  ∃(r:Nat) (S':jV) (kvs':List<|nj×A) (l:Pl),lC f [.tup<|x.map .int,.tup<|w.map .int,.ref d] S=.ok (.ref r) S'/\KnQ n S' d kvs'/\jU S' r=some (Po.pl l)/\IsR n x w l/\kvs'.length+1<=kvs.length+2 ^ (Iv.inv w+1)/\Kp (·=d) S S'
 | 0,S,kvs,x,w,hf,_,_,_,_,_=>absurd hf (eS _)
 | f+1,S,kvs,x,w,hf,hf2,px,pw,hK,hb=>by
  have lx:=qc px;have lw:=qc pw;refine hide λG W=>?_;have two:2<=2 ^ (Iv.inv w+1):=by rw[iJ];have:=Nat.one_le_two_pow (n:=Iv.inv w);lia
  have C:WY true (.tup [.tup<|x.map .int,.tup<|w.map .int]) (.ref d) S=.ok (.bl<|!(pL kvs (x,w)).isSome) S:=by rw[Zv,hK.dd,kD]
  cases hL:pL kvs (x,w)with
  | some v=>
   obtain⟨r,l,rfl,b,c⟩:=hK.at_ _<|RC hL;have x1:M4 (.ref d) (.tup [.tup<|x.map .int,.tup<|w.map .int]) S=.ok (.ref r) S:=by rw[Ut,hK.dd,kD,hL,kD]
   rw[hL]at C;refine W ?_;show ∃(r:Nat) (S':jV) (kvs':List<|nj×A) (l:Pl),lB kY (kW<|lC f) _ S=.ok (.ref r) S'/\_;unfold kW kY;refine⟨r,S,kvs,l,?_,hK,b,c,(),Kp.refl⟩;dsimp[kG,nE,bools,lR,Nat.reduceAdd,Nat.reduceSub,CU,C,jn,b_,x1]
  | none=>
   rw[hL]at C;by_cases e:x=w
   ·subst e;have T:lY S (S++[O.lst<|Po.pl [(0,1)]]):=Kp.refl.lay;obtain⟨S',kvs',e1,x1,n1,l1,b1,kp⟩:=(hK.kp T).put (x:=x) (w:=x) (r:=S.length) () kh<|Hz.Rz px;refine W ?_;show ∃(r:Nat) (S':jV) (kvs':List<|nj×A) (l:Pl),lB kY (kW<|lC f) _ S=.ok (.ref r) S'/\_;unfold kW kY;refine⟨S.length,S',kvs',_,?_,n1,l1,Hz.Rz px,(),T.of0.trans kp⟩;have eq:=Yd (S:=S) (x:=x) (w:=x);rw[aW rfl]at eq;rw[show Po.pl [((0:Int),(1:Int))]=[A.tup [.int 0,.int 1]]from rfl]at e1;dsimp[kG,nE,bools,lR,Nat.reduceAdd,Nat.reduceSub,CU,C,fh,cP,eq,wA,e1,x1]
   ·have eq:=Yd (S:=S) (x:=x) (w:=w);rw[bq e]at eq;obtain⟨k,S1,e1,P,T⟩:=TN (S:=S) px pw h1 ();have i2:=C;by_cases g:Below x w
    ·rw[P.mpr g]at e1;have fo:=vW (S:=S1) (xs:=w) (n:=n) lw ();obtain⟨c,t,ft⟩:∃c t,fl w n=c::t:=by
      cases hfl:fl w n with
      | cons c t=>exact⟨c,t,rfl⟩
      | nil=>
       exfalso;have wr:w=rg n:=Fw.DT pw λk P=>by
        have:=EZ (o:=w) (N:=n) (k:=k) P.1 (by rw[<- lw];exact P.2.1);rw[hfl]at this;have f1:Su.mq w k=true:=aW P.2.2;rw[f1]at this;exact absurd (bN this)<|by simp
       subst wr;obtain⟨js,hj⟩:=Fw.C6 _ x<|aP _;exact e<|Below.antisymm px.length_eq g<|Gr.Cv js px hj
     obtain⟨k,rfl,c1,c2,c3⟩:∃k:Nat,c=(k:Int)/\1<=k/\k<n/\Su.mq w k=true:=by
      have hc:c∈fl w n:=by rw[ft];exact aK ..
      have hr:=mU.mp (cD.mp hc).1;have ek:c=(c.toNat:Int):=()
      refine⟨c.toNat,ek,(),(),?_⟩;rw[<- EZ (N:=n) () (),<- ek];exact aW hc
     obtain⟨S2,L⟩:∃S2,S2=S1++[O.lst<|(fl w n).map .int]:=⟨_,rfl⟩;have k2:lY S1 S2:=by rw[L];exact Kp.refl.lay
     have l2:jU S2 S1.length=some (A.int k::t.map .int):=by rw[L,kh,ft];rfl
     rw[<- L]at fo;have hd:=Fw.oq c1 (show k<w.length by lia)<|bN c3;obtain⟨S3,x3,k3⟩:=yx (S:=S2) (xs:=w) (k:=k) c1 () ();obtain⟨S4,x4,k4⟩:=yx (S:=S3) (xs:=x) (k:=k) c1 () ();have Z:lY S S4:=((T.trans k2).trans k3).trans k4;have pe:=He.lH px c1 c2;have j:=He.lH pw c1 c2;have pw2:2 ^ (Iv.inv w+1)=2 ^ (Iv.inv (Wd.ex w k)+1)+2 ^ (Iv.inv (Wd.ex w k)+1):=by rw[hd,iJ 2<|Iv.inv (Wd.ex w k)+1];lia
     obtain⟨r5,S5,kv5,l5,x5,n5,a5,q5,b5,k5⟩:=Bc h1 h2 f (S:=S4) (kvs:=kvs) (x:=Wd.ex x k) (w:=Wd.ex w k) () () pe j (hK.kp Z) ();have J:=vW (S:=S5) (xs:=x) (n:=n) lx ();obtain⟨m,F⟩:∃m,m=S5++[O.lst<|(fl x n).map .int]:=⟨_,rfl⟩;have k6:lY S5 m:=by rw[F];exact Kp.refl.lay
     have B:aIn false (.int k) (.ref S5.length) m=.ok (.bl<|Su.mq x k) m:=by
      show opt (jU _ _) _=_;rw[F,kh,kD,D9,EZ c1 c2];rfl
     rw[<- F]at J;have U:Kp (·=d) S m:=(Z.of0.trans k5).trans k6.of0
     cases hx:Su.mq x k with
     | true=>
      rw[hx]at B;have iq:=Hz.abZ px pw c1 c2 c3 hx q5;obtain⟨S',kvs',e7,x7,n7,M,b7,kp⟩:=(n5.kp k6).put (x:=x) (w:=w) () (k6.lst _ _ (λz=>z) a5) iq;refine W ?_;show ∃(r:Nat) (S':jV) (kvs':List<|nj×A) (l:Pl),lB kY (kW<|lC f) _ S=.ok (.ref r) S'/\_;unfold kW kY;refine⟨r5,S',kvs',l5,?_,n7,M,iq,(),U.trans kp⟩;dsimp[kG,nE,bools,lR,Nat.reduceAdd,Nat.reduceSub,CU,C,fh,cP,b_,eq,e1,wA];unfold lD;dsimp[kG,nE,bools,lR,Nat.reduceAdd,Nat.reduceSub,CU,fo,l2,DF,x3,x4,x5,J,B,wA,e7,x7]
     | false=>
      rw[hx]at B;obtain⟨S7,p⟩:∃S7,S7=m++[O.lst<|Po.pl [(1,1)]]:=⟨_,rfl⟩;have k7:lY m S7:=by rw[p];exact Kp.refl.lay
      have M:jU S7 m.length=some (Po.pl [(1,1)]):=by rw[p];exact kh
      have K:=k6.trans k7;obtain⟨r8,S8,kv8,l8,x8,n8,a8,q8,b8,k8⟩:=Bc h1 h2 f (S:=S7) (kvs:=kv5) (x:=x) (w:=Wd.ex w k) () () px j (n5.kp K) ();have len8:=q8.len px j;have len5:=q5.len pe j;have Y:=(n5.kp K).dd;have l7':jU S8 m.length=some (Po.pl [(1,1)]):=k8.lst _ _ (λz=>JC Y M z.symm) M;have a5':jU S8 r5=some (Po.pl l5):=by
       have q:=K.lst _ _ (λz=>z) a5;exact k8.lst _ _ (λz=>JC Y q z.symm) q
      obtain⟨L9,S9,x9,a9,_,k9⟩:=qA l7' a8 (by show 1 * l8.length<_;lia) Wu<|Vv q8 px j ();have tl:(Po.times [(1,1)] l8).length<=l8.length:=bH (Su.wJ _ _)<|Nat.le_of_eq<|fH _;obtain⟨La,Sa,xa,aa,_,ka⟩:=MH (k9.lst _ _ (λz=>z) a5') a9 q5.ok ();have V:=k9.trans ka;have iq:=Hz.acN px pw c1 c2 c3 hx q5 q8;obtain⟨S',kvs',e7,x7,n7,M,b7,kp⟩:=(n8.kp V).put (x:=x) (w:=w) () aa iq;refine W ?_;show ∃(r:Nat) (S':jV) (kvs':List<|nj×A) (l:Pl),lB kY (kW<|lC f) _ S=.ok (.ref r) S'/\_;unfold kW kY;refine⟨La,S',kvs',_,?_,n7,M,iq,(),(((U.trans k7.of0).trans k8).trans V.of0).trans kp⟩;dsimp[kG,nE,bools,lR,Nat.reduceAdd,Nat.reduceSub,CU,C,fh,cP,b_,eq,e1,wA];unfold lD;rw[show Po.pl [((1:Int),(1:Int))]=[A.tup [.int 1,.int 1]]from rfl]at p;dsimp[kG,nE,bools,lR,Nat.reduceAdd,Nat.reduceSub,CU,fo,l2,DF,x3,x4,x5,J,B];rw[<- p];dsimp[kG,nE,bools,x8,x9,xa,wA,e7,x7]
    ·have kf:k=false:=by cases k with|false=>rfl|true=>exact absurd (P.mp rfl) g
     rw[kf]at e1;have k2:lY S (S1++[O.lst []]):=T.lay;obtain⟨S',kvs',e2,x2,n2,l2,b2,kp⟩:=(hK.kp k2).put (x:=x) (w:=w) (r:=S1.length) (l:=[]) () kh<|Hz.RK px pw g;refine W ?_;show ∃(r:Nat) (S':jV) (kvs':List<|nj×A) (l:Pl),lB kY (kW<|lC f) _ S=.ok (.ref r) S'/\_;unfold kW kY;refine⟨S1.length,S',kvs',_,?_,n2,l2,Hz.RK px pw g,(),k2.of0.trans kp⟩;dsimp[kG,nE,bools,lR,Nat.reduceAdd,Nat.reduceSub,CU,C,fh,cP,b_,eq,e1,wA,e2,x2]
def V1{n:Nat}{x w:ag}(h1:1<=n)(h2:n<=8)(px:x.Perm<|rg n)(pw:w.Perm<|rg n)(hi:Iv.inv w<=21)(c:n<=5):∃(r:Nat) (S':jV) (l:Pl),zm [.tup<|x.map .int,.tup<|w.map .int] S=.ok (.ref r) S'/\jU S' r=some (Po.pl l)/\IsR n x w l/\lY S S':=by
 have B:=qc px;have J:=qc pw;have m:=uU (S:=S) (show x.length=w.length by lia);obtain⟨S1,e1,e⟩:∃S1,qu [.tup<|x.map .int,.tup<|w.map .int] S=.ok .non S1/\lY S S1:=by
  refine⟨S,?_,Kp.refl⟩;have:oE [.tup<|x.map .int,.tup<|w.map .int,.int 5,.int 8,.int 6] S=.ok .non S:=by
   unfold oE sZ tM;dsimp[kG,nE,bools,lR,Nat.reduceAdd,Nat.reduceSub,aI,B,aW<|show(n:Int)<=5 by lia]
  unfold qu vV vj;dsimp[kG,nE,bools,lR,Nat.reduceAdd,Nat.reduceSub,m,this]
 have hK:KnQ n (S1++[.u9 []]) S1.length []:=⟨Cr<|by simp,λp g=>nomatch g⟩;have G:2 ^ (Iv.inv w+1)<=2 ^ 22:=dY ⋯ ();obtain⟨r,S',f,l,d,L,F,C,M,j⟩:=Bc h1 h2 RF (S:=S1++[.u9 []]) (kvs:=[]) (by show _<26;lia) ⋯ px pw hK (by dsimp[bX];lia);refine⟨r,S',l,?_,F,C,(e.lay (o:=.u9 [])).old j λq K _ z=>by have:=e.len;lia⟩;have d:uJ [.tup<|x.map .int,.tup<|w.map .int,.ref S1.length] (S1++[.u9 []])=.ok (.ref r) S':=d;have k:∀τ,IF τ S1=.ok (.ref S1.length) (S1++[.u9 []]):=λ_=>rfl;unfold zm JB Ib;dsimp[kG,nE,bools,lR,Nat.reduceAdd,Nat.reduceSub,e1,k,d]
end K34
namespace K34
open PySem L2 Am
def EO{xs ys:ag}(h:xs.length+ys.length<=16777216):mF (.tup<|xs.map .int) (.tup<|ys.map .int) S=.ok (.tup<|(xs++ys).map .int) S:=by
 rw[bZ];exact aap<|by rw[aI,aI];exact h
def slB{us:ag}{a b:Nat}(h0:1<=a)(h1:a<=b)(h2:b<=us.length):Jt (.tup<|us.map .int) (some (a:Int)) (some (b:Int)) S=.ok (.tup<|((us.drop a).take<|b-a).map .int) S:=by
 have hg:¬(HT.oK (us.map A.int).length 0 (some (a:Int))=0/\HT.oK (us.map A.int).length (us.map A.int).length (some (b:Int))=(us.map A.int).length):=by
  rw[HT.u5,aI]
  lia
 have hs:Jt (.tup<|us.map .int) (some (a:Int)) (some (b:Int)) S=.ok (.tup<|yU (us.map .int) (some (a:Int))<|some (b:Int)) S:=m_ hg;rw[hs];congr 2;unfold yU;rw[HT.u5,HT.u5,aI,f_ (),f_ (),map_take,map_drop]
def Z8{xs:ag}(hij:i<j)(hj:j<xs.length):xs.take i++[xs.getD j 0]++(xs.drop<|i+1).take (j-(i+1))++[xs.getD i 0]++xs.drop (j+1)=Iv.sw xs i j:=by
 obtain⟨P,M,R,B,hP,C,es⟩:=Iv.split hij hj;have m:P.length=i:=by rw[hP,bE];lia
 refine cJ λp=>?_;have g:∀q,q<xs.length->xs[q]?=some (xs.getD q 0):=λq f=>Iv.yq f;have F:(Iv.sw xs i j).length=xs.length:=Iv.B_ ..;by_cases c:p<xs.length
 ·have d:(Iv.sw xs i j)[p]?=some (if p=j then xs.getD i 0 else if p=i then xs.getD j 0 else xs.getD p 0):=by
   rw[<- Iv.Jh hij hj p];exact Iv.yq ()
  rw[d,bM,bM,bM];by_cases c1:p<i
  ·rw[bF<|by rw[bE];lia,eo c1,g p c,aJ (),aJ ()]
  ·rw[c6<|by rw[bE];lia,bE,f_ ()];by_cases c2:p=i
   ·rw[aJ (),aM c2,show p-i=0 by lia];rfl
   ·rw[aJ c2,show p-i=(p-(i+1))+1 by lia,List.singleton_append,fV];have k:((xs.drop<|i+1).take<|j-(i+1)).length=j-(i+1):=by rw[bE,cB];lia
    by_cases c3:p<j
    ·rw[bF (),eo (),f7,show i+1+(p-(i+1))=p by lia,g p c,aJ ()]
    ·rw[c6 (),k];by_cases e:p=j
     ·rw[aM e,show p-(i+1)-(j-(i+1))=0 by lia];rfl
     ·rw[aJ e,show p-(i+1)-(j-(i+1))=(p-(j+1))+1 by lia,List.singleton_append,fV,f7,show j+1+(p-(j+1))=p by lia,g p c]
 ·rw[bQ<|by dsimp[aV,bE,cB,bu,bX];lia,bQ ()]
def UY{xs:ag}(hij:i<j)(hj:j<xs.length)(hl:xs.length<=1000):oA [.tup<|xs.map .int,.int i,.int j] S=.ok (.tup<|(Iv.sw xs i j).map .int) S:=by
 have d:Jt (.tup<|xs.map .int) none (some (i:Int)) S=.ok (.tup<|(xs.take i).map .int) S:=slT ();have e:Jt (.tup<|xs.map .int) (some<|(i:Int)+1) (some (j:Int)) S=.ok (.tup<|((xs.drop<|i+1).take<|j-(i+1)).map .int) S:=by
  rw[show(i:Int)+1=((i+1:Nat):Int)by lia];exact slB () () ()
 have k:Jt (.tup<|xs.map .int) (some<|(j:Int)+1) none S=.ok (.tup<|(xs.drop<|j+1).map .int) S:=by
  rw[show(j:Int)+1=((j+1:Nat):Int)by lia];exact slD () ()
 have m:sO (xs.map A.int) (i:Int)=some (.int<|xs.getD i 0):=Z9 rfl ();have f:sO (xs.map A.int) (j:Int)=some (.int<|xs.getD j 0):=Z9 rfl ();have d1:mF (.tup<|(xs.take i).map .int) (.tup [.int<|xs.getD j 0]) S=.ok (.tup<|(xs.take i++[xs.getD j 0]).map .int) S:=
  EO (ys:=[xs.getD j 0]) (by rw[bE];show _+1<=_;lia)
 have g:mF (.tup<|(xs.take i++[xs.getD j 0]).map .int) (.tup<|((xs.drop<|i+1).take<|j-(i+1)).map .int) S=.ok (.tup<|(xs.take i++[xs.getD j 0]++(xs.drop<|i+1).take (j-(i+1))).map .int) S:=
  EO (by dsimp[aV,bE,cB,bu,bX];lia)
 have c:mF (.tup<|(xs.take i++[xs.getD j 0]++(xs.drop<|i+1).take (j-(i+1))).map .int) (.tup [.int<|xs.getD i 0]) S=.ok (.tup<|(xs.take i++[xs.getD j 0]++(xs.drop<|i+1).take (j-(i+1))++[xs.getD i 0]).map .int) S:=
  EO (ys:=[xs.getD i 0]) (by dsimp[aV,bE,cB,bu,bX];lia)
 have p:mF (.tup<|(xs.take i++[xs.getD j 0]++(xs.drop<|i+1).take (j-(i+1))++[xs.getD i 0]).map .int) (.tup<|(xs.drop<|j+1).map .int) S=.ok (.tup<|(Iv.sw xs i j).map .int) S:=by
  rw[EO<|by dsimp[aV,bE,cB,bu,bX];lia,Z8 hij hj]
 unfold oA s_ tN;dsimp[kG,nE,bools,lR,Nat.reduceAdd,Nat.reduceSub,d,m,f,aap<|show 1<=sizeLine by rw[dJ];decide,d1,e,g,c,k,p]
abbrev pq (xs:ag)(i j:Nat)(x:A):Bool:=match x with
 | .int m=>decide (xs.getD j 0<m) && decide (m<xs.getD i 0)
 | _=>false
abbrev cd (xs:ag)(i j:Nat)(left:Int):Bool:=decide (xs.getD i 0>xs.getD j 0) && decide (1+2 * (Hz.am xs i j:Int)<=left)
abbrev qt (xs:ag)(i j:Nat):A:=.tup [.int i,.int j,.int<|1+2 * (Hz.am xs i j:Int)]
def UT{n V:Nat}{xs:ag}{L:ae}{left:Int}(lx:xs.length=n)(h8:n<=8)(hij:i<j)(hj:j<n)(hV:jU S V=some L)(hL:L.length<=1000) :
  ∃S',mZ [.tup<|xs.map .int,.int left,.ref V,.int i,.int j,x5] S=.nx [.tup<|xs.map .int,.int left,.ref V,.int i,.int j,.int (Hz.am xs i j:Int)] S'/\jU S' V=some (if cd xs i j left=true then L++[qt xs i j]else L)/\Kp (·=V) S S':=by
 have F:Jt (.tup<|xs.map .int) (some<|(i:Int)+1) (some (j:Int)) S=.ok (.tup<|((xs.drop<|i+1).take<|j-(i+1)).map .int) S:=by
  rw[show(i:Int)+1=((i+1:Nat):Int)by lia];exact slB () () ()
 have J:sO (xs.map A.int) (i:Int)=some (.int<|xs.getD i 0):=Z9 rfl ();have C:sO (xs.map A.int) (j:Int)=some (.int<|xs.getD j 0):=Z9 rfl ();obtain⟨M,k⟩:∃M,M=(xs.drop<|i+1).take (j-(i+1)):=⟨_,rfl⟩;rw[<- k]at F;have N:M.length<=8:=by rw[k,bE,cB];lia
 have B:=Um (cap:=[some 0,some 4,some 3]) (src:=pI<|Zg (jS 0) (wY<|j7 mF (jS 3)<|eC<|.int 1)<|wY<|jS 4) (t:=vX<|Ux VB VB (j7 tZ (jS 1)<|jS 2) (jS 0)<|j7 tZ (jS 1)<|jS 3) (e:=jS 0) (τ:=[.tup<|xs.map .int,.int left,.ref V,.int i,.int j,x5]) (S:=S) (S1:=S) (xs:=M.map .int)
  (aaf<|by dsimp[kG,nE,bools,F]) (pq xs i j) (λx=>x) (λx p=>by
   obtain⟨m,_,rfl⟩:=bI.mp p;have c1:j7 tZ (jS 1) (jS 2) (.int m::ni [some 0,some 4,some 3] [.tup<|xs.map .int,.int left,.ref V,.int i,.int j,x5]) S=.ok (.int<|xs.getD j 0) S:=by dsimp[kG,nE,bools,C]
   have c2:jS 0 (.int m::ni [some 0,some 4,some 3] [.tup<|xs.map .int,.int left,.ref V,.int i,.int j,x5]) S=.ok (.int m) S:=by dsimp[kG,nE,bools]
   have c3:j7 tZ (jS 1) (jS 3) (.int m::ni [some 0,some 4,some 3] [.tup<|xs.map .int,.int left,.ref V,.int i,.int j,x5]) S=.ok (.int<|xs.getD i 0) S:=by dsimp[kG,nE,bools,J]
   rw[JI];by_cases c:xs.getD j 0<m
   ·rw[ac1 c1 c2 (by rw[Gi,aW c]) c3,Gi,R.nV,MG];show _=R.ok (decide (xs.getD j 0<m) && decide (m<xs.getD i 0)) S;rw[aW c,Bool.true_and]
   ·rw[adP c1 c2<|by rw[Gi,bq c],R.nV,MG];show _=R.ok (decide (xs.getD j 0<m) && decide (m<xs.getD i 0)) S;rw[bq c,jk]) (λx p _=>by
   obtain⟨m,_,rfl⟩:=bI.mp p;dsimp[kG,nE,bools]) (by rw[aI];lia)
 have ln:(((M.map A.int).filter<|pq xs i j).map λx=>x).length=Hz.am xs i j:=by
  rw[aI,jd,aI,<- List.countP_eq_length_filter];unfold Hz.am;rw[k,show j-i-1=j-(i+1)by lia];rfl
 have G:Hz.am xs i j<=8:=by
  unfold Hz.am;refine bH iP ?_;rw[bE,cB];lia
 obtain⟨S1,f⟩:∃S1,S1=S++[O.lst<|((M.map A.int).filter<|pq xs i j).map λx=>x]:=⟨_,rfl⟩;have g:lY S S1:=by rw[f];exact Kp.refl.lay
 have K:jU S1 S.length=some (((M.map A.int).filter<|pq xs i j).map λx=>x):=by rw[f];exact kh
 have d:=g.lst _ _ (λz=>z) hV;rw[<- f]at B;have q:za (.int 2) (.int (Hz.am xs i j:Int))=λS=>R.ok (.int<|2 * (Hz.am xs i j:Int)) S:=by funext S;exact Mj ⋯ ⋯
 unfold mZ;dsimp[kG,nE,bools,B,K,ln,J,C,q];unfold cd;by_cases c1:xs.getD i 0>xs.getD j 0
 ·by_cases c2:1+2 * (Hz.am xs i j:Int)<=left
  ·refine⟨S1.set V<|.lst<|L++[qt xs i j],?_,?_,(g.of0).GP<|.inl rfl⟩
   ·dsimp[kG,nE,bools,q,aW c1,aW c2,d,lR,Nat.reduceAdd,aap<|show 3<=sizeLine by rw[dJ];decide,zT<|show L.length<16777216 by lia];rfl
   ·rw[aW c1,aW c2,aM<|by rfl];exact wj<|bJ<|p6 d
  ·refine⟨S1,?_,?_,g.of0⟩
   ·dsimp[kG,nE,bools,q,aW c1,bq c2]
   ·rw[bq c2,jM,aJ<|by simp];exact d
 ·refine⟨S1,?_,?_,g.of0⟩
  ·dsimp[kG,nE,bools,bq c1]
  ·rw[bq c1,jk,aJ<|by simp];exact d
abbrev PL (xs:ag)(n:Nat)(left:Int)(q:A):Prop:=∃i j:Nat,i<j/\j<n/\xs.getD j 0<xs.getD i 0/\1+2 * (Hz.am xs i j:Int)<=left/\q=qt xs i j
def abj{n:Nat}{xs:ag}{left:Int}(lx:xs.length=n)(h8:n<=8):∃(V:Nat) (S':jV) (L:ae),mX [.tup<|xs.map .int,.int left] S=.ok (.ref V) S'/\jU S' V=some L/\L.length<=100/\(∀q∈L,PL xs n left q)/\lY S S':=by
 have N:lY S (S++[O.lst []]):=Kp.refl.lay;unfold mX p7 qe;dsimp[kG,nE,bools,lR,Nat.reduceAdd,Nat.reduceSub];refine sq (lo:=0) (hi:=n) (S1:=S++[O.lst []]) (src:=oU) (show oU _ _=_ from qz (by dsimp[kG,nE,bools,aI,lx])<|pR () ())
  (λi τ T=>(∃B f x5,τ=[.tup<|xs.map .int,.int left,.ref S.length,B,f,x5])/\(∃L,jU T S.length=some L/\L.length<=i * 8/\∀q∈L,PL xs n left q)/\lY S T)
  (λr=>∃(V:Nat) (S':jV) (L:ae),(r.seq<|mw<|jS 2).end=.ok (.ref V) S'/\jU S' V=some L/\L.length<=100/\(∀q∈L,PL xs n left q)/\lY S S')
  ⟨⟨_,_,_,rfl⟩,⟨[],kh,bY _,nofun⟩,N⟩ ?_ ?_
 ·rintro i τ T hi ⟨⟨B,f,x5,rfl⟩,⟨L,K,M,F⟩,J⟩;left;unfold rm;dsimp[kG];rw[cL];refine sq (lo:=(i:Int)+1) (hi:=n) (S1:=T) (src:=o8) (show o8 _ _=_ from Gp (S1:=T) (by dsimp[kG,nE,bools]) (by dsimp[kG,nE,bools,aI,lx]) (pR () ())<|pR () ())
   (λt c p=>(∃f x5,c=[.tup<|xs.map .int,.int left,.ref S.length,.int i,f,x5])/\(∃g,jU p S.length=some g/\g.length<=i * 8+t/\∀q∈g,PL xs n left q)/\lY S p)
   (λr=>∃c S',r=.nx c S'/\(∃B f x5,c=[.tup<|xs.map .int,.int left,.ref S.length,B,f,x5])/\(∃L,jU S' S.length=some L/\L.length<=(i+1) * 8/\∀q∈L,PL xs n left q)/\lY S S')
   ⟨⟨_,_,rfl⟩,⟨L,K,M,F⟩,J⟩ ?_ ?_
  ·rintro t c p Y ⟨⟨f,x5,rfl⟩,⟨g,m,G,d⟩,k⟩;left;have W:i * 8<=7 * 8:=cH _ ();obtain⟨S',e,U,P⟩:=UT (S:=p) (V:=S.length) (i:=i) (j:=i+1+t) (L:=g) (left:=left) (x5:=x5) lx h8 () () m ();refine⟨[.tup<|xs.map .int,.int left,.ref S.length,.int i,.int ((i+1+t:Nat):Int),.int (Hz.am xs i (i+1+t):Int)],S',?_,⟨_,_,rfl⟩,⟨_,U,?_,?_⟩,k.old P λq C _ z=>()⟩
   ·show mZ [.tup<|xs.map .int,.int left,.ref S.length,.int i,.int<|(i:Int)+1+t,x5] p=_;rw[show(i:Int)+1+(t:Int)=((i+1+t:Nat):Int)by lia];exact e
   ·split
    ·rw[aV];show _+1<=_;lia
    ·lia
   ·intro q C;split at C
    ·rename_i hc
     rcases bG.mp C with z|z
     ·exact d q z
     ·unfold cd at hc;rw[fR,eN,eN]at hc;exact⟨i,i+1+t,(),(),hc.1,hc.2,aS.mp z⟩
    ·exact d q C
  ·rintro c p ⟨⟨f,x5,rfl⟩,⟨g,m,G,d⟩,k⟩;exact⟨_,_,rfl,⟨_,_,_,rfl⟩,⟨g,m,(),d⟩,k⟩
 ·rintro τ T ⟨⟨B,f,x5,rfl⟩,⟨L,K,M,F⟩,J⟩;exact⟨S.length,T,L,by dsimp[kG,nE,bools],K,(),F,J⟩
end K34
namespace K34
open PySem L2 Am
open Bl
open Po (Pl Ok)
open Hz (IsR)
open Fw (rg)
def JP{a:A}{k:Bool}(h:xV S 12 a b=some k):yS true a b S=.ok (.bl<|!k) S:=by unfold yS;rw[h];rfl
def Vy{V r:Nat}{L:ae}(h:jU S V=some L)(hr:jU S r=some []):xV S 12 (.ref V) (.ref r)=some L.isEmpty:=by
 show(jU S V).bind (λxs=>(jU S r).bind λys=>vI (xV S 11) xs ys)=_;rw[h,hr]
 cases L<;>rfl
def abT{n:Nat}{w:ag}{far:Int}(h:CJ S b)(hn:n<=8)(pw:w.Perm<|rg n)(h0:0<=far) :
  ∃(x:ag) (S':jV),pF [.ref b,.tup<|w.map .int,.int far] S=.ok (.tup<|x.map .int) S'/\x.Perm (rg n)/\Below x w/\(Iv.inv w:Int)-Iv.inv x<=far/\CJ S' b/\Kp (·=b) S S':=by
 obtain⟨dd,S1,e1,d1,d2,b1,k1⟩:=digit h (show(1:Int)<=7 by decide) ⋯;unfold pF vC vN;dsimp[kG,nE,bools,lR,Nat.reduceAdd,Nat.reduceSub];refine sq (lo:=0) (hi:=dd) (S1:=S1) (src:=sX) (show sX _ _=_ from qz (by dsimp[kG,nE,bools,e1])<|pR () ())
  (λ_ τ T=>∃(x:ag) (left:Int),(∃W P p J C,τ=[.ref b,.tup<|w.map .int,.int left,.tup<|x.map .int,W,P,p,J,C])/\x.Perm (rg n)/\Below x w/\0<=left/\left+((Iv.inv w:Int)-Iv.inv x)=far/\CJ T b/\Kp (·=b) S T)
  (λr=>∃(x:ag) (S':jV),(r.seq<|mw<|jS 3).end=.ok (.tup<|x.map .int) S'/\x.Perm (rg n)/\Below x w/\(Iv.inv w:Int)-Iv.inv x<=far/\CJ S' b/\Kp (·=b) S S')
  ⟨w,far,⟨_,_,_,_,_,rfl⟩,pw,Below.refl _,h0,(),b1,k1⟩ ?_ ?_
 ·rintro i τ T hi ⟨x,left,⟨W,P,p,J,C,rfl⟩,px,bx,l0,lf,bT,kT⟩;left;refine hide λG hG=>?_;have lx:=qc px;obtain⟨V,T1,L,e2,M,lL,U,N⟩:=abj (S:=T) (left:=left) lx hn;have m:=bT.kp N λz=>z;have K:lY T1 (T1++[O.lst []]):=Kp.refl.lay;have j:=m.kp K λz=>z;have c:=K.lst _ _ (λz=>z) M;have F:=JP (Vy c (r:=T1.length) kh)
  cases L with
  | nil=>
   refine hG ?_;unfold sW;refine⟨[.ref b,.tup<|w.map .int,.int left,.tup<|x.map .int,.int<|0+(i:Int),.ref V,p,J,C],T1++[O.lst []],?_,x,left,⟨_,_,_,_,_,rfl⟩,px,bx,l0,lf,j,(kT.trans N.of0).trans K.of0⟩;dsimp[kG,nE,bools,e2,F,iU,b_]
  | cons q0 L0=>
   obtain⟨L,Z⟩:∃L,L=q0::L0:=⟨_,rfl⟩;have lp:1<=L.length:=by rw[Z,bu];lia
   rw[<- Z]at M c lL U F;have em:L.isEmpty=false:=by rw[Z];rfl
   rw[em]at F;obtain⟨d,T3,e4,q1,q2,Y,k4⟩:=digit j (show(1:Int)<=(L.length:Int)by lia) ();have vb:V≠b:=λz=>by
    have:=bT.lt;obtain⟨g,st,B,_⟩:=m;rw[z]at M;rw[M]at B;have B:=aZ B;obtain⟨_,_,_,_,_,_,z2⟩:=U (.int g) (by rw[B];exact aK ..);unfold qt at z2
    cases z2
   have hV3:=k4.lst _ _ vb c;obtain⟨q,hq⟩:∃q,L[d.toNat]?=some q:=⟨_,aH ()⟩;obtain⟨f,e,h1,h2,h3,h4,rfl⟩:=U q<|aY hq;have at_:sO L d=some (qt x f e):=Fd (k:=d.toNat) () hq;obtain⟨s1,s2,s3⟩:=Hz.swN px h1 h2 h3;have sw:=UY (S:=T3) (xs:=x) h1 () ();refine hG ?_;unfold sW;refine⟨[.ref b,.tup<|w.map .int,.int<|left-(1+2 * (Hz.am x f e:Int)),.tup<|(Iv.sw x f e).map .int,.int<|0+(i:Int),.ref V,.int f,.int e,.int<|1+2 * (Hz.am x f e:Int)],T3,?_,Iv.sw x f e,_,⟨_,_,_,_,_,rfl⟩,s2,s3.trans bx,(),(),Y,((kT.trans N.of0).trans K.of0).trans k4⟩;unfold qt at at_;dsimp[kG,nE,bools,e2,F,cP,c,e4,hV3,at_,m_<|show([_,_,_]:ae).length=3 from rfl,sw]
 ·rintro τ T ⟨x,left,⟨W,P,p,J,C,rfl⟩,px,bx,l0,lf,bT,kT⟩;exact⟨x,T,by dsimp[kG,nE,bools],px,bx,(),bT,kT⟩
end K34
namespace K34
open PySem L2 Am
open Bl
open Po (Pl Ok)
open Hz (IsR)
open Su (Es)
open Fw (rg)
abbrev Md (S:jV)(r:Nat)(v:Int)(k:Nat):Prop:=∃p:Pl,jU S r=some (Po.pl p)/\Ok p/\p.length<=2 ^ k/\∀t,Po.cf p t=v * Hz.lp k t
def Xs:2 ^ 60<big:=by rw[qT];exact Nat.pow_lt_pow_right ⋯ ⋯
def acs{r k:Nat}{v:Int}(hv:v.natAbs<=2 ^ 30)(hk:k<=20)(h:Md S r v k):∃(L:Nat) (S':jV),qB [x0,x1,x2,x3,.ref r,x5] S=.nx [x0,x1,x2,x3,.ref L,x5] S'/\Md S' L v (k+1)/\lY S S':=by
 obtain⟨p,m,ok,G,hc⟩:=h;have f:2 ^ k<=2 ^ 20:=dY ⋯ hk;obtain⟨S1,c⟩:∃S1,S1=S++[O.lst<|Po.pl He.LB]:=⟨_,rfl⟩;have j:lY S S1:=by rw[c];exact Kp.refl.lay
 have F:jU S1 S.length=some (Po.pl He.LB):=by rw[c];exact kh
 obtain⟨L,S2,e2,C,_,B⟩:=Og F (j.lst _ _ (λz=>z) m) (show 2 * p.length<16777216 by lia) (λq d=>by
  have g:1<big:=dg ⋯ Xs
  rcases bB.mp d with z|z
  ·rw[z];exact g
  ·rw[aS.mp z];exact g) (λq d=>by
  have e:=Hz.Ia ok d;rw[hc]at e;rw[<- e,jN];have:=eG hv<|bH (Hz.RB k q.1) f;exact dg (bH this ⋯) Xs)
 refine⟨L,S2,?_,⟨_,C,Po.qA _ _,?_,λt=>?_⟩,j.trans B⟩
 ·rw[show Po.pl He.LB=[A.tup [.int<|-1,.int<|-1],A.tup [.int 1,.int 1]]from rfl]at c;unfold qB;dsimp[kG,nE,bools,lR,Nat.reduceAdd,CU];rw[<- c];dsimp[kG,nE,bools,e2]
 ·refine bH (Su.wJ _ _) ?_;show 2 * p.length<=_;rw[iJ];lia
 ·rw[Hz.ace,hc,hc];show _=v * (Hz.lp k (t-1)-Hz.lp k (t+1));rw[Int.mul_sub]
def Wq{r:Nat}{l:Pl}(hr:jU S r=some (Po.pl l))(hl:l.length<=20)(hk:∀p∈l,0<=p.1/\p.1<=15/\p.2.natAbs<=2 ^ 30)(hnz:∀p∈l,p.2≠0) :
  ∃(L:Nat) (S':jV) (p:Pl),q_ [.ref r] S=.ok (.ref L) S'/\jU S' L=some (Po.pl p)/\Ok p/\(∀t,Po.cf p t=Hz.pv l t)/\lY S S':=by
 have Z:lY S (S++[O.lst []]):=Kp.refl.lay;have M:=Z.lst _ _ (λz=>z) hr;unfold q_ zl y9;dsimp[kG,nE,bools,lR,Nat.reduceAdd,Nat.reduceSub];refine uX (n:=r) (xs:=Po.pl l) (S1:=S++[O.lst []]) (show z8 _ _=_ from qD (by dsimp[kG,nE,bools]) M)
  (λi τ T=>(∃(F:Nat) (x2 x3 K x5:A) (p:Pl),τ=[.ref r,.ref F,x2,x3,K,x5]/\jU T F=some (Po.pl p)/\Ok p/\p.length<=i * 32768/\∀t,Po.cf p t=Hz.pv (l.take i) t)/\lY S T)
  (λq=>∃(L:Nat) (S':jV) (p:Pl),(q.seq<|mw<|jS 1).end=.ok (.ref L) S'/\jU S' L=some (Po.pl p)/\Ok p/\(∀t,Po.cf p t=Hz.pv l t)/\lY S S')
  ⟨⟨S.length,_,_,_,_,[],rfl,kh,⟨List.Pairwise.nil,nofun⟩,aP _,λt=>rfl⟩,Z⟩ (λ_ _ _ z=>z.2.lst _ _ (λz=>z) hr) ?_ ?_
 ·rintro i q τ T V ⟨⟨F,x2,x3,K,x5,p,rfl,Y,C,lp,cp⟩,W⟩;have g:=V;unfold Po.pl at g;rw[aX]at g;obtain⟨e,G,rfl⟩:=bg.mp g;have hi:i<l.length:=(aN.mp G).1;obtain⟨e0,e1,e2⟩:=hk e<|aY G;refine⟨[.ref r,.ref F,.int e.1,.int e.2,K,x5],T,?_,.inl ?_⟩
  ·show Ac 2 _ (.tup [.int e.1,.int e.2]) _ _=_;dsimp[kG,nE,bools,m_<|show([_,_]:ae).length=2 from rfl]
  ·unfold zV;obtain⟨T1,f⟩:∃T1,T1=T++[O.lst [A.tup [.int 0,.int e.2]]]:=⟨_,rfl⟩;have k1:lY T T1:=by rw[f];exact Kp.refl.lay
   have j:∃(L:Nat) (d:A) (T2:jV),lN qw (kR 5) qB [.ref r,.ref F,.int e.1,.int e.2,.ref T.length,x5] T1=.nx [.ref r,.ref F,.int e.1,.int e.2,.ref L,d] T2/\Md T2 L e.2 e.1.toNat/\lY T T2:=by
    refine sq (lo:=0) (hi:=e.1) (S1:=T1) (src:=qw) (show qw _ _=_ from qz (by dsimp[kG,nE,bools])<|pR () ())
     (λk τ U=>∃(L:Nat) (d:A),τ=[.ref r,.ref F,.int e.1,.int e.2,.ref L,d]/\Md U L e.2 k/\lY T U)
     (λq=>∃(L:Nat) (d:A) (T2:jV),q=.nx [.ref r,.ref F,.int e.1,.int e.2,.ref L,d] T2/\Md T2 L e.2 e.1.toNat/\lY T T2)
     ⟨T.length,x5,rfl,⟨[(0,e.2)],by rw[f];exact kh,?_,aP _,λt=>?_⟩,k1⟩ ?_ ?_
    ·refine⟨cg _ _,λq V=>?_⟩;rw[aS.mp V];exact hnz e (aY G)
    ·show(if (0:Int)=t then e.2 else 0)+0=e.2 * (if t=0 then 1 else 0);by_cases c:t=0
     ·rw[aM c.symm,aM c];lia
     ·rw[aJ λz=>c z.symm,aJ c];lia
    ·rintro k τ U hk' ⟨L,d,rfl,J,P⟩;left;obtain⟨L',U',e3,N,k3⟩:=acs (S:=U) (x0:=.ref r) (x1:=.ref F) (x2:=.int e.1) (x3:=.int e.2) (x5:=.int<|0+(k:Int)) e2 () J;exact⟨_,U',e3,L',_,rfl,N,P.trans k3⟩
    ·rintro τ U ⟨L,d,rfl,J,P⟩;rw[Int.sub_zero]at J;exact⟨L,d,U,rfl,J,P⟩
   obtain⟨L,d,T2,e3,⟨m,hm,okm,lm,cm⟩,k2⟩:=j;have lm2:m.length<=2 ^ 15:=bH lm<|dY ⋯ ();have l20:i * 32768<=19 * 32768:=cH _ ();obtain⟨L3,T3,e4,a4,_,k4⟩:=TF (k2.lst _ _ (λz=>z) Y) hm ();have pl:(Po.pG p m).length<=p.length+m.length:=by
    refine bH (Po.Eh _)<|bH (Po.oG _ _) ?_;rw[aV,bX];lia
   refine⟨[.ref r,.ref L3,.int e.1,.int e.2,.ref L,d],T3,?_,⟨L3,_,_,_,_,_,rfl,a4,Po.yC _ _,(),λt=>?_⟩,(W.trans k2).trans k4⟩
   ·obtain⟨c1,B⟩:∃c,c=lN qw (kR 5) qB:=⟨_,rfl⟩;rw[<- B];rw[<- B]at e3;dsimp[kG,nE,bools,lR,Nat.reduceAdd,CU];rw[<- f];dsimp[kG,nE,bools,e3,e4]
   ·rw[Su.Bb,cp,cm,dM,G,Hz.aaR];congr 1;show _=e.2 * Hz.lp e.1.toNat t+0
    lia
 ·rintro τ T ⟨⟨F,x2,x3,K,x5,p,rfl,Y,C,lp,cp⟩,W⟩;rw[show(Po.pl l).length=l.length from aI ..]at cp;rw[dU]at cp;exact⟨F,T,p,by dsimp[kG,nE,bools],Y,C,cp,W⟩
theorem F6:∀es:Es,Fq (es.map Su.ent)=some (es.map Su.kv)
 | []=>rfl
 | e::es=>by
  show(A.ints<|e.1.map .int).bind (λc=>(Fq<|es.map Su.ent).map λps=>(c,A.ref e.2.1)::ps)=_;rw[ints_map,F6 es];rfl
def WU{acc:List<|ag×A}{k:ag}(h:k∉acc.map Prod.fst):mC acc k=none:=by
 unfold mC;rw[gU.mpr λp c z=>h<|bI.mpr ⟨p,c,bN z⟩];rfl
theorem Gw:∀(ps acc:List<|ag×A),((acc++ps).map Prod.fst).Nodup->ps.foldl (λacc p=>putD acc p.1 p.2) acc=acc++ps
 | [],acc,_=>(cZ _).symm
 | p::ps,acc,h=>by
  have hn:p.1∉acc.map Prod.fst:=λz=>by
   rw[bZ,c8]at h;exact h.2.2 p.1 z p.1 (aK ..) rfl
  have e:putD acc p.1 p.2=acc++[p]:=by
   unfold putD;rw[WU hn,aJ<|by simp]
  rw[dS,e,Gw ps (acc++[p])<|by rw[bM];exact h,bM];rfl
def OB{S:jV}{n:Nat}{es:Es}(h:Sm S n es)(nd:(es.map (·.1)).Nodup):JQ (.ref n) S=.ok (.ref S.length) (S++[.dct<|es.map Su.kv]):=by
 show opt (jU S n) (λxs=>opt (Fq xs) λps=>R.ok (A.ref S.length)<|S++[O.dct<|LH ps])=_;rw[h.l,kD,F6,kD];unfold LH;rw[Gw _ []<|by rw[jK,bK];exact nd,jK]
end K34
namespace K34
open PySem L2 Am
open Po (Pl Ok Bd)
open Su (Es At Vl)
open He (Sz PB)
open Fw (rg)
def PY{N P n:Nat}{o:ag}{p:Pl}{r:Nat}(po:o.Perm<|rg N)(hp:Ok p)(h0:p≠[])(pb:PB P C p)(hn:jU S n=some [.tup [.tup<|o.map .int,.ref r]])(hr:jU S r=some (Po.pl p)):Sn N P C S n [(o,p)]:=
 ⟨He.Sz.of (He.Ph o hp h0) (λx c=>by rw[aS.mp c];exact po) λx c=>by rw[aS.mp c];exact pb,[(o,r,p)],⟨hn,λe d=>by rw[aS.mp d];exact hr⟩,rfl⟩
def ZR:PB 60 (10 ^ 20) [((0:Int),(1:Int))]:=⟨λq c=>by rw[aS.mp c];decide,λq c=>by rw[aS.mp c];decide⟩
def Vx{N:Nat}{S:jV}{o:ag}(po:o.Perm<|rg N):Sn N 60 (10 ^ 20) (S++[O.lst [.tup [.int 0,.int 1]]]++[O.lst [.tup [.tup<|o.map .int,.ref S.length]]]) (S.length+1) [(o,[((0:Int),(1:Int))])]:=by
 have:=kh (S:=S++[O.lst [.tup [.int 0,.int 1]]]) (xs:=[.tup [.tup<|o.map .int,.ref S.length]]);rw[aV,dN]at this;exact PY po He.TM (by simp) ZR this<|lg kh
open Bl
open Po (Pl Ok)
open Hz (IsR)
open Su (Es)
open Fw (rg)
def abY:10 ^ 20<big:=by rw[qT];exact b6 (show 10 ^ 20<2 ^ 100 by decide)<|dY ⋯ ⋯
def adR{k:Nat}{a b c d:Int}:xV S (k+2) (.tup [.int a,.int b]) (.tup [.int c,.int d])=some (decide<|(a,b)=(c,d)):=by
 show((some<|a == c).bind λp=>((some<|b == d).bind λq=>(some true).map λr=>q && r).map λq=>p && q)=_;by_cases h1:a=c
 ·by_cases h2:b=d
  ·subst h1 h2;simp
  ·subst h1;simp[h2]
 ·simp[h1]
theorem GN{k:Nat}:∀l m:Pl,vI (xV S<|k+2) (Po.pl l) (Po.pl m)=some (decide<|l=m)
 | [],[]=>rfl
 | [],_::_=>rfl
 | _::_,[]=>rfl
 | p::l,q::m=>by
  show(xV S (k+2) (.tup [.int p.1,.int p.2])<|.tup [.int q.1,.int q.2]).bind (λa=>(vI (xV S<|k+2) (Po.pl l)<|Po.pl m).map λb=>a && b)=_;rw[adR,GN l m];show some (decide (p=q) && decide (l=m))=_;by_cases h1:p=q
  ·by_cases h2:l=m
   ·subst h1 h2;simp
   ·simp[h2]
  ·simp[h1]
def Xe(N:Nat):(L2.WD (N:Int) 0).Perm (rg N):=by
 have e:(List.range ((N:Int)-0).toNat).map (λk:Nat=>(N:Int)-(k:Int))=((List.range ((N:Int)+1-1).toNat).map λk:Nat=>1+(k:Int)).reverse:=by
  refine iT (by simp) λi h1 h2=>?_;simp at h1;simp
  lia
 show((List.range ((N:Int)-0).toNat).map λk:Nat=>(N:Int)-(k:Int)).Perm ((List.range ((N:Int)+1-1).toNat).map λk:Nat=>1+(k:Int));rw[e];exact List.reverse_perm _
def NF{q:Nat}{p:Pl}(h:CJ S b)(hq:jU S q=some (Po.pl p)):q≠b:=λz=>by
 obtain⟨g,st,e,_⟩:=h;rw[z,e]at hq;have:=aZ hq
 cases p with
 | nil=>cases this
 | cons a p=>
  have:=(List.cons.inj this).1;unfold Po.pA at this
  cases this
def ZM{a:Nat}{l:Pl}(ha:jU S a=some (Po.pl l))(hb:jU S b=some (Po.pl m))(e:l=m):xV S 12 (.ref a) (.ref b)=some true:=by
 subst e;show(jU S a).bind (λxs=>(jU S b).bind λys=>vI (xV S 11) xs ys)=_;rw[ha,hb];show vI (xV S 11) (Po.pl l) (Po.pl l)=_;rw[GN,aW rfl]
structure Hd (S:jV)(b D:Nat)(fs:Es):Prop where
 bag:CJ S b
 dd:kK S D=some (fs.map Su.kv)
 at_:Su.At S fs
def Hd.kb{D:Nat}{fs:Es}(h:Hd S b D fs)(k:Kp (·=b) S S')(hb:CJ S' b):Hd S' b D fs:=⟨hb,k.dct _ _ (λz=>by
 obtain⟨_,_,e,_⟩:=h.bag;exact Su.rW h.dd e z) h.dd,h.at_.kp k λe c=>NF h.bag<|h.at_ e c⟩
def Hd.kp{D:Nat}{fs:Es}(h:Hd S b D fs)(k:lY S S'):Hd S' b D fs:=⟨h.bag.kp k λz=>z,k.dct _ _ (λz=>z) h.dd,h.at_.CF k⟩
abbrev tlS:Am.Sm:=yV (vX<|j7 (yS true) (Rw Rg (jS 5)<|jR (jS 7)<|jR (qN j6) j6)<|eFn q_<|jR (eFn zm<|jR (jS 7)<|jR (jS 4) j6) j6)
 (mw<|eC<|.bl false)
 qU
def xX{D N:Nat}{fs:Es}{o x:ag}(h:Hd S b D fs)(h1:1<=N)(h5:N<=5)(po:o.Perm<|rg N)(px:x.Perm<|rg N)(gd:Su.Gd<|Su.sm fs)(hc:∀t,Su.cS (Su.sm fs) x t=He.bT N o x t) :
  ∃S',tlS [x0,x1,x2,x3,.tup<|o.map .int,.ref D,x6,.tup<|x.map .int] S=.nx [x0,x1,x2,x3,.tup<|o.map .int,.ref D,x6,.tup<|x.map .int] S'/\Hd S' b D fs:=by
 have P:Iv.inv o<=10:=by
  have h:=Hz.KA o;rw[po.length_eq,Wd.j3]at h;have:N * (N-1)<=5 * 4:=eG h5 ()
  lia
 obtain⟨q,eq,j⟩:=Su.get_or (o:=x) h.dd h.at_;obtain⟨S1,c⟩:∃S1,S1=S++[O.lst []]:=⟨_,rfl⟩;have k:lY S S1:=by rw[c];exact Kp.refl.lay
 rw[<- c]at j;have d1:=(h.kp k).dd;obtain⟨r,S2,l,e2,K,f,G⟩:=V1 (S:=S1) h1 () px po () h5;have len:=f.len px po;have T:2 ^ Iv.inv o<=2 ^ 30:=dY ⋯ ();obtain⟨L,S3,p,e3,B,g,c3,J⟩:=Wq K () (λp F=>by
  obtain⟨C,p1,p2,p3,_⟩:=f.keys px po F;refine⟨C,(),?_⟩
  lia) f.ok.nz
 have e:=G.trans J;have d:Su.vS (Su.sm fs) x=p:=Po.uniq (gd.v x) g λt=>by rw[<- He.B0 gd,hc t,c3 t,Hz.acg f px po t]
 have m:=JP<|ZM (e.lst _ _ (λz=>z) j) B d;refine⟨S3,?_,(h.kp k).kp e⟩;have M:newL [] S=.ok (.ref S.length) S1:=by rw[c];exact mT (show 0<=16777216 by decide)
 unfold tlS;dsimp[kG,nE,bools,Su.KS,Su.L8,h.dd,dz,M,Su.ER,d1,eq];rw[<- c];dsimp[kG,nE,bools,Su.ER,d1,eq,e2,e3,m,b_]
def YZ(ns:ag)(hl:ns.length<=63):∃S',DW [.frz<|ns.map .int] []=.ok (.bl true) S':=by
 unfold DW Rf RA;dsimp[kG,bools,lR,Nat.reduceAdd,Nat.reduceSub];refine sq (lo:=0) (hi:=if (if 4<(ns.length:Int)then 4 else(ns.length:Int))>1 then(if 4<(ns.length:Int)then 4 else(ns.length:Int))else 1) (S1:=[]) (show Kh _ _=_ from qz (by dsimp[kG,bools,aI])<|pR (by split<;>split<;>lia)<|by split<;>split<;>lia)
  (λ_ τ _=>∃a1 a2 a3 a4 Y K J:A,τ=[.frz<|ns.map .int,a1,a2,a3,a4,Y,K,J]) (λr=>∃S',RS.end (RS.seq r _)=.ok (.bl true) S') ⟨_,_,_,_,_,_,_,rfl⟩ ?_ ?_
 ·rintro i τ S hi ⟨a1,a2,a3,a4,Y,K,J,rfl⟩;left;refine hide λG hG=>?_;have hi4:(i:Int)<4:=by split at hi<;>split at hi<;>lia
  obtain⟨S1,e1,b1,kp1⟩:=U0 (S:=S) (ns:=ns) (k:=0+(i:Int)) () ();have k2:lY S1 (S1++[O.lst [.int 4,.int 3]]):=Kp.refl.lay;obtain⟨v,hv,v3,v4⟩:∃v:Int,sO ([.int 4,.int 3]:ae) (if decide ((0:Int)<0+(i:Int))=true then 1 else 0)=some (.int v)/\3<=v/\v<=4:=by
   by_cases c:(0:Int)<0+(i:Int)
   ·rw[aW c];exact⟨3,rfl,by decide,by decide⟩
   ·rw[bq c];exact⟨4,rfl,by decide,by decide⟩
  obtain⟨d,S3,e3,d0,d1,b3,k3⟩:=digit (S:=S1++[O.lst [.int 4,.int 3]]) (m:=v) (b1.kp k2 λz=>z) () ();obtain⟨N,hN⟩:∃N:Nat,(N:Int)=2+d:=⟨(2+d).toNat,()⟩;have N6:N<6:=()
  have N1:1<=N:=()
  obtain⟨o1,S4,e4,po1,b4,k4⟩:=F3 (n:=(N:Int)) b3 () ();obtain⟨t,g,e5,_,_,b5,k5⟩:=digit (m:=8) b4 ⋯ ⋯;have C:∃o:ag,o.Perm (rg N)/\yV (vX<|j7 (yS false) (eFn kH<|jR (jS 2)<|jR (eC<|.int 8) j6)<|eC<|.int 3) (kL (Nk (jS 3) (eC<|.int 0)<|N5 zq<|eC<|.int 1)<|kR 4) qU [.frz<|ns.map .int,.int<|0+(i:Int),.ref S.length,.int N,.tup<|o1.map .int,Y,K,J] S4=.nx [.frz<|ns.map .int,.int<|0+(i:Int),.ref S.length,.int N,.tup<|o.map .int,Y,K,J] g:=by
   dsimp[kG,bools,e5];by_cases c:t=3
   ·have td:=WI (c:=jS 3) (d:=eC<|.int 0) (e:=N5 zq<|eC<|.int 1) (τ:=[.frz<|ns.map .int,.int<|0+(i:Int),.ref S.length,.int N,.tup<|o1.map .int,Y,K,J]) (S:=g) (S1:=g) (S2:=g) (S3:=g) (i:=(N:Int)) (j:=0) (by dsimp[kG,bools]) (by dsimp[kG,bools]) (by dsimp[kG,bools]) (pR () ()) (pR ⋯ ⋯) ();refine⟨L2.WD (N:Int) 0,Xe N,?_⟩;rw[c,bS];dsimp[kG,bools,td]
   ·refine⟨o1,po1,?_⟩;rw[cV.mpr c];dsimp[kG,bools]
  obtain⟨o,P,C⟩:=C;have A6:=Vx (N:=N) (S:=g) P;have l6:(g++[O.lst [A.tup [.int 0,.int 1]]]).length=g.length+1:=by simp
  obtain⟨S6,M⟩:∃S6,S6=g++[O.lst [A.tup [.int 0,.int 1]]]++[O.lst [.tup [.tup<|o.map .int,.ref g.length]]]:=⟨_,rfl⟩;rw[<- M]at A6;have k6:lY g S6:=by rw[M];exact Kp.refl.lay.lay
  obtain⟨F,f,e7,A7,k7⟩:=A6.tu N6 N1 ⋯ abY;obtain⟨zf,fs,sf,qf⟩:=A7;obtain⟨w,r1,r2⟩:=He.nk (Iv.inv o) P rfl;rw[He.RY P r1 r2]at qf;obtain⟨cn,_,ce⟩:=He.Gv P r1 r2;have qf:Su.sm fs=He.tO N w:=qf;rw[<- qf]at cn ce;have nd:(fs.map (·.1)).Nodup:=by
   have:=cn.gd.nd;unfold Su.sm at this
   rwa [bK]at this
  have e8:=OB sf nd;obtain⟨L,V⟩:∃L,L=f++[O.dct<|fs.map Su.kv]:=⟨_,rfl⟩;have k8:lY f L:=by rw[V];exact Kp.refl.lay
  rw[<- V]at e8;have hH:Hd L S.length f.length fs:=⟨b5.kp ((k6.trans k7).trans k8) λz=>z,by rw[V];exact Su.qV,(sf.kp k8).a⟩;have hc:∀x:ag,x.Perm (rg N)->∀t,Su.cS (Su.sm fs) x t=He.bT N o x t:=λx px t=>ce x px t;have kk9:lY L (L++[O.lst [.int 9,.int 2]]):=Kp.refl.lay;obtain⟨v2,hv2,v23,v24⟩:∃v:Int,sO ([.int 9,.int 2]:ae) (if ((N:Int) == 5)=true then 1 else 0)=some (.int v)/\2<=v/\v<=9:=by
   by_cases c:(N:Int)=5
   ·rw[c,bS];exact⟨2,rfl,by decide,by decide⟩
   ·rw[cV.mpr c];exact⟨9,rfl,by decide,by decide⟩
  obtain⟨d2,S9,e9,d20,d21,b9,k9⟩:=digit (S:=L++[O.lst [.int 9,.int 2]]) (m:=v2) (hH.kp kk9).bag () ();have hH9:=(hH.kp kk9).kb k9 b9;have lp:∃(B p:A) (S':jV),lN yo (kR 6) AB [.frz<|ns.map .int,.int<|0+(i:Int),.ref S.length,.int N,.tup<|o.map .int,.ref f.length,K,J] L=.nx [.frz<|ns.map .int,.int<|0+(i:Int),.ref S.length,.int N,.tup<|o.map .int,.ref f.length,B,p] S':=by
   refine sq (lo:=0) (hi:=2+d2) (S1:=S9) (src:=yo) (show yo _ _=_ from qz (by dsimp[kG,nE,bools,hv2,e9])<|pR () ())
    (λ_ τ T=>(∃B p,τ=[.frz<|ns.map .int,.int<|0+(i:Int),.ref S.length,.int N,.tup<|o.map .int,.ref f.length,B,p])/\Hd T S.length f.length fs)
    (λq=>∃(B p:A) (S':jV),q=.nx [.frz<|ns.map .int,.int<|0+(i:Int),.ref S.length,.int N,.tup<|o.map .int,.ref f.length,B,p] S') ⟨⟨_,_,rfl⟩,hH9⟩ ?_ ?_
   ·rintro j τ T hj ⟨⟨B,p,rfl⟩,hT⟩;left;obtain⟨x1,T1,f1,px1,bT1,kT1⟩:=F3 (n:=(N:Int)) hT.bag () ();have Z:=hT.kb kT1 bT1;have hb2:AB=kC (kL (eFn nH<|jR (jS 2)<|jR (jS 3) j6)<|kR 7)
     (kC (yV (vX<|j7 (yS false) (j7 Ah (jS 6)<|eC<|.int 2)<|eC<|.int 0)
     (kL (eFn pF<|jR (jS 2)<|jR (jS 4)<|jR (eC<|.int 20) j6)<|kR 7)
     qU) tlS):=rfl
    have md:Ah (.int<|0+(j:Int)) (.int 2) T1=.ok (.int<|(0+(j:Int)) % 2) T1:=Du ⋯;rw[hb2];obtain⟨c,W⟩:∃c,c=tlS:=⟨_,rfl⟩;rw[<- W];by_cases cj:(0+(j:Int)) % 2=0
    ·obtain⟨x2,T2,f2,px2,_,_,bT2,kT2⟩:=abT (S:=T1) (b:=S.length) (n:=N) (w:=o) (far:=20) bT1 () P ⋯;obtain⟨T3,f3,U⟩:=xX (x0:=.frz<|ns.map .int) (x1:=.int<|0+(i:Int)) (x2:=.ref S.length) (x3:=.int N) (x6:=.int<|0+(j:Int)) (Z.kb kT2 bT2) N1 () P px2 cn.gd<|hc x2 px2;rw[<- W]at f3;refine⟨[.frz<|ns.map .int,.int<|0+(i:Int),.ref S.length,.int N,.tup<|o.map .int,.ref f.length,.int<|0+(j:Int),.tup<|x2.map .int],T3,?_,⟨_,_,rfl⟩,U⟩;rw[cj]at md;dsimp[kG,nE,bools,f1,md,bS,f2];exact f3
    ·obtain⟨T3,f3,U⟩:=xX (x0:=.frz<|ns.map .int) (x1:=.int<|0+(i:Int)) (x2:=.ref S.length) (x3:=.int N) (x6:=.int<|0+(j:Int)) Z N1 () P px1 cn.gd<|hc x1 px1;rw[<- W]at f3;refine⟨[.frz<|ns.map .int,.int<|0+(i:Int),.ref S.length,.int N,.tup<|o.map .int,.ref f.length,.int<|0+(j:Int),.tup<|x1.map .int],T3,?_,⟨_,_,rfl⟩,U⟩;dsimp[kG,nE,bools,f1,md,cV.mpr cj];exact f3
   ·rintro τ T ⟨⟨B,p,rfl⟩,hT⟩;exact⟨B,p,T,rfl⟩
  obtain⟨B,p,S10,lp⟩:=lp;have step:Eg [.frz<|ns.map .int,.int<|0+(i:Int),a2,a3,a4,Y,K,J] S=.nx [.frz<|ns.map .int,.int<|0+(i:Int),.ref S.length,.int N,.tup<|o.map .int,.ref f.length,B,p] S10:=by
   unfold Eg;obtain⟨c1,hc1⟩:∃c,c=lN yo (kR 6) AB:=⟨_,rfl⟩;obtain⟨c2,hc2⟩:∃c,c=yV (vX<|j7 (yS false) (eFn kH<|jR (jS 2)<|jR (eC<|.int 8) j6)<|eC<|.int 3) (kL (Nk (jS 3) (eC<|.int 0)<|N5 zq<|eC<|.int 1)<|kR 4) qU:=⟨_,rfl⟩;rw[<- hc1,<- hc2];rw[<- hc1]at lp;rw[<- hc2]at C;dsimp[kG,nE,bools,e1,hv,e3,<- hN,e4,C,lR,Nat.reduceAdd,CU,l6];rw[<- M];dsimp[kG,nE,bools,e7,e8,lp]
  exact hG ⟨_,S10,step,_,_,_,_,_,_,_,rfl⟩
 ·rintro τ S ⟨a1,a2,a3,a4,Y,K,J,rfl⟩;exact⟨S,by dsimp[kG,nE,bools]⟩
end K34
namespace K34
open PySem L2 Am
def all_mk{l:PySem.W.OpenLaw}{w:ah}{K:au}{h:aq}{mg:Str->bi}{fa:ak}(X:K.In h)(G:h.Ns mainGlobals mg)(hfa:mg "law" = some (.ref fa))
  (a1:Df K "is_whole" xx)
  (a2:Df K "need_pair" vG)
  (a3:Df K "back" IK)
  (a4:Df K "is_exchange" sP)
  (a5:Df K "exchanged_places" oW)
  (a6:Df K "exchanged" vp)
  (a7:Df K "falls" EK)
  (a8:Df K "first_above_nought" nP)
  (a9:Df K "bar" QZ)
  (a10:Df K "is_below" xB)
  (a11:Df K "need_bounds" sU)
  (a12:Df K "as_polynomial" qK)
  (a13:Df K "plus" IT)
  (a14:Df K "times" Et)
  (a15:Df K "turned" Ce)
  (a16:Df K "need_rest" vh)
  (a17:Df K "rest_by_fall" r9)
  (a18:Df K "found_rest" qR)
  (a19:Df K "rest" Jm)
  (a20:Df K "put_before" uT)
  (a21:Df K "as_sum" Br)
  (a22:Df K "need_like" vY)
  (a23:Df K "added" ED)
  (a24:Df K "scaled" Bk)
  (a25:Df K "by_exchange" sS)
  (a26:Df K "first_word" uQ)
  (a27:Df K "turned_order" pO)
  (a28:Df K "turning" yZ)
  (a29:Df K "_law_bag" zg)
  (a30:Df K "_law_digit" vR)
  (a31:Df K "_law_own_poly" rC)
  (a32:Df K "_law_own_plus" rY)
  (a33:Df K "_law_own_times" qG)
  (a34:Df K "_law_order" vO)
  (a35:Df K "_law_swapped" tX)
  (a36:Df K "_law_pairs_less" qd)
  (a37:Df K "_law_under" wc)
  (a38:Df K "_law_put" zw)
  (a39:Df K "law" Sy)
  (aeB:PySem.W.nsIn K mainGlobals "isinstance" = some none)
  (aeD:PySem.W.nsIn K mainGlobals "bool" = some none)
  (aeJ:PySem.W.nsIn K mainGlobals "int" = some none)
  (aeK:PySem.W.nsIn K mainGlobals "len" = some none)
  (aeL:PySem.W.nsIn K mainGlobals "enumerate" = some none)
  (aeM:PySem.W.nsIn K mainGlobals "tuple" = some none)
  (aeN:PySem.W.nsIn K mainGlobals "list" = some none)
  (aeO:PySem.W.nsIn K mainGlobals "range" = some none)
  (aeP:PySem.W.nsIn K mainGlobals "max" = some none)
  (aeQ:PySem.W.nsIn K mainGlobals "sorted" = some none)
  (aeR:PySem.W.nsIn K mainGlobals "dict" = some none)
  (aeS:PySem.W.nsIn K mainGlobals "reversed" = some none)
  (aeT:PySem.W.nsIn K mainGlobals "min" = some none)
  {aes:Tok} (aeU:PySem.W.nsIn K mainGlobals "MOST_PAIRS" = some (some<|.int 6 aes))
  {aew:Tok} (aeV:PySem.W.nsIn K mainGlobals "MOST_THINGS" = some (some<|.int 8 aew))
  {aex:Tok} (aeW:PySem.W.nsIn K mainGlobals "FREE_THINGS" = some (some<|.int 5 aex))
  {a_AT_A_FALL:ak} (aeX:PySem.W.nsIn K mainGlobals "AT_A_FALL" = some (some<|.ref a_AT_A_FALL)) (kp_AT_A_FALL:UH K a_AT_A_FALL=some [((-1:Int),(1:Int)),((1:Int),(-1:Int))])
  {a_LESS_BACK:ak} (aeY:PySem.W.nsIn K mainGlobals "LESS_BACK" = some (some<|.ref a_LESS_BACK)) (kp_LESS_BACK:UH K a_LESS_BACK=some [((-1:Int),(-1:Int)),((1:Int),(1:Int))])
  : ∃fd:FuncData,(∀(s:aC) (v:af),BindsTo s fd ⟨[v],[]⟩ [("_law_script",v)])/\∀base:aq,K.In base->base.Ns mainGlobals mg->FnOk l.prog w K mg base qi 58 fa fd ["_law_script"] (qP K 1 DW):=by
 obtain⟨f,fd,a,F⟩:=a39;have e:=hfa.symm.trans (gg X G a)
 cases e
 have ac9:=cE X G aeB;have adb:=cE X G aeD;have Z:=cE X G aeJ;have d:=cE X G aeK;have ade:=cE X G aeL;have B:=cE X G aeM;have J:=cE X G aeN;have k:=cE X G aeO;have P:=cE X G aeP;have N:=cE X G aeQ;have V:=cE X G aeR;have adk:=cE X G aeS;have ad6:=cE X G aeT;have adl:∃t,mg "MOST_PAIRS" = some (.int 6 t):=⟨aes,gg X G aeU⟩;have adm:∃t,mg "MOST_THINGS" = some (.int 8 t):=⟨aew,gg X G aeV⟩;have ado:∃t,mg "FREE_THINGS" = some (.int 5 t):=⟨aex,gg X G aeW⟩;have j:∃a,mg "AT_A_FALL" = some (.ref a)/\UH K a=some [((-1:Int),(1:Int)),((1:Int),(-1:Int))]:=⟨a_AT_A_FALL,gg X G aeX,kp_AT_A_FALL⟩;have g:∃a,mg "LESS_BACK" = some (.ref a)/\UH K a=some [((-1:Int),(-1:Int)),((1:Int),(1:Int))]:=⟨a_LESS_BACK,gg X G aeY,kp_LESS_BACK⟩;refine⟨fd,λs v=>(by obtain⟨_,_,_,_,_,_,_,_,_,rfl,_,_⟩:=F.ex;exact .of_eq rfl),λbase _ _=>?_⟩;have E:En l.prog w K mg base:=⟨h,X,G⟩;have adf:=a1.kA E (λF=>GR F ac9 adb Z)<|NV λ_ _ _ _ _ _ _=>rfl;have O:=a2.kA E (λF=>Fx F d)<|CT λ_ _ _ _ _ _ _ _=>rfl;have adE:=a3.kA E (λF=>WZ F d ade B)<|NV λ_ _ _ _ _ _ _=>rfl;have adg:=a4.kA E (λF=>BD F adf)<|CT λ_ _ _ _ _ _ _ _=>rfl;have adh:=a5.kA E (λF=>wU F J B)<|us3 λ_ _ _ _ _ _ _ _ _=>rfl;have p:=a6.kA E (λF=>EI F d adg adh)<|CT λ_ _ _ _ _ _ _ _=>rfl;have M:=a7.kA E (λF=>Sw F k d)<|NV λ_ _ _ _ _ _ _=>rfl;have adi:=a8.kA E (λF=>u_ F)<|NV λ_ _ _ _ _ _ _=>rfl;have adj:=a9.kA E (λF=>Zu F d k P O adi)<|CT λ_ _ _ _ _ _ _ _=>rfl;have acZ:=a10.kA E (λF=>Gf F adj)<|CT λ_ _ _ _ _ _ _ _=>rfl;have adq:=a11.kA E (λF=>Bm F d)<|us5 λ_ _ _ _ _ _ _ _ _ _ _=>rfl;have U:=a12.kA E (λF=>zJ F N)<|NV λ_ _ _ _ _ _ _=>rfl;have Y:=a13.kA E (λF=>Vq F V U)<|CT λ_ _ _ _ _ _ _ _=>rfl;have q:=a14.kA E (λF=>Tj F U)<|CT λ_ _ _ _ _ _ _ _=>rfl;have adN:=a15.kA E (λF=>M8 F adk)<|NV λ_ _ _ _ _ _ _=>rfl;have ads:=a16.kA E (λF=>E5 F adl adm ado O adq)<|CT λ_ _ _ _ _ _ _ _=>rfl;have c:∀{Fs:ae->jV->R A} {kr:Nat},ng l.prog w K mg base (4+2 * kr) "found_rest" mO Fs->ng l.prog w K mg base (4+2 * kr+1) "rest_by_fall" nS (lB mW<|lD Fs):=λG=>a17.kA E (λF=>Ae F M p Y q G)<|us3 λ_ _ _ _ _ _ _ _ _=>rfl;have adv:=a18.rA E (λF hm hk hb=>vU F acZ c hm hk hb 26)<|us3 λ_ _ _ _ _ _ _ _ _=>rfl;have aeo:=a19.kA E (λF=>VG F ads adv)<|CT λ_ _ _ _ _ _ _ _=>rfl;have m:=a20.kA E (λF=>CH F Y)<|us3 λ_ _ _ _ _ _ _ _ _=>rfl;have C:=a21.kA E (λF=>NK F N)<|NV λ_ _ _ _ _ _ _=>rfl;have adA:=a22.kA E (λF=>Fl F O)<|CT λ_ _ _ _ _ _ _ _=>rfl;have ac5:=a23.kA E (λF=>QL F adA m C)<|CT λ_ _ _ _ _ _ _ _=>rfl;have ac6:=a24.kA E (λF=>N9 F m q C)<|CT λ_ _ _ _ _ _ _ _=>rfl;have ac7:=a25.kA E (λF=>Ba F J j m p M q C)<|CT λ_ _ _ _ _ _ _ _=>rfl;have ac4:=a26.kA E (λF=>CK F adE M p)<|NV λ_ _ _ _ _ _ _=>rfl;have adF:=a27.rA E (λF hm hk hb=>t8 F J g ac4 p ac5 ac6 ac7 hm hk hb 26)<|CT λ_ _ _ _ _ _ _ _=>rfl;have aee:=a28.kA E (λF=>JG F adF m q adN C)<|NV λ_ _ _ _ _ _ _=>rfl;have aeb:=a29.kA E (λF=>Jw F d)<|CT λ_ _ _ _ _ _ _ _=>rfl;have L:=a30.kA E (λF=>EG F)<|CT λ_ _ _ _ _ _ _ _=>rfl;have T:=a31.kA E (λF=>Ar F N)<|NV λ_ _ _ _ _ _ _=>rfl;have adZ:=a32.kA E (λF=>Ak F T)<|CT λ_ _ _ _ _ _ _ _=>rfl;have adW:=a33.kA E (λF=>zj F T)<|CT λ_ _ _ _ _ _ _ _=>rfl;have ada:=a34.kA E (λF=>Fv F J k d B L)<|CT λ_ _ _ _ _ _ _ _=>rfl;have adU:=a35.kA E (λF=>BC F)<|us3 λ_ _ _ _ _ _ _ _ _=>rfl;have adT:=a36.kA E (λF=>yR F k d)<|CT λ_ _ _ _ _ _ _ _=>rfl;have ael:=a37.kA E (λF=>Fb F k d L adT adU)<|us3 λ_ _ _ _ _ _ _ _ _=>rfl;have aem:=a38.kA E (λF=>Jl F k adW adZ)<|NV λ_ _ _ _ _ _ _=>rfl;exact Ze F k P ad6 d Z B V aeb L ada aee ael aem aeo
def walk{l:PySem.W.OpenLaw}{q:aj}{XP:(Str->bi)->aq->Prop}{YP:ah->aq->Prop}{d:DefRec}{K:Params->au}(hn:l.most=some 63)(hdf:d.params.defaults=[])
  (hY:∀(w:ah) (h:aq),YP w h->(K w.params).In h)
  (F:∀(w:ah) (mg:Str->bi) (fa:ak) (h:aq),(K w.params).In h->h.Ns mainGlobals mg->mg d.name=some (.ref fa) ->
   ∃fd:FuncData,(∀(s:aC) (u:af),BindsTo s fd ⟨[u],[]⟩ [("_law_script",u)])/\∀base:aq,(K w.params).In base->base.Ns mainGlobals mg->FnOk l.prog w (K w.params) mg base qi 58 fa fd ["_law_script"] (qP (K w.params) 1 DW)) :
  PySem.W.WalkO q loose XP YP l.row.toRowW d [] (λf vs=>PySem.call f vs):=
 L2.Vj (n:=63) (k:=58) (x := "_law_script") (CX:=λ_=>qi) (sp:=λw=>qP (K w.params) 1 DW) hn ⋯ hdf ⟨rfl,by decide,by decide⟩ hY F (λ_ H a c g e hS=>Od e hS<|YZ c g) λ_ _ _ _ _ z=>z
end K34
open PySem PySem.W PyProof.Rows
namespace PySem.W.Fast
local macro_rules|`(command|universe $x*)=>do return Lean.mkNullNode (←x.mapM λx=>`(command|def $x:ident:=Nat))
universe tw17107063796810695254 tw15470167259326982677 tw15160978166680056168 tw1217483197357825151 tw9907816723441175027 tw14586612913244106733 tw14542992794689401365 tw16390940044210943127 tw1699133268549085219 tw15140193972345895094 tw13198669856948680827 tw14187920548067888706 tw15349366756290781095 tw4012342136747049032 tw17118687557708289314 tw3452896852320816685 tw14890222922837952040 tw11735865880385619769 tw2178334232582988201 tw10906093220867795503 tw2990632960731132395 tw17398335563122030448 tw11521329123427309540 tw3662241300210209297 tw4320028353244430721 tw15934699117541056687 tw3566251863915930206 tw5620132014587077254 tw5140295038414154186 tw5082595345238820679 tw429334364457770035 tw8695688369063877784 tw6912632061211060949 tw2453935025229962238 tw4529380786009803052 tw5473078226654034161 tw1406594956261662189 tw14500814650679042926 tw14511432338346314481 tw3768009246616629809 tw15075151358624073116 tw15380844582293584157 tw3756211123190304017 tw16526609636056766658 tw13136631804837495805 tw11276069837779650353 tw14522726229495348380 tw8508385820738558256 tw16896463742671897399 tw16993460387572856656 tw16521156934608142725 tw11533473387282468750 tw3115817324069853920 tw11852992532485899802 tw8291788232371538387 tw1502175950078727773 tw10932245899010898876 tw18173876588059073163 tw4103183257364356398 tw8107365133425436327 tw6033164436655143039 tw14528875840121950036 tw9298097323795923898 tw12285515692850321435 tw15689739138198650901 tw2627636160131292171 tw17908395470922768651 tw621593132109919014 tw13027030991196836439 tw2546189307193179261 tw3327871788902799692 tw14271065195251488681 tw8576684186968634764 tw72945419815698023 tw8586434867616724095 tw7499015244932382391 tw4211773409796545766 tw2620766975846432887 tw4083645966412361848 tw1595380655278850886 tw1114569316744848230 tw10210398216454830005 tw9452153851050796350 tw15178292612244237176 tw12843640120850989259 tw6559571183416064921 tw14633918686388523324 tw11210774203131584435 tw4667962386026110884 tw18151957054057932847 tw16009726686188862639 tw16102798565509811215 tw3610647755104577240 tw17979051606608323154 tw7486318461278141160 tw10541067089713351716 tw14233196460650098052 tw12444136299097395171 tw12691908799426313660 tw3178619717498921471 tw11178714784421901368 tw17375977415091434845 tw12265342290051151091 tw4112048787951535179 tw17300820583199758395 tw7509370506613586583 tw18411764409522998863 tw11731447128011507004 tw15137864585038416939 tw13864168974300955572 tw15650540311485202133 tw13307985570854577717 tw9982238580475127935 tw2349344309704704334 tw4334526584756056993 tw9688324225328311636 tw13420310079257599800 tw2931183470395422611 tw7162205967579283603 tw9753710433695311718 tw5581194871974088597 tw13982459485093235480 tw11194958851957692317 tw2133012116702111744 tw1576304191504600636 tw18156593811397428301 tw14872281735069786066 tw6924045621191234627 tw12485629680116186553 tw2484910553309873705 tw4871258987680855327 tw16959973731265320843 tw3829138165894897300 tw8909413121226458328 tw11124403585115903633 tw10388732083318541603 tw642657460507529492 tw12123381914496549580 tw532088689129627586 tw6805002318263130385
end PySem.W.Fast
set_option maxRecDepth 100000 in
set_option maxHeartbeats 0 in
theorem PySem.Challenge.cw_undercells_k34_rests_are_what_the_turnin_holds : PySem.Challenge.rw_undercells_k34_rests_are_what_the_turnin.Holds := by
 w_on;o_law;k_head;(case hw=>w_witness2)
 k_fill
 refine K34.walk (l:=PySem.Challenge.rw_undercells_k34_rests_are_what_the_turnin) rfl rfl (fun w h Y=>PySem.W.kIn_of Y) ?F
 case F=>
  intro w mg fa h KX G hmg;refine' K34.all_mk KX G hmg (.of ?_ ?_ ?_ ?_) (.of ?_ ?_ ?_ ?_) (.of ?_ ?_ ?_ ?_) (.of ?_ ?_ ?_ ?_) (.of ?_ ?_ ?_ ?_) (.of ?_ ?_ ?_ ?_) (.of ?_ ?_ ?_ ?_) (.of ?_ ?_ ?_ ?_) (.of ?_ ?_ ?_ ?_) (.of ?_ ?_ ?_ ?_) (.of ?_ ?_ ?_ ?_) (.of ?_ ?_ ?_ ?_) (.of ?_ ?_ ?_ ?_) (.of ?_ ?_ ?_ ?_) (.of ?_ ?_ ?_ ?_) (.of ?_ ?_ ?_ ?_) (.of ?_ ?_ ?_ ?_) (.of ?_ ?_ ?_ ?_) (.of ?_ ?_ ?_ ?_) (.of ?_ ?_ ?_ ?_) (.of ?_ ?_ ?_ ?_) (.of ?_ ?_ ?_ ?_) (.of ?_ ?_ ?_ ?_) (.of ?_ ?_ ?_ ?_) (.of ?_ ?_ ?_ ?_) (.of ?_ ?_ ?_ ?_) (.of ?_ ?_ ?_ ?_) (.of ?_ ?_ ?_ ?_) (.of ?_ ?_ ?_ ?_) (.of ?_ ?_ ?_ ?_) (.of ?_ ?_ ?_ ?_) (.of ?_ ?_ ?_ ?_) (.of ?_ ?_ ?_ ?_) (.of ?_ ?_ ?_ ?_) (.of ?_ ?_ ?_ ?_) (.of ?_ ?_ ?_ ?_) (.of ?_ ?_ ?_ ?_) (.of ?_ ?_ ?_ ?_) (.of ?_ ?_ ?_ ?_) ?_ ?_ ?_ ?_ ?_ ?_ ?_ ?_ ?_ ?_ ?_ ?_ ?_ ?_ ?_ ?_ ?_ ?_ ?_ ?_
  any_goals first|k_is|kernel_rfl
