import PyProof.Rows.All
import Wide.All
import OpenK.AllK
import Wide.FinOn
import Lean
import PyProof.EqAt
import PyProof.EqKinds
import PyProof.TupleCall
import PySem.Challenge.RW_undercells_k51_counts
set_option autoImplicit true
set_option relaxedAutoImplicit true
set_option Elab.async false
set_option linter.all false
set_option maxRecDepth 100000
set_option maxHeartbeats 4000000
local macro_rules|`(command|abbrev $n:declId $s:optDeclSig $v:declVal)=>`(command|noncomputable def $n:declId $s:optDeclSig $v:declVal)|`(command|meta abbrev $n:declId $s:optDeclSig $v:declVal)=>`(command|@[reducible]noncomputable def $n:declId $s:optDeclSig $v:declVal)
local macro_rules|`(∅)=>`(by decide +kernel)
local macro_rules|`(⋯)=>`(by decide)
local macro_rules|`(tactic|dsimp[$l,*])=>`(tactic|simp only[$l,*])|`(tactic|dsimp[$l,*]$o:location)=>`(tactic|simp only[$l,*]$o:location)
local macro_rules(kind:=Lean.Parser.Term.structInst)|`({})=>`({cls:=.type "list",data:=.seq ([]:List PySem.Value).toArray})
set_option hygiene false
local macro_rules|`(tactic|room)=>`(tactic|obtain⟨ρ,S,τ,R,r,h⟩:=h9)
local macro_rules|`(tactic|z_go)=>`(tactic|obtain⟨ρ,S,a,b,R,va,vb,h⟩:=h9)
local macro_rules|`(tactic|x_go)=>`(tactic|intro pins s σ H Q I h)
local macro_rules|`(tactic|w_up)=>`(tactic|intro pins s σ H xs us Q I r h)
local macro_rules|`(tactic|k_ne)=>`(tactic|intro X hP hw hK hc i pins s σ H E I hf st hg)
local macro_rules|`(tactic|kt_k)=>`(tactic|obtain⟨xs,hn,h⟩:=jK h)
local macro_rules|`(tactic|kd_p)=>`(tactic|obtain⟨w,rfl,ρ,S,x,R,hv,h⟩:=Jh h0)
local macro_rules|`(tactic|gn_on)=>`(tactic|intro pins s σ H x y v u Q I rx ry h)
local macro_rules|`(tactic|gp_on)=>`(tactic|obtain⟨f0,f1,f2,f3,f4,f5⟩:=hf it (by simp))
local macro_rules|`(tactic|kj_on)=>`(tactic|refine aG (wpAny_isInstance (b:=true) (T := "StopIteration") ⟨_,bg _ rfl,rfl⟩ isSubtype_stop (aJ (q _ (((eW ..).extBut.push _).push _)))))
local macro_rules|`(tactic|kcf_m)=>`(tactic|obtain⟨u,rfl,rx⟩:=vals1 r)
local macro_rules|`(tactic|kcj_m)=>`(tactic|rw[aM (show ¬_ by simp)])
local macro_rules|`(tactic|kpc_g)=>`(tactic|have nn:¬((Value.ref d == Value.none)=true):=aY)
local macro_rules|`(tactic|kpf_c)=>`(tactic|have hfree:∀y∈scope.names,y.2=.free->∃c,X.env.cells.lookup y.1=some c:=λy hy e=>I.ok.has _ (S.fr y hy e))
local macro_rules|`(tactic|ksr_p)=>`(tactic|intro pins s σ H D I h)
local macro_rules|`(tactic|kst_p)=>`(tactic|refine aV (wpS_lift (fN ⟨rfl,?_⟩)))
local macro_rules|`(tactic|kln_w)=>`(tactic|obtain⟨ρ,S,τ,R,r,h⟩:=h)
local macro_rules|`(tactic|kl_no)=>`(tactic|obtain⟨t,rfl⟩:=rx)
local macro_rules|`(tactic|mg_lt)=>`(tactic|intro value slice pins s σ H x y v u Q I rx ry h hs)
local macro_rules|`(tactic|cb_eq)=>`(tactic|refine aG (aJ (aG (c9 ho hd ?_))))
local macro_rules|`(tactic|o_rec)=>`(tactic|refine aG (aJ (aG (dH ho hd ?_))))
local macro_rules|`(tactic|f_are)=>`(tactic|refine aV (j7 (l8 hy) ?_))
set_option hygiene true
local macro_rules|`(())=>`(by lia)
@[reducible]def ae:=List Int
@[reducible]def ag:=List Nat
@[reducible]def am:=List PySem.Str
@[reducible]def ap:=List PySem.Value
@[reducible]def ar:=List PySem.Addr
@[reducible]def ba:=Option PySem.Value
@[reducible]def bb:=Option Int
@[reducible]def bd:=Option Bool
@[reducible]def bi:=Option Nat
@[reducible]def bj:=List (PySem.Addr×PySem.Obj)
def aG:=@PySem.wpAny_bind
def aH:=@List.getElem?_eq_getElem
def aI:=@List.getD_eq_getElem?_getD
def aJ:=@PySem.wpAny_pure
def aK:=@List.getElem?_eq_some_iff
def aL:=@List.length_map
def aM:=@if_neg
def aN:=@if_pos
def aO:=@PySem.Heap.get?_push_of_some
def aP:=@Nat.le_refl
def aQ:=@List.getElem?_map
def aR:=@List.mem_cons_self
def aS:=@List.size_toArray
def aT:=@List.mem_cons_of_mem
def aU:=@List.length_append
def aV:=@PyProof.Rows.wpS_bind
def aW:=@Option.some.inj
def aX:=@PySem.Heap.lt_size
def aY:=@Bool.false_ne_true
def aZ:=@List.mem_of_getElem?
def a_:=@List.mem_append_right
def bf:=@PyProof.Rows.wpS_pure
def bg:=@PySem.Heap.get?_push_size
def bh:=@List.mem_singleton
def bq:=@List.mem_append
def br:=@decide_eq_true
def bu:=@decide_eq_false
def bw:=@Option.map_eq_some_iff
def bA:=@Bool.false_eq_true
def bB:=@List.length_take
def bC:=@PySem.wpAny_newObj_type
def bD:=@Nat.ne_of_lt
def bE:=@List.length_cons
def bF:=@List.getElem?_append_left
def bG:=@List.getElem?_eq_none
def bH:=@List.mem_map
def bI:=@List.mem_of_mem_take
def bJ:=@List.append_assoc
def bK:=@List.map_map
def bL:=@List.mem_cons
def bM:=@Nat.lt_of_lt_of_le
def bN:=@List.mem_append_left
def bO:=@List.countP_cons
def bP:=@List.map_append
def bQ:=@beq_self_eq_true
def bR:=@List.length_set
def bS:=@List.drop_eq_getElem_cons
def bT:=@PySem.wpAny_call_entry
def bU:=@List.forall_mem_cons
def bV:=@Nat.le_trans
def bW:=@List.ext_getElem?
def bX:=@PySem.W.mg_none_of
def bZ:=@if_false
def b7:=@List.getElem?_range
def b8:=@List.getElem?_set_ne
def b9:=@List.map_cons
def b_:=@PySem.F.slot_dict_itemiterator_next
def cg:=@List.pairwise_append
def cj:=@List.mem_filter
def cu:=@Int.toNat_natCast
def cA:=@List.take_append_drop
def cB:=@List.getElem?_set_self
def cC:=@List.range_eq_range'
def cD:=@List.take_of_length_le
def cE:=@List.take_succ_eq_append_getElem
def cF:=@List.pairwise_cons
def cG:=@PyProof.Rows.slot_tuple_getitem
def cH:=@PyProof.Rows.wpS_forRange
def cI:=@List.map_congr_left
def cJ:=@PySem.F.slot_dict_valueiterator_next
def cK:=@PySem.PassesOwn.never
def cM:=@List.length_drop
def cN:=@PySem.wpAny_callSpecial?_slot
def cO:=@List.length_range
def cP:=@List.nodup_append
def cQ:=@Array.getElem?_eq_getElem
def cT:=@PySem.F.slot_dict_keyiterator_next
def cU:=@List.mem_range
def cV:=@PySem.W.kia_one
def cW:=@List.append_nil
def cX:=@Array.length_toList
def cY:=@Nat.zero_le
def cZ:=@Array.getElem?_toList
def c5:=@PySem.sizeLine_eq
def c6:=@Nat.lt_succ_self
def c7:=@List.getElem_mem
def c8:=@List.replicate_succ
def c9:=@PySem.wpAny_dictEntries
def c_:=@List.length_singleton
def dc:=@List.set_append_right
def dg:=@PySem.wpAny_holding
def dh:=@List.getElem?_take_of_lt
def di:=@if_true
def dj:=@List.length_eq_zero_iff
def dm:=@Option.bind_eq_some_iff
def dw:=@Option.bind_some
def dz:=@PySem.wpAny_truthy_bool
def dB:=@PySem.Calls.callWith_builtin
def dD:=@PySem.wpAny_fieldsOf
def dF:=@Array.getElem?_eq_none
def dG:=@of_decide_eq_true
def dH:=@PySem.wpAny_dictEpoch
def dI:=@List.pairwise_iff_getElem
def dJ:=@congrArg
def dM:=@Bool.and_eq_true
def dN:=@PySem.wpAny_typeNameOfWhole_itemiter
def dO:=@List.Perm.refl
def dP:=@PySem.wpAny_typeNameOfWhole_keyiter
def dQ:=@PySem.wpAny_typeNameOfWhole_valiter
def dR:=@List.reverse_cons
def dS:=@List.flatten_cons
def dU:=@List.pairwise_singleton
def dW:=@List.find?_cons
def dX:=@List.length_reverse
def dY:=@PyProof.Rows.wpS_mono
def dZ:=@PySem.wpAny_field
def d7:=@Int.le_refl
def d8:=@List.getElem_inj
def d9:=@List.range'_succ
def d_:=@List.prefix_refl
def eg:=@List.getElem?_append_right
def eo:=@List.length_filter_le
def eB:=@PySem.wpAny_typeNameOf_itemiter
def eE:=@PySem.wpAny_passesOwn
def eF:=@List.pairwise_map
def eG:=@List.getElem?_of_mem
def eK:=@List.mem_of_mem_drop
def eL:=@PySem.wpAny_standAt
def eN:=@Bool.not_true
def eO:=@PySem.wpAny_typeNameOf_keyiter
def eS:=@PySem.F.slot_list_append
def eT:=@PySem.F.type_list_append
def eU:=@List.eraseIdxIfInBounds_toArray
def eV:=@PySem.mem_of_lookup
def eW:=@PySem.Heap.SameBut.update
def eX:=@List.filter_eq_self
def eY:=@List.filter_sublist
def eZ:=@Option.getD_some
def e_:=@PySem.Heap.size_push
def ff:=@List.getElem_map
def fh:=@PySem.wpAny_mono
def fj:=@Nat.zero_add
def fm:=@PySem.wpAny_isOneOf_itemiter
def fq:=@PySem.wpAny_setField_rec
def fu:=@PyProof.Rows.wpS_modify
def fB:=@List.getElem?_drop
def fC:=@List.nodup_cons
def fD:=@List.length_nil
def fF:=@Nat.lt_irrefl
def fG:=@PySem.wpAny_attempt
def fH:=@List.getElem?_toArray
def fJ:=@PyProof.Rows.callWith_type1
def fK:=@Nat.lt_succ_of_lt
def fL:=@List.flatMap_cons
def fM:=@PySem.call_meets
def fN:=@PySem.wpAny_rule
def fO:=@Bool.not_false
def fP:=@List.take_zero
def fQ:=@List.perm_ext_iff_of_nodup
def fR:=@PySem.F.args_dict_valueiterator_next_1
def fS:=@List.lookup_cons
def fU:=@PySem.F.args_dict_itemiterator_next_1
def fV:=@Nat.sub_self
def fW:=@PySem.F.entry_dict_valueiterator_next
def fX:=@List.take_length
def fY:=@Classical.byContradiction
def fZ:=@PySem.F.entry_dict_itemiterator_next
def f6:=@PySem.F.args_dict_keyiterator_next_1
def f7:=@Option.isSome_iff_exists
def f9:=@PySem.F.args_tuple_add_2
def f_:=@List.Perm.eq_of_pairwise
def gb:=@PySem.F.slot_dict_itemiterator_iter
def gc:=@PySem.F.entry_dict_keyiterator_next
def gf:=@PySem.W.mg_of
def gg:=@List.sum_cons
def gh:=@List.Pairwise.imp_of_mem
def gp:=@Ne.symm
def gq:=@List.prefix_append
def gr:=@List.getElem_range
def gu:=@PySem.Obj.data_mapFields
def gv:=@decide_eq_true_iff
def gz:=@Int.emod_lt_of_pos
def gA:=@List.getElem?_replicate
def gB:=@PySem.F.entry_tuple_add
def gC:=@PySem.wpAny_Call_method0_late
def gD:=@PySem.F.plainAttrs_list
def gE:=@List.findIdx?_eq_some_iff_getElem
def gF:=@PySem.F.slot_tuple_add
def gG:=@List.pairwise_lt_range
def gH:=@PySem.wpAny_setField
def gI:=@PySem.wpAny_pyIter_slot
def gJ:=@PyProof.Rows.wpS_get
def gK:=@PySem.Heap.get?_push_ne
def gM:=@List.range_succ_eq_map
def gO:=@List.length_pos_of_mem
def gP:=@Nat.lt_of_succ_lt_succ
def gQ:=@List.map_set
def gR:=@List.countP_congr
def gS:=@List.getElem_cons_drop
def gT:=@List.Pairwise.imp
def gU:=@List.eraseIdx_eq_take_drop_succ
def gW:=@PySem.Heap.get?_update_self
def gX:=@PySem.wpAny_notOrdered_dict
def gY:=@PySem.wpAny_isOneOf_keyiter
def gZ:=@PySem.wpAny_isOneOf_valiter
def g_:=@List.eq_nil_or_concat
def h_:=@List.concat_eq_append
def ie:=@List.Pairwise.sublist
def ig:=@List.all_eq_true
def ir:=@PySem.Heap.size_update
def iw:=@List.filter_cons
def iy:=@List.ext_getElem
def iz:=@List.mem_flatMap
def iA:=@Nat.add_assoc
def iB:=@PySem.Calls.evalArgs_plain
def iC:=@List.reverse_reverse
def iD:=@List.mem_iff_getElem
def iE:=@PySem.F.slot_dict_values_iter
def iF:=@List.take_append_of_le_length
def iG:=@PySem.wpAny_execs_nil
def iH:=@PySem.F.slot_dict_items_iter
def iI:=@Nat.not_lt_zero
def iJ:=@List.filter_map
def iK:=@Option.map_some
def iL:=@List.countP_nil
def iM:=@List.countP_map
def iN:=@Int.emod_nonneg
def iO:=@List.filterMap_cons
def iP:=@PySem.evalArgs_none
def iQ:=@List.reverse_append
def iR:=@List.countP_eq_zero
def iS:=@PySem.codeAny_mono
def iT:=@Nat.lt_or_ge
def iU:=@PySem.wpAny_Call_Name_kw
def iV:=@List.filterMap_map
def iW:=@PySem.Heap.IsSliceOf.new
def iX:=@PySem.tupleKind_room_in1
def iY:=@List.drop_zero
def iZ:=@Array.getElem?_eq_none_iff
def i6:=@List.countP_append
def i7:=@List.filter_append
def i8:=@Nat.mul_le_mul
def i9:=@PySem.wpAny_pyIter_list
def i_:=@PySem.slot_list_getitem
def ja:=@List.getElem?_set
def jb:=@PySem.Paired.length
def jc:=@PySem.evalPart_none
def jd:=@List.all_cons
def je:=@Bool.true_and
def jf:=@List.zipIdx_cons
def jh:=@List.take_append
def ji:=@List.mem_reverse
def jj:=@List.flatMap_map
def jk:=@Nat.le_of_lt
def jl:=@PySem.wpAny_typeOf
def jm:=@Nat.sub_zero
def jn:=@Nat.succ_pos
def jo:=@Int.zero_add
def jq:=@List.of_mem_zip
def jt:=@List.foldl_cons
def ju:=@List.forIn_cons
def jv:=@Int.le_antisymm
def jw:=@List.range_succ
def jx:=@Nat.min_eq_left
def jy:=@List.forIn_nil
def jz:=@Array.size_zip
def jA:=@Option.map_map
def jB:=@List.take_succ
@[reducible]def af:=PySem.Value
@[reducible]def ah:=PySem.World
@[reducible]def aj:=PySem.Program
@[reducible]def ak:=PySem.Addr
@[reducible]def aq:=PySem.Heap
@[reducible]def au:=PySem.W.Frag
@[reducible]def aA:=PySem.Around
@[reducible]def aC:=PySem.Shared
@[reducible]def aE:=PySem.Expr
@[reducible]def aF:=PySem.Stmt
def anI{a b:Prop}(h:a)(k:b):a/\b:=⟨h,k⟩
open Array (size_map)
open List (all_map any_cons map_drop map_id' map_nil map_take)
open Nat (mul_comm ne_of_gt)
open Option (getD_none isSome_map)
namespace L2
open PySem PySem.Spec PyProof.Rows
meta abbrev Key:=Sum Int Str
abbrev yS:Key->af->Bool
 | .inl k,v=>Value.isInt k v
 | .inr x,v=>Value.isStrOf x v
abbrev Vn (w:ah):Key->Int
 | .inl k=>hashInt k
 | .inr x=>hashStr w x
def kW:∀{k:Key}{v:af},yS k v=true->(∃i t,k=Sum.inl i/\v=Value.int i t)\/(∃x t,k=Sum.inr x/\v=Value.str x t)
 | .inl i,v,h=>by
  obtain⟨t,e⟩:=Value.isInt_shape (k:=i) (v:=v) h;exact .inl ⟨i,t,rfl,e⟩
 | .inr x,v,h=>by
  obtain⟨t,e⟩:=Value.isStrOf_shape (x:=x) (v:=v) h;exact .inr ⟨x,t,rfl,e⟩
def Gh(i:Int)(t:Tok):yS (.inl i) (.int i t)=true:=by simp[yS,Value.isInt]
def G9(x:Str)(t:Tok):yS (.inr x) (.str x t)=true:=by simp[yS,Value.isStrOf]
def Ry(a b:Int):decide ((Sum.inl a:Key)=Sum.inl b)=(a == b):=by
 by_cases e:a=b
 ·subst e;simp
 ·have h:¬(Sum.inl a:Key)=Sum.inl b:=λq=>e (Sum.inl.inj q);rw[bu h];exact(beq_eq_false_iff_ne.mpr e).symm
def Qy(a b:Str):decide ((Sum.inr a:Key)=Sum.inr b)=decide (a=b):=by
 by_cases e:a=b
 ·subst e;simp
 ·have h:¬(Sum.inr a:Key)=Sum.inr b:=λq=>e (Sum.inr.inj q);rw[bu h,bu e]
def QM(a:Int)(b:Str):decide ((Sum.inl a:Key)=Sum.inr b)=false:=bu (λq=>nomatch q)
def QL(a:Str)(b:Int):decide ((Sum.inr a:Key)=Sum.inl b)=false:=bu (λq=>nomatch q)
abbrev kZ (prog:aj)(w:ah):PySem.KeyKind prog w Key where
 is:=yS
 hash:=Vn w
 inj:=λv a b ha hb=>by
  rcases kW ha with⟨i,t,rfl,rfl⟩|⟨x,t,rfl,rfl⟩
  ·rcases kW hb with⟨j,u,rfl,e⟩|⟨y,u,rfl,e⟩
   ·injection e with e1 _;rw[e1]
   ·exact nomatch e
  ·rcases kW hb with⟨j,u,rfl,e⟩|⟨y,u,rfl,e⟩
   ·exact nomatch e
   ·injection e with e1 _;rw[e1]
 byValue:=λk v h=>by
  rcases kW h with⟨i,t,rfl,rfl⟩|⟨x,t,rfl,rfl⟩<;>rfl
 pyHash:=λhv h=>by
  rcases kW hv with⟨i,t,rfl,rfl⟩|⟨x,t,rfl,rfl⟩
  ·exact wpAny_pyHash_int h
  ·exact wpAny_pyHash_str h
 eqBool:=λhu hv h=>by
  rcases kW hu with⟨i,t,rfl,rfl⟩|⟨x,t,rfl,rfl⟩
  ·rcases kW hv with⟨j,u,rfl,rfl⟩|⟨y,u,rfl,rfl⟩
   ·rw[Ry]at h;exact wpAny_eqBool_int h
   ·rw[QM]at h;exact SeqAt.EqAt.int_str i t y u _ _ _ _ h
  ·rcases kW hv with⟨j,u,rfl,rfl⟩|⟨y,u,rfl,rfl⟩
   ·rw[QL]at h;exact SeqAt.EqAt.str_int x t j u _ _ _ _ h
   ·rw[Qy]at h;exact wpAny_eqBool_str h
 «strs»:=λk x t v h=>by
  rcases kW h with⟨i,u,rfl,e⟩|⟨y,u,rfl,e⟩
  ·exact nomatch e
  ·injection e with e1 _
   subst e1
   cases v<;>rfl
def Co(prog:aj)(w:ah)(i:Int)(t:Tok):(kZ prog w).is (.inl i) (.int i t)=true:=Gh i t
def A_(prog:aj)(w:ah)(x:Str)(t:Tok):(kZ prog w).is (.inr x) (.str x t)=true:=G9 x t
inductive V where
 | non|bl (b:Bool)|int (i:Int)|str (x:Str)|byt (b:Array UInt8)|flt (b:UInt64)|ref (a:ak)|ty (n:String)
 deriving DecidableEq
abbrev RelV:V->af->Prop
 | .non,u=>u=Value.none
 | .bl b,u=>u=Value.bool b
 | .int i,u=>∃t,u=Value.int i t
 | .str x,u=>∃t,u=Value.str x t
 | .byt b,u=>∃t,u=Value.bytes b t
 | .flt b,u=>∃t,u=Value.float b t
 | .ref a,u=>u=Value.ref a
 | .ty n,u=>u=Value.type n
meta abbrev Vals:List V->ap->Prop:=Paired RelV
def Vals.length{xs:List V}{us:ap}(r:Vals xs us):xs.length=us.length:=jb r
theorem Vals.get:∀{xs:List V}{us:ap}{i:Nat}{x:V},Vals xs us->xs[i]?=some x->∃u,us[i]?=some u/\RelV x u
 | _,_,_,_,.nil,e=>by simp at e
 | _,_,0,_,.cons r _,e=>by simp at e;subst e;exact⟨_,rfl,r⟩
 | _,_,i+1,x,.cons _ t,e=>by
  obtain⟨u,h1,h2⟩:=Vals.get (i:=i) (x:=x) t (by simpa using e);exact⟨u,by simpa using h1,h2⟩
theorem Vals.set{x:V}(r:RelV x u):∀{xs:List V}{us:ap}(i:Nat),Vals xs us->Vals (xs.set i x) (us.set i u)
 | _,_,_,.nil=>.nil
 | _,_,0,.cons _ t=>.cons r t
 | _,_,i+1,.cons q t=>.cons q (Vals.set r i t)
theorem Vals.append:∀{xs ys:List V}{us ws:ap},Vals xs us->Vals ys ws->Vals (xs++ys) (us++ws)
 | _,_,_,_,.nil,s=>s
 | _,_,_,_,.cons r t,s=>.cons r (Vals.append t s)
theorem Vals.take:∀{xs:List V}{us:ap}(n:Nat),Vals xs us->Vals (xs.take n) (us.take n)
 | _,_,0,_=>.nil
 | _,_,_+1,.nil=>.nil
 | _,_,n+1,.cons r t=>.cons r (Vals.take n t)
theorem Vals.drop:∀{xs:List V}{us:ap}(n:Nat),Vals xs us->Vals (xs.drop n) (us.drop n)
 | _,_,0,r=>r
 | _,_,_+1,.nil=>.nil
 | _,_,n+1,.cons _ t=>Vals.drop n t
abbrev xO:Option V->ba->Prop
 | some v,some u=>RelV v u
 | none,none=>True
 | _,_=>False
abbrev KV {κ:Type}:List (κ×V)->List (κ×af)->Prop:=Paired λ(p:κ×V) (q:κ×af)=>p.1=q.1/\RelV p.2 q.2
abbrev kV:Key->V
 | .inl i=>.int i
 | .inr x=>.str x
inductive HO where
 | lst (xs:List V)
 | tup (xs:List V)
 | dK (kvs:List (Key×V))|dT (kvs:List (List Key×V))
 | set (S:Int->Bool) (n:Nat)
 | ins (C dx:ak) (fs:List (Str×V))
 | own (x:ak)
 | xd (fs:List (Str×V))
 | met (f x:ak)
 | rng (lo hi:Int)
 | frz (o:Obj) (u:HO)
 | tbl (ps:Array af)
 | ext (φ:aq->Prop)
meta abbrev Hp:=ak->Option HO
abbrev upd (H:Hp)(a:ak)(o:HO):Hp:=λb=>if b=a then some o else H b
def kq{H:Hp}{a:ak}:upd H a o a=some o:=by unfold upd;rw[aN rfl]
def jR{H:Hp}{a:ak}(h:b≠a):upd H a o b=H b:=by unfold upd;rw[aM h]
def Lf{H:Hp}{a:ak}(h:H a=some o)(h':H b=some u)(d:o≠u):a≠b:=by
 intro e;subst e;rw[h]at h';exact d (aW h')
def j3{H:Hp}{a:ak}(h:H a=some o)(h':H b=none):a≠b:=by
 intro e;subst e;rw[h]at h';cases h'
abbrev nN (h:aq)(a:ak)(items:Array af):Prop:=∃o,h.get? a=some o/\o.cls=.type "tuple" /\ o.dict=none/\∃n,o.data=.seq items n
def nN.tup{a:ak}:nN h a items->IsTup h a items:=λ⟨o,e,c,_,n,d⟩=>⟨o,e,c,n,d⟩
def nN.new(h:aq)(items:Array af):nN (h.push { cls:=.type "tuple",data:=.seq items }) h.objs.size items:=⟨_,bg _ rfl,rfl,rfl,_,rfl⟩
def nN.lt{h:aq}{a:ak}(x:nN h a items):a<h.objs.size:=let⟨_,ho,_⟩:=x;aX ho
section
variable (P:aj) (w:ah)
abbrev kP (H:Hp)(h:aq)(a:ak):HO->Prop
 | .lst xs=>xs.length<=sizeLine/\∃(its:ap) (n:Nat),Vals xs its/\h.get? a=some { cls:=.type "list",data:=.seq its.toArray n }
 | .tup xs=>xs.length<=sizeLine/\∃its:ap,Vals xs its/\nN h a its.toArray
 | .dK kvs=>kvs.length<=sizeLine/\(a == sysModules)=false/\∃vs,KV kvs vs/\h.DictOf (kZ P w) a vs
 | .dT kvs=>kvs.length<=sizeLine/\(a == sysModules)=false/\∃xs:List (List Key×ak×af),
   Paired (λ(p:List Key×V) (q:List Key×ak×af)=>p.1=q.1/\H q.2.1=some (.tup (p.1.map kV))/\RelV p.2 q.2.2) kvs xs /\
   ∃o es ep,h.get? a=some o/\o.ExactDict/\o.data=.dict es ep/\es.toList=xs.map (entryOfKey (tupleKind (kZ P w)))/\(xs.map (·.1)).Nodup
 | .set S n=>h.SetOf (intKind P w) a S n
 | .ins C dx fs=>H dx=some (.own a)/\fs.length<=1000/\dx≠a/\h.get? a=some (PySem.W.instObj C dx) /\
   ∃mA,h.Ns1 dx mA/\(∀f,xO (fs.lookup f) (mA f))/\PySem.Within mA (fs.map (·.1))
 | .own _=>∃o,h.get? a=some o
 | .xd fs=>∃mA,h.Ns1 a mA/\∀f,xO (fs.lookup f) (mA f)
 | .rng lo hi=>∃t u v,h.get? a=some { cls:=.type "range",data:=.fields #[.int lo t,.int hi u,.int 1 v]}
 | .frz o u=>h.get? a=some o/\kP H h a u
 | .tbl ps=>h.get? a=some { cls:=.none,data:=.fields ps }
 | .met f x=>h.get? a=some (PySem.W.methodObj (.ref f) (.ref x))
 | .ext φ=>φ h/\(∃o,h.get? a=some o)/\∀h1 h2:aq,φ h1->(∀o,h1.get? a=some o->h2.get? a=some o)->φ h2
abbrev tZ (H:Hp)(h:aq):Prop:=∀a o,H a=some o->kP P w H h a o
end
section
variable {P:aj}{w:ah}{H H':Hp}{h h':aq}{a:ak}{o:HO}
def kP.lt(x:kP P w H h a o):a<h.objs.size:=by
 cases o with
 | lst xs=>obtain⟨_,_,_,_,e⟩:=x;exact aX e
 | tup xs=>obtain⟨_,_,_,p⟩:=x;exact nN.lt p
 | dK kvs=>obtain⟨_,_,_,_,o,_,_,e,_⟩:=x;exact aX e
 | dT kvs=>obtain⟨_,_,_,_,o,_,_,e,_⟩:=x;exact aX e
 | set S n=>obtain⟨o,_,_,_,e,_⟩:=x;exact aX e
 | ins C dx fs=>obtain⟨_,_,_,e,_⟩:=x;exact aX e
 | own y=>obtain⟨_,e⟩:=x;exact aX e
 | xd fs=>obtain⟨_,⟨_,_,_,e,_⟩,_⟩:=x;exact aX e
 | rng lo hi=>obtain⟨_,_,_,e⟩:=x;exact aX e
 | frz ob u=>obtain⟨e,_⟩:=x;exact aX e
 | tbl ps=>exact aX (show h.get? a=some _ from x)
 | met f y=>exact aX (show h.get? a=some _ from x)
 | ext φ=>obtain⟨_,⟨_,e⟩,_⟩:=x;exact aX e
theorem Paired.QN{α β:Type}{F G:α->β->Prop}:∀{l₁:List α}{l₂:List β},Paired F l₁ l₂->(∀a b,F a b->G a b)->Paired G l₁ l₂
 | _,_,.nil,_=>.nil
 | _,_,.cons r t,f=>.cons (f _ _ r) (Paired.QN t f)
def kP.stay(x:kP P w H h a o)(k:∀b u,(b=a\/H b=some (.own a))->h.get? b=some u->h'.get? b=some u)
  (ho:∀b,H b=some (.own a)->H' b=some (.own a)) (ht:∀b xs,H b=some (.tup xs)->H' b=some (.tup xs)):kP P w H' h' a o:=by
 induction o with
 | lst xs=>obtain⟨z,its,n,r,e⟩:=x;exact⟨z,its,n,r,k _ _ (.inl rfl) e⟩
 | tup xs=>obtain⟨z,its,r,ob,e,c⟩:=x;exact⟨z,its,r,ob,k _ _ (.inl rfl) e,c⟩
 | dK kvs=>obtain⟨z,y,vs,r,ob,es,ep,e,c⟩:=x;exact⟨z,y,vs,r,ob,es,ep,k _ _ (.inl rfl) e,c⟩
 | dT kvs=>
  obtain⟨z,y,xs,r,ob,es,ep,e,c⟩:=x;exact⟨z,y,xs,Paired.QN r λp q z=>⟨z.1,ht _ _ z.2.1,z.2.2⟩,ob,es,ep,k _ _ (.inl rfl) e,c⟩
 | set S n=>obtain⟨ob,es,ep,t,e,c⟩:=x;exact⟨ob,es,ep,t,k _ _ (.inl rfl) e,c⟩
 | ins C dx fs=>
  obtain⟨d,z,ne,e,mA,⟨od,es,ep,e2,c⟩,r⟩:=x;exact⟨ho _ d,z,ne,k _ _ (.inl rfl) e,mA,⟨od,es,ep,k _ _ (.inr d) e2,c⟩,r⟩
 | own y=>obtain⟨ob,e⟩:=x;exact⟨ob,k _ _ (.inl rfl) e⟩
 | xd fs=>obtain⟨mA,⟨od,es,ep,e,c⟩,r⟩:=x;exact⟨mA,⟨od,es,ep,k _ _ (.inl rfl) e,c⟩,r⟩
 | rng lo hi=>obtain⟨t,u,v,e⟩:=x;exact⟨t,u,v,k _ _ (.inl rfl) e⟩
 | frz ob u ih=>obtain⟨e,q⟩:=x;exact⟨k _ _ (.inl rfl) e,ih q⟩
 | tbl ps=>
  have e:h.get? a=some { cls:=.none,data:=.fields ps }:=x
  skip
  exact k a _ (.inl rfl) e
 | met f y=>
  have e:h.get? a=some (PySem.W.methodObj (.ref f) (.ref y)):=x
  skip
  exact k a _ (.inl rfl) e
 | ext φ=>obtain⟨p,⟨o,e⟩,st⟩:=x;exact⟨st _ _ p λo q=>k _ _ (.inl rfl) q,⟨o,k _ _ (.inl rfl) e⟩,st⟩
def tZ.lt(x:tZ P w H h)(e:H a=some o):a<h.objs.size:=(x a o e).lt
def tZ.fresh(x:tZ P w H h)(e:h.objs.size<=a):H a=none:=by
 cases q:H a with
 | none=>rfl
 | some u=>exact absurd (bM (x.lt q) e) (fF _)
def tZ.kept(x:tZ P w H h)(k:∀b u,h.get? b=some u->h'.get? b=some u):tZ P w H h':=λa o e=>
 (x a o e).stay (λb u _ q=>k b u q) (λ_ q=>q) λ_ _ q=>q
def tZ.laid(x:tZ P w H h)(k:∀b u,h.get? b=some u->h'.get? b=some u)(hp:h.objs.size<=a)(new:kP P w (upd H a o) h' a o):tZ P w (upd H a o) h':=λb u e=>by
 have hn:=x.fresh hp;by_cases hb:b=a
 ·subst hb;rw[kq]at e;cases e;exact new
 ·rw[jR hb]at e;exact(x b u e).stay (λc v _ q=>k c v q) (λc q=>by rw[jR (j3 q hn)];exact q) λc xs q=>by rw[jR (j3 q hn)];exact q
end
abbrev Rd (H:Hp)(a:ak)(u:HO):Prop:=H a=some u\/∃o,H a=some (.frz o u)
def Rd.ok{P:aj}{w:ah}{H:Hp}{a:ak}(r:Rd H a u)(x:tZ P w H h):kP P w H h a u:=by
 rcases r with r|⟨o,r⟩
 ·exact x a u r
 ·obtain⟨_,q⟩:=x a _ r;exact q
abbrev SV:Option HO->Prop
 | some (.lst _)=>True
 | some (.dK _)=>True
 | some (.dT _)=>True
 | some (.set _ _)=>True
 | some (.ins _ _ _)=>True
 | some (.ext _)=>True
 | _=>False
section
variable {P:aj}{w:ah}{H:Hp}{h h':aq}{x e:ak}{o':HO}
def tZ.write(ok:tZ P w H h)(mu:SV (H x))(he:e=x\/H e=some (.own x))(k:∀b u,b≠e->h.get? b=some u->h'.get? b=some u)(heo:∃u,h'.get? e=some u)
  (new:kP P w (upd H x o') h' x o'):tZ P w (upd H x o') h':=λb u q=>by
 have nown:∀c y,H c=some (.own y)->c≠x:=λc y r z=>by subst z;rw[r]at mu;exact mu
 have ntup:∀c xs,H c=some (.tup xs)->c≠x:=λc xs r z=>by subst z;rw[r]at mu;exact mu
 by_cases hb:b=x
 ·subst hb;rw[kq]at q;cases q;exact new
 ·rw[jR hb]at q;by_cases hbe:b=e
  ·have q':H b=some (.own x):=by
    rcases he with z|z
    ·exact absurd (hbe.trans z) hb
    ·rw[hbe];exact z
   rw[q]at q';cases q';obtain⟨v,hv⟩:=heo;exact⟨v,by rw[hbe];exact hv⟩
  ·refine(ok b u q).stay (λc v hc r=>k c v ?_ r) (λc r=>by rw[jR (nown c b r)];exact r) λc xs r=>by rw[jR (ntup c xs r)];exact r
   rcases hc with rfl|hc
   ·exact hbe
   ·rintro rfl
    rcases he with z|z
    ·exact nown c b hc z
    ·rw[hc]at z;cases z;exact hb rfl
end
structure Un (fs ex:ar)(H H':Hp)(h h':aq):Prop where
 keep:∀b o,h.get? b=some o->H b=none->b∉fs->b∉ex->h'.get? b=some o
 slot:∀b o,h.get? b=some o->H b=none->b∈fs->b∉ex->∃sl,h'.get? b=some { o with slots:=sl }
 free:∀b o,h.get? b=some o->H b=none->b∉ex->H' b=none
 there:∀b o,h.get? b=some o->b∉ex->∃o',h'.get? b=some o'
 tups:∀b xs,H b=some (.tup xs)->H' b=some (.tup xs)
 frzs:∀b o u,H b=some (.frz o u)->H' b=some (.frz o u)
 tbls:∀b ps,H b=some (.tbl ps)->∃more,H' b=some (.tbl (ps++more))
section
variable {fs ex:ar}{H H1:Hp}{h h1 h':aq}{a x e:ak}{o:HO}
def Un.any(u:Un fs ex H H1 h h1){ob:Obj}(q:h.get? b=some ob)(n:H b=none)(hx:b∉ex):∃sl,h1.get? b=some { ob with slots:=sl }:=by
 by_cases hb:b∈fs
 ·exact u.slot b ob q n hb hx
 ·exact⟨ob.slots,u.keep b ob q n hb hx⟩
def Un.kept(k:∀b u,h.get? b=some u->h'.get? b=some u):Un fs ex H H h h':=
 ⟨λb ob q _ _ _=>k b ob q,λb ob q _ _ _=>⟨ob.slots,k b ob q⟩,λ_ _ _ n _=>n,λb ob q _=>⟨ob,k b ob q⟩,λ_ _ q=>q,λ_ _ _ q=>q,λ_ ps q=>⟨#[],by rw[q];simp⟩⟩
def Un.refl:Un fs ex H H h h:=Un.kept λ_ _ q=>q
def Un.laid(k:∀b u,h.get? b=some u->h'.get? b=some u)(hp:h.objs.size<=a)(hn:H a=none):Un fs ex H (upd H a o) h h' where
 keep:=λb u q _ _ _=>k b u q
 slot:=λb u q _ _ _=>⟨u.slots,k b u q⟩
 free:=λb u q n _=>by rw[jR (bD (bM (aX q) hp))];exact n
 there:=λb u q _=>⟨u,k b u q⟩
 tups:=λb xs q=>by rw[jR (j3 q hn)];exact q
 frzs:=λb u xs q=>by rw[jR (j3 q hn)];exact q
 tbls:=λb ps q=>⟨#[],by rw[jR (j3 q hn),q];simp⟩
def Un.write(mu:SV (H x))(he:e=x\/H e=some (.own x))(k:∀b u,b≠e->h.get? b=some u->h'.get? b=some u)(heo:∃u,h'.get? e=some u):Un fs ex H (upd H x o) h h':=by
 have hx:∀b,H b=none->b≠x:=λb n z=>by subst z;rw[n]at mu;exact mu
 have hb:∀b,H b=none->b≠e:=λb n z=>by
  subst z
  rcases he with r|r
  ·exact hx b n r
  ·rw[n]at r;cases r
 have hm:∀b u,H b=some u->¬SV (some u)->b≠x:=λb u q nm z=>by subst z;rw[q]at mu;exact nm mu
 refine⟨λb u q n _ _=>k b u (hb b n) q,λb u q n _ _=>⟨u.slots,k b u (hb b n) q⟩,λb u q n _=>by rw[jR (hx b n)];exact n,λb u q _=>?_,
  λb xs q=>by rw[jR (hm b _ q λz=>z)];exact q,λb u xs q=>by rw[jR (hm b _ q λz=>z)];exact q,λb ps q=>⟨#[],by rw[jR (hm b _ q λz=>z),q];simp⟩⟩
 by_cases hbe:b=e
 ·subst hbe;exact heo
 ·exact⟨u,k b u hbe q⟩
end
abbrev UQ (h:aq)(H:Hp):ar:=(List.range h.objs.size).filter λa=>(H a).isSome
abbrev AD (h:aq)(H:Hp):aq:=PySem.W.hideAll h (UQ h H)
def GC(h:aq)(H:Hp):(AD h H).objs.size=h.objs.size:=PySem.W.hideAll_size _ _
def Hz{h:aq}{H:Hp}(e:h.get? b=some o)(n:H b=none):(AD h H).get? b=some o:=
 PySem.W.hideAll_get _ e λhm=>by
  have q:(H b).isSome=true:=(cj.mp hm).2;rw[n]at q;simp at q
def Mt{h:aq}{H:Hp}(e:(AD h H).get? b=some o):h.get? b=some o/\H b=none:=by
 have e':h.get? b=some o:=PySem.W.of_hideAll (UQ h H) e;refine⟨e',?_⟩
 cases q:H b with
 | none=>rfl
 | some x=>
  have hm:b∈UQ h H:=cj.mpr ⟨cU.mpr (aX e'),by simp[q]⟩;have z:(AD h H).get? b=none:=PySem.W.hideAll_none (UQ h H) hm;rw[z]at e;cases e
abbrev NH (g h:aq)(L:ak):bj:=(List.range h.objs.size).filterMap λa=>if a=L\/(g.get? a).isSome=true then none else(h.get? a).map λo=>(a,o)
abbrev rest (g h:aq)(L d:ak):bj:=(NH g h L).filter λp=>decide (p.1≠d)
structure Mod (K:au)(mg:Str->ba)(base:aq):Prop where
 kin:K.In base
 glob:base.Ns mainGlobals mg
 blt:∃mb,base.Ns builtinsNs mb/\∀x:Str,x ≠ "__name__" -> mb x=bootBuiltins x
 nolimit:base.NoLimit
structure Cx where
 prog:aj
 w:ah
 K:au
 mg:Str->ba
 base:aq
 A:aA
 N:am
 s₀:aC
 H₀:Hp
 env:Env
 outer:List Env
 stack:List Env
 ex:ar
 fn:Str->Bool
 calm:Bool
 pn:bj
 xe:af->aC->Prop
abbrev frs (l:List Env):ar:=l.filterMap (·.frame)
meta abbrev Cx.fs (X:Cx):ar:=frs X.outer
abbrev Sn (sc:Scope)(x:Str):Prop:=sc.names.lookup x=some .local\/sc.names.lookup x=some .cell\/sc.names.lookup x=some .free
abbrev Loc (sc:Scope)(x:Str):Prop:=sc.names.lookup x=some .local\/sc.names.lookup x=some .cell
abbrev Look (env:Env)(h:aq)(m:Str->ba)(x:Str)(u:af):Prop:=
 (env.kindOf x=some .local/\m x=some u)\/((env.kindOf x=some .cell\/env.kindOf x=some .free)/\∃c,env.cells.lookup x=some c/\h.IsCell c (some u))
structure Cx.Ok (X:Cx):Prop where
 mod:Mod X.K X.mg X.base
 kind:X.env.scope.kind=.function
 glob:X.env.globals=mainGlobals
 blt:X.env.builtins=builtinsNs
 above:X.s₀.heap.objs.size<=X.env.locals
 inj:∀x y c,X.env.cells.lookup x=some c->X.env.cells.lookup y=some c->x=y
 has:∀x,(X.env.kindOf x=some .cell\/X.env.kindOf x=some .free)->∃c,X.env.cells.lookup x=some c
 cab:∀x c,X.fn x=true->X.env.cells.lookup x=some c->X.s₀.heap.objs.size<=c
 hd:X.calm=true->X.A.handled=none
 frames:X.A.frames=some X.stack
 stk:X.stack=X.outer\/(X.stack=X.env::X.outer/\X.env.frame=some X.env.locals)
 exf:∀b∈X.ex,b≠X.env.locals/\∀x c,X.env.cells.lookup x=some c->c≠b
 bs:∀b o,X.base.get? b=some o->X.s₀.heap.get? b=some o/\X.H₀ b=none
 bsz:X.base.objs.size<=X.s₀.heap.objs.size
 noex:∀b o,X.base.get? b=some o->b∉X.ex
 exfs:∀b∈X.ex,b∉X.fs
 xg:X.s₀.heap.FunFrames X.base X.outer
 frf:∀b∈X.fs,X.H₀ b=none
structure Inv (X:Cx)(pins:bj)(σ:List (Option V))(H:Hp)(s:aC):Prop where
 ok:X.Ok
 os:s.os=X.s₀.os
 bare:AllBare s.gens
 base:Un X.fs X.ex X.H₀ H X.s₀.heap s.heap
 loc:∃m,s.heap.Ns X.env.locals m/\∀(i:Nat) (x:Str) (v:V),X.N[i]?=some x->σ[i]?=some (some v)->Sn X.env.scope x->∃u,RelV v u/\Look X.env s.heap m x u
 cell:∀x c,X.env.cells.lookup x=some c->∃v,s.heap.IsCell c v
 free:H X.env.locals=none
 freeC:∀x c,X.env.cells.lookup x=some c->H c=none
 pin:∀p∈X.pn++pins,s.heap.get? p.1=some p.2/\H p.1=none/\p.1≠X.env.locals/\p.1∉X.fs/\∀v,p.2.data≠.cell v
 hok:tZ X.prog X.w H s.heap
 len:σ.length=X.N.length
section
variable {X:Cx}{pins:bj}{σ:List (Option V)}{H H':Hp}{s:aC}{h':aq}
def Cx.Ok.VR(ok:X.Ok)(e:X.base.get? b=some o):b∉X.fs:=λhb=>by
 have:=(ok.xg.mem hb).1;rw[e]at this;cases this
def Inv.bs(I:Inv X pins σ H s):∀b o,X.base.get? b=some o->s.heap.get? b=some o/\H b=none:=λb o e=>
 ⟨I.base.keep b o (I.ok.bs b o e).1 (I.ok.bs b o e).2 (I.ok.VR e) (I.ok.noex b o e),I.base.free b o (I.ok.bs b o e).1 (I.ok.bs b o e).2 (I.ok.noex b o e)⟩
def Inv.bk(I:Inv X pins σ H s):∀b o,X.base.get? b=some o->s.heap.get? b=some o:=λb o e=>(I.bs b o e).1
def Inv.mod(I:Inv X pins σ H s):Mod X.K X.mg X.base:=I.ok.mod
def Inv.zM(I:Inv X pins σ H s):X.K.In s.heap:=I.ok.mod.kin.keeps I.bk
def Inv.lt(I:Inv X pins σ H s):X.env.locals<s.heap.objs.size:=let⟨_,hn,_⟩:=I.loc;hn.lt
def Inv.sz(I:Inv X pins σ H s):X.s₀.heap.objs.size<=s.heap.objs.size:=bV I.ok.above (jk I.lt)
def Inv.VH(I:Inv X pins σ H s){a:ak}(h:s.heap.objs.size<=a):a∉X.fs:=λhb=>by
 obtain⟨_,o,ho,_⟩:=I.ok.xg.mem hb;exact absurd (bM (aX ho) (bV I.sz h)) (fF _)
def Inv.RU(I:Inv X pins σ H s):∀x c,X.env.cells.lookup x=some c->c≠X.env.locals:=λx c e z=>by
 obtain⟨v,o,ho,hd⟩:=I.cell x c e;obtain⟨m,⟨o',es,ep,ho',hd',_⟩,_⟩:=I.loc;rw[z,ho']at ho;cases ho;rw[hd']at hd;cases hd
def Inv.xg(I:Inv X pins σ H s):s.heap.FunFrames X.base X.outer:=by
 have all:∀(l:List Env),(∀b∈frs l,b∈X.fs)->X.s₀.heap.FunFrames X.base l->s.heap.FunFrames X.base l:=by
  intro l
  induction l with
  | nil=>intro _ _;trivial
  | cons env r ih=>
   intro hs hl;obtain⟨hk,⟨L,o,hf,hn,ho,hd⟩,hr⟩:=hl;have hL:L∈X.fs:=hs L (by unfold frs;rw[iO,hf];exact aR);obtain⟨sl,e⟩:=I.base.slot L o ho (I.ok.frf L hL) hL λz=>I.ok.exfs L z hL;exact⟨hk,⟨L,_,hf,hn,e,hd⟩,ih (λb hb=>hs b (by unfold frs;rw[iO,hf];exact aT _ hb)) hr⟩
 exact all X.outer (λ_ hb=>hb) I.ok.xg
def Inv.stack(I:Inv X pins σ H s):s.heap.FunFrames X.base X.stack:=by
 rcases I.ok.stk with e|⟨e,hf⟩
 ·rw[e];exact I.xg
 ·rw[e];obtain⟨m,hn,_⟩:=I.loc;refine .cons (by rw[I.ok.kind];decide) hf hn ?_ I.xg;exact Heap.get?_none_of_le (bV I.ok.bsz I.ok.above)
def Inv.Dh(I:Inv X pins σ H s):∀b∈frs X.stack,b∈X.env.locals::X.fs:=λb hb=>by
 rcases I.ok.stk with e|⟨e,hf⟩
 ·rw[e]at hb;exact aT _ hb
 ·rw[e]at hb;unfold frs at hb;rw[iO,hf]at hb;exact hb
def Inv.E3(I:Inv X pins σ H s):∀b∈frs X.stack,H b=none:=λb hb=>by
 rcases bL.mp (I.Dh b hb)with e|hb
 ·rw[e];exact I.free
 ·obtain⟨_,o,ho,_⟩:=I.ok.xg.mem hb;exact I.base.free b o ho (I.ok.frf b hb) λz=>I.ok.exfs b z hb
def Inv.step{g':Array GenState}{t':Nat}{d':Drawn}{ch:ar}(I:Inv X pins σ H s)
  (hch:∀b∈ch,(b∈X.ex\/X.s₀.heap.objs.size<=b)/\b≠X.env.locals/\(∀x c,X.env.cells.lookup x=some c->c≠b)/\∀p∈X.pn++pins,p.1≠b)
  (keep:∀b o,b≠X.env.locals->b∉X.fs->b∉ch->s.heap.get? b=some o->H b=none->h'.get? b=some o)
  (slot:∀b o,b≠X.env.locals->b∈X.fs->b∉ch->s.heap.get? b=some o->H b=none->∃sl,h'.get? b=some { o with slots:=sl }) (free:∀b o,b∉ch->s.heap.get? b=some o->H b=none->H' b=none)
  (there:∀b o,b∉ch->s.heap.get? b=some o->∃o',h'.get? b=some o')
  (tups:∀b xs,H b=some (.tup xs)->H' b=some (.tup xs)) (frzs:∀b o u,H b=some (.frz o u)->H' b=some (.frz o u)) (tbls:∀b ps,H b=some (.tbl ps)->∃more,H' b=some (.tbl (ps++more)))
  (ns:∀m,s.heap.Ns X.env.locals m->h'.Ns X.env.locals m) (hok:tZ X.prog X.w H' h') (hg:AllBare g') :
  Inv X pins σ H' { s with heap:=h',gens:=g',drawn:=d',toks:=t' }:=by
 have neL:∀b o,X.s₀.heap.get? b=some o->b≠X.env.locals:=λb o e=>bD (bM (aX e) I.ok.above);have neC:∀b o,X.s₀.heap.get? b=some o->b∉X.ex->b∉ch:=λb o e hx hb=>by
  rcases(hch b hb).1 with z|z
  ·exact hx z
  ·exact absurd (bM (aX e) z) (fF _)
 have cellK:∀x c,X.env.cells.lookup x=some c->∀v,s.heap.IsCell c v->h'.IsCell c v:=λx c e v ⟨o,ho,hd⟩=>by
  have nch:c∉ch:=λz=>(hch c z).2.2.1 x c e rfl;by_cases hc:c∈X.fs
  ·obtain⟨sl,q⟩:=slot c o (I.RU x c e) hc nch ho (I.freeC x c e);exact⟨_,q,hd⟩
  ·exact⟨o,keep c o (I.RU x c e) hc nch ho (I.freeC x c e),hd⟩
 refine⟨I.ok,I.os,hg,⟨λb o e n hb hx=>?_,λb o e n hb hx=>?_,λb o e n hx=>?_,λb o e hx=>?_,λb xs e=>tups b xs (I.base.tups b xs e),λb o xs e=>frzs b o xs (I.base.frzs b o xs e),λb ps e=>?_⟩,?_,λx c e=>?_,?_,λx c e=>?_,λp hp=>?_,hok,I.len⟩
 ·exact keep b o (neL b o e) hb (neC b o e hx) (I.base.keep b o e n hb hx) (I.base.free b o e n hx)
 ·obtain⟨sl,e1⟩:=I.base.slot b o e n hb hx;obtain⟨sl',e2⟩:=slot b _ (neL b o e) hb (neC b o e hx) e1 (I.base.free b o e n hx);exact⟨sl',e2⟩
 ·obtain⟨o',e1⟩:=I.base.there b o e hx;exact free b o' (neC b o e hx) e1 (I.base.free b o e n hx)
 ·obtain⟨o',e1⟩:=I.base.there b o e hx;exact there b o' (neC b o e hx) e1
 ·obtain⟨m1,e1⟩:=I.base.tbls b ps e;obtain⟨m2,e2⟩:=tbls b _ e1;exact⟨m1++m2,by rw[e2,Array.append_assoc]⟩
 ·obtain⟨m,hn,hl⟩:=I.loc;refine⟨m,ns m hn,λi x v e1 e2 e3=>?_⟩;obtain⟨u,r,l⟩:=hl i x v e1 e2 e3;refine⟨u,r,?_⟩
  rcases l with l|⟨k,c,e,z⟩
  ·exact .inl l
  ·exact .inr ⟨k,c,e,cellK x c e _ z⟩
 ·obtain⟨v,z⟩:=I.cell x c e;exact⟨v,cellK x c e v z⟩
 ·obtain⟨m,⟨o,_,_,ho,_⟩,_⟩:=I.loc;exact free _ o (λz=>(hch _ z).2.1 rfl) ho I.free
 ·obtain⟨v,o,ho,hd⟩:=I.cell x c e;exact free c o (λz=>(hch c z).2.2.1 x c e rfl) ho (I.freeC x c e)
 ·obtain⟨e,n,ne,nf,d⟩:=I.pin p hp;have nch:p.1∉ch:=λz=>(hch p.1 z).2.2.2 p hp rfl;exact⟨keep p.1 p.2 ne nf nch e n,free p.1 p.2 nch e n,ne,nf,d⟩
def Inv.un{t':Nat}(I:Inv X pins σ H s)(u:Un X.fs [] H H' s.heap h')(hok:tZ X.prog X.w H' h'):Inv X pins σ H' { s with heap:=h',toks:=t' }:=by
 obtain⟨m,⟨o,es,ep,ho,r⟩,_⟩:=id I.loc;obtain⟨sl,hL⟩:=u.any ho I.free (by simp);exact I.step (g':=s.gens) (d':=s.drawn) (ch:=[]) (nofun) (λb o _ hb _ e n=>u.keep b o e n hb (by simp)) (λb o _ hb _ e n=>u.slot b o e n hb (by simp)) (λb o _ e n=>u.free b o e n (by simp)) (λb o _ e=>u.there b o e (by simp)) u.tups u.frzs u.tbls (λm' hm=>by
  obtain⟨o',es',ep',ho',r'⟩:=hm;rw[ho]at ho';cases ho';exact⟨_,es',ep',hL,r'⟩) hok I.bare
def Inv.call{g':Array GenState}{t':Nat}{d':Drawn}{ch:ar}(I:Inv X pins σ H s)(u:Un (frs X.stack) ch H H' s.heap h')(hok:tZ X.prog X.w H' h')(hg:AllBare g')
  (hch:∀b∈ch,(b∈X.ex\/X.s₀.heap.objs.size<=b)/\b≠X.env.locals/\(∀x c,X.env.cells.lookup x=some c->c≠b)/\∀p∈X.pn++pins,p.1≠b) :
  Inv X pins σ H' { s with heap:=h',gens:=g',drawn:=d',toks:=t' }:=by
 obtain⟨m,⟨o,es,ep,ho,r⟩,_⟩:=id I.loc;obtain⟨sl,hL⟩:=u.any ho I.free λz=>(hch _ z).2.1 rfl;exact I.step (ch:=ch) hch (λb o hL hb hc e n=>u.keep b o e n (λz=>(bL.mp (I.Dh b z)).elim hL hb) hc) (λb o _ _ hc e n=>u.any e n hc) (λb o hc e n=>u.free b o e n hc) (λb o hc e=>u.there b o e hc) u.tups u.frzs u.tbls (λm' hm=>by
  obtain⟨o',es',ep',ho',r'⟩:=hm;rw[ho]at ho';cases ho';exact⟨_,es',ep',hL,r'⟩) hok hg
def Inv.turned{t':Nat}{it:ak}(I:Inv X pins σ H s)(k:∀b o,b≠it->s.heap.get? b=some o->h'.get? b=some o)(hn:H it=none)(hL:it≠X.env.locals)
  (h1:it∈X.ex\/X.s₀.heap.objs.size<=it) (h2:∀x c,X.env.cells.lookup x=some c->c≠it) (h3:∀p∈X.pn++pins,p.1≠it):Inv X pins σ H { s with heap:=h',toks:=t' }:=by
 have nit:∀b u,H b=some u->b≠it:=λb u e z=>by rw[z,hn]at e;cases e
 refine I.step (g':=s.gens) (d':=s.drawn) (ch:=[it]) (λb hb=>?_) (λb o _ _ hc e _=>k b o (λz=>hc (by simp[z])) e) (λb o _ _ hc e _=>⟨o.slots,k b o (λz=>hc (by simp[z])) e⟩) (λ_ _ _ _ n=>n)
  (λb o hc e=>⟨o,k b o (λz=>hc (by simp[z])) e⟩) (λ_ _ e=>e) (λ_ _ _ e=>e) (λb ps e=>⟨#[],by rw[e];simp⟩) (λm hm=>?_) (λb u e=>?_) I.bare
 ·have e:b=it:=by simpa using hb
  subst e;exact⟨h1,hL,h2,h3⟩
 ·obtain⟨o,es,ep,ho,r⟩:=hm;exact⟨o,es,ep,k _ o (gp hL) ho,r⟩
 ·refine(I.hok b u e).stay (λc v hc q=>k c v ?_ q) (λ_ q=>q) λ_ _ q=>q
  rcases hc with z|z
  ·rw[z];exact nit b u e
  ·exact nit c _ z
def Inv.tok(I:Inv X pins σ H s)(t:Nat):Inv X pins σ H { s with toks:=t }:=I.un (h':=s.heap) (t':=t) Un.refl I.hok
def Inv.kept{t':Nat}(I:Inv X pins σ H s)(k:∀b u,s.heap.get? b=some u->h'.get? b=some u):Inv X pins σ H { s with heap:=h',toks:=t' }:=I.un (Un.kept k) (I.hok.kept k)
def Inv.laid{a:ak}{t':Nat}(I:Inv X pins σ H s)(k:∀b u,s.heap.get? b=some u->h'.get? b=some u)(hp:s.heap.objs.size<=a)(new:kP X.prog X.w (upd H a o) h' a o) :
  Inv X pins σ (upd H a o) { s with heap:=h',toks:=t' }:=I.un (Un.laid k hp (I.hok.fresh hp)) (I.hok.laid k hp new)
def Inv.write{x e:ak}{t':Nat}(I:Inv X pins σ H s)(mu:SV (H x))(he:e=x\/H e=some (.own x))(k:∀b u,b≠e->s.heap.get? b=some u->h'.get? b=some u)(heo:∃u,h'.get? e=some u)
  (new:kP X.prog X.w (upd H x o) h' x o):Inv X pins σ (upd H x o) { s with heap:=h',toks:=t' }:=I.un (Un.write mu he k heo) (I.hok.write mu he k heo new)
def Inv.DH{pins':bj}(I:Inv X pins σ H s)(h:∀p∈pins',s.heap.get? p.1=some p.2/\H p.1=none/\p.1≠X.env.locals/\p.1∉X.fs/\∀v,p.2.data≠.cell v):Inv X pins' σ H s:=
 ⟨I.ok,I.os,I.bare,I.base,I.loc,I.cell,I.free,I.freeC,λp hp=>(bq.mp hp).elim (λz=>I.pin p (bN _ z)) (h p),I.hok,I.len⟩
def A1{N:am}(hN:N.Nodup){i j:Nat}{x:Str}(a:N[i]?=some x)(b:N[j]?=some x):i=j:=by
 obtain⟨h1,e1⟩:=aK.mp a;obtain⟨h2,e2⟩:=aK.mp b;exact(d8 hN).mp (e1.trans e2.symm)
def GJ{A:aA}{E:af->aC->Prop}{i:Nat}{x:Str}{v:V}{Q:Unit->aC->Prop}(I:Inv X pins σ H s)(hN:X.N.Nodup)(hi:X.N[i]?=some x)(hx:Loc X.env.scope x)(r:RelV v u)
  (h:∀s',Inv X pins (σ.set i (some v)) H s'->(∃a,Heap.SameBut a s.heap s'.heap/\(a=X.env.locals\/X.env.cells.lookup x=some a))->Q Unit.unit s') (hf:X.fn x=true\/X.env.scope.names.lookup x=some .local:=by first|exact .inl rfl|exact .inr rfl|assumption):wpAny M A (storeName X.env x u) Q E s:=by
 obtain⟨m,hn,hl⟩:=id I.loc;have hcls:(X.env.scope.kind == .class || (X.env.scope.kind == .module && X.env.locals != X.env.globals))=false:=by rw[I.ok.kind];rfl
 have hiσ:i<σ.length:=by rw[I.len];exact(aK.mp hi).1
 have RU:=I.RU;have tracked:∀{a:ak} {h':aq},(∃o,s.heap.get? a=some o/\H a=none)->Heap.SameBut a s.heap h'->tZ X.prog X.w H h':=λ{a h'} ha hs b ob e=>by
  obtain⟨_,_,hfree⟩:=ha;refine(I.hok b ob e).stay (λc w' hc q=>(hs.2 c ?_).trans q) (λ_ q=>q) λ_ _ q=>q;rintro rfl
  rcases hc with rfl|hc
  ·rw[hfree]at e;cases e
  ·rw[hfree]at hc;cases hc
 rcases hx with hk|hk
 ·refine wpAny_storeName_local hk hn (λh' hn' hs=>?_) hcls;obtain⟨oL,_,_,hoL,_⟩:=id hn;refine h _ ⟨I.ok,I.os,I.bare,⟨λb o e n hb hx=>?_,λb o e n hb hx=>?_,I.base.free,λb o e hx=>?_,I.base.tups,I.base.frzs,I.base.tbls⟩,⟨_,hn',λj y v' e1 e2 e3=>?_⟩,λy c e=>?_,I.free,I.freeC,λp hp=>?_,tracked ⟨oL,hoL,I.free⟩ hs,by simpa using I.len⟩ ⟨_,hs,.inl rfl⟩
  ·exact(hs.2 b (bD (bM (aX e) I.ok.above))).trans (I.base.keep b o e n hb hx)
  ·obtain⟨sl,e1⟩:=I.base.slot b o e n hb hx;exact⟨sl,(hs.2 b (bD (bM (aX e) I.ok.above))).trans e1⟩
  ·obtain⟨o',e1⟩:=I.base.there b o e hx;exact⟨o',(hs.2 b (bD (bM (aX e) I.ok.above))).trans e1⟩
  ·by_cases hj:j=i
   ·subst hj;rw[hi]at e1;cases e1;rw[cB hiσ]at e2
    cases e2
    exact⟨u,r,.inl ⟨hk,by simp⟩⟩
   ·rw[b8 (gp hj)]at e2;obtain⟨u',r',q⟩:=hl j y v' e1 e2 e3;refine⟨u',r',?_⟩
    rcases q with⟨k,e⟩|⟨k,c,e,z⟩
    ·refine .inl ⟨k,?_⟩;have:y≠x:=λe=>hj (A1 hN e1 (e ▸ hi));simp[this,e]
    ·exact .inr ⟨k,c,e,z.sameBut hs (RU y c e)⟩
  ·obtain⟨w',z⟩:=I.cell y c e;exact⟨w',z.sameBut hs (RU y c e)⟩
  ·obtain⟨e,n,ne,nf,d⟩:=I.pin p hp;exact⟨(hs.2 p.1 ne).trans e,n,ne,nf,d⟩
 ·have hfn:X.fn x=true:=by
   rcases hf with z|z
   ·exact z
   ·rw[z]at hk;cases hk
  obtain⟨c,hc⟩:=I.ok.has x (.inl hk);obtain⟨w',z⟩:=I.cell x c hc;refine wpAny_storeName_cell I.ok.kind hk hc z (λh' hc' hs=>?_);obtain⟨oc,hoc,hocd⟩:=id z;refine h { s with heap:=h' } ⟨I.ok,I.os,I.bare,⟨λb o e n hb hx=>?_,λb o e n hb hx=>?_,I.base.free,λb o e hx=>?_,I.base.tups,I.base.frzs,I.base.tbls⟩,⟨m,hn.sameBut hs (gp (RU x c hc)),λj y v' e1 e2 e3=>?_⟩,λy c' e=>?_,I.free,I.freeC,λp hp=>?_,tracked ⟨oc,hoc,I.freeC x c hc⟩ hs,by simpa using I.len⟩ ⟨c,hs,.inr hc⟩
  ·exact(hs.2 b (bD (bM (aX e) (I.ok.cab x c hfn hc)))).trans (I.base.keep b o e n hb hx)
  ·obtain⟨sl,e1⟩:=I.base.slot b o e n hb hx;exact⟨sl,(hs.2 b (bD (bM (aX e) (I.ok.cab x c hfn hc)))).trans e1⟩
  ·obtain⟨o',e1⟩:=I.base.there b o e hx;exact⟨o',(hs.2 b (bD (bM (aX e) (I.ok.cab x c hfn hc)))).trans e1⟩
  ·by_cases hj:j=i
   ·subst hj;rw[hi]at e1;cases e1;rw[cB hiσ]at e2
    cases e2
    exact⟨u,r,.inr ⟨.inl hk,c,hc,hc'⟩⟩
   ·rw[b8 (gp hj)]at e2;obtain⟨u',r',q⟩:=hl j y v' e1 e2 e3;refine⟨u',r',?_⟩
    rcases q with q|⟨k,c',e,z'⟩
    ·exact .inl q
    ·refine .inr ⟨k,c',e,z'.sameBut hs ?_⟩;rintro rfl;exact hj (A1 hN e1 (I.ok.inj _ _ _ e hc ▸ hi))
  ·by_cases hcc:c'=c
   ·subst hcc;exact⟨_,hc'⟩
   ·obtain⟨w2,z2⟩:=I.cell y c' e;exact⟨w2,z2.sameBut hs hcc⟩
  ·obtain⟨e,n,ne,nf,d⟩:=I.pin p hp;refine⟨(hs.2 p.1 ?_).trans e,n,ne,nf,d⟩;intro q;rw[q,hoc]at e;have q':oc=p.2:=aW e;exact d w' (by rw[<- q'];exact hocd)
def yo{A:aA}{E:af->aC->Prop}{i:Nat}{x:Str}{v:V}{Q:Unit->aC->Prop}(I:Inv X pins σ H s)(hN:X.N.Nodup)(hi:X.N[i]?=some x)(hx:Loc X.env.scope x)(r:RelV v u)
  (h:∀s',Inv X pins (σ.set i (some v)) H s'->Q Unit.unit s') (hf:X.fn x=true\/X.env.scope.names.lookup x=some .local:=by first|exact .inl rfl|exact .inr rfl|assumption):wpAny M A (storeName X.env x u) Q E s:=
 GJ I hN hi hx r (λs' I' _=>h s' I') hf
def Inv.Jf{s':aC}{ch:ar}(I:Inv X pins σ H s)(ho:s'.os=s.os)(u:Un (frs X.stack) ch H H' s.heap s'.heap)(hok:tZ X.prog X.w H' s'.heap)(hg:AllBare s'.gens)
  (hch:∀b∈ch,(b∈X.ex\/X.s₀.heap.objs.size<=b)/\b≠X.env.locals/\(∀x c,X.env.cells.lookup x=some c->c≠b)/\∀p∈X.pn++pins,p.1≠b):Inv X pins σ H' s':=by
 obtain⟨h',g',d',t',o'⟩:=s';have e:o'=s.os:=ho;subst e;exact I.call (g':=g') (t':=t') (d':=d') u hok hg hch
end
meta abbrev XK:=af->Option ak->Hp->Prop
meta abbrev St:=List (Option V)
meta abbrev VK:=V->Hp->Prop
meta abbrev TE:=St->Hp->VK->Prop
meta abbrev TT:=St->Hp->(Bool->Hp->Prop)->Prop
meta abbrev TA:=St->Hp->(List V->Hp->Prop)->Prop
structure Ends where
 nx:St->Hp->Prop
 rt:VK
 bk:St->Hp->Prop:=λ_ _=>False
 ct:St->Hp->Prop:=λ_ _=>False
meta abbrev TS:=Ends->St->Hp->Prop
abbrev EP (X:Cx)(pins:bj)(σ:St)(Q:VK)(u:af)(s':aC):Prop:=∃v H',Inv X pins σ H' s'/\RelV v u/\Q v H'
abbrev TP (X:Cx)(pins:bj)(σ:St)(Q:Bool->Hp->Prop)(b:Bool)(s':aC):Prop:=∃H',Inv X pins σ H' s'/\Q b H'
abbrev AP (X:Cx)(pins:bj)(σ:St)(Q:List V->Hp->Prop)(us:ap)(s':aC):Prop:=∃vs H',Inv X pins σ H' s'/\Vals vs us/\Q vs H'
abbrev SP (X:Cx)(pins:bj)(D:Ends)(f:Flow)(s':aC):Prop:=
 match f with
 | .next=>∃σ' H',Inv X pins σ' H' s'/\D.nx σ' H'
 | .brk=>∃σ' H',Inv X pins σ' H' s'/\D.bk σ' H'
 | .cont=>∃σ' H',Inv X pins σ' H' s'/\D.ct σ' H'
 | .ret u=>∃v σ' H',Inv X pins σ' H' s'/\RelV v u/\D.rt v H'
abbrev PE (X:Cx)(e:aE)(t:TE):Prop:=
 ∀(pins:bj) (s:aC) (σ:St) (H:Hp) (Q:VK),Inv X pins σ H s->t σ H Q->wpAny (model X.prog X.w) X.A (eval e X.env) (EP X pins σ Q) X.xe s
abbrev PT (X:Cx)(e:aE)(t:TT):Prop:=
 ∀(pins:bj) (s:aC) (σ:St) (H:Hp) (Q:Bool->Hp->Prop),Inv X pins σ H s->t σ H Q->wpAny (model X.prog X.w) X.A (isTrue e X.env (eval e X.env)) (TP X pins σ Q) X.xe s
abbrev PW (X:Cx)(e:aE)(t:TT):Prop:=
 ∀(whole:Sem af) (pins:bj) (s:aC) (σ:St) (H:Hp) (Q:Bool->Hp->Prop),Inv X pins σ H s->t σ H Q->wpAny (model X.prog X.w) X.A (isTrue e X.env whole) (TP X pins σ Q) X.xe s
abbrev PA (X:Cx)(es:List aE)(t:TA):Prop:=
 ∀(pos:Pos) (pins:bj) (s:aC) (σ:St) (H:Hp) (Q:List V->Hp->Prop),Inv X pins σ H s->t σ H Q->wpAny (model X.prog X.w) X.A (spliced (backTo pos (starEach es X.env))) (AP X pins σ Q) X.xe s
abbrev PS (X:Cx)(st:aF)(t:TS):Prop:=
 ∀(pins:bj) (s:aC) (σ:St) (H:Hp) (D:Ends),Inv X pins σ H s->t D σ H->wpAny (model X.prog X.w) X.A (exec st X.env) (SP X pins D) X.xe s
abbrev zN (X:Cx)(st:List aF)(t:TS):Prop:=
 ∀(pins:bj) (s:aC) (σ:St) (H:Hp) (D:Ends),Inv X pins σ H s->t D σ H->wpAny (model X.prog X.w) X.A (execs st X.env) (SP X pins D) X.xe s
def kR{α:Type}{t:Sem α}{Q Q':α->aC->Prop}{A:aA}{E:af->aC->Prop}(h:wpAny M A t Q E s)(hQ:∀a s,Q a s->Q' a s):wpAny M A t Q' E s:=fh h hQ λ_ _ x=>x
section
variable {X:Cx}
abbrev TQ (i:Nat):TE:=λσ H Q=>∃v,σ[i]?=some (some v)/\Q v H
abbrev tC (v:V):TE:=λ_ H Q=>Q v H
def HU{i:Nat}{x:Str}(hN:X.N[i]?=some x)(hv:Sn X.env.scope x)(hd:(x == ("__debug__" : Str))=false:=by decide)(hcd:(x == ("__classdict__" : Str))=false:=by decide):PE X (.Name x pos) (TQ i):=by
 x_go;obtain⟨v,e,h⟩:=h;obtain⟨m,hn,hl⟩:=I.loc;obtain⟨u,r,l⟩:=hl i x v hN e hv;have fin:EP X pins σ Q u s:=⟨v,H,I,r,h⟩
 rcases l with⟨hk,hm⟩|⟨hk,c,hc,hcell⟩
 ·exact wpAny_Name (wpAny_loadName_local I.ok.kind hk hn hm fin) hd
 ·rcases hk with hk|hk
  ·exact wpAny_Name (wpAny_loadName_cell I.ok.kind hk hc hcell fin) hd
  ·exact wpAny_Name (wpAny_loadName_free I.ok.kind hk hc hcell fin hcd) hd
def CZ{i j pos}:PE X (.Constant (.int i) j pos) (tC (.int i)):=λ_ _ _ H _ I h=>wpAny_Constant_int ⟨.int i,H,I.tok _,⟨_,rfl⟩,h⟩
def SH{b j pos}:PE X (.Constant (.bool b) j pos) (tC (.bl b)):=λ_ _ _ H _ I h=>Constant_bool ⟨.bl b,H,I,rfl,h⟩
def P6{j pos}:PE X (.Constant .none j pos) (tC .non):=λ_ _ _ H _ I h=>Constant_none ⟨.non,H,I,rfl,h⟩
abbrev Gl (X:Cx)(x:Str):Prop:=X.env.kindOf x=some .globalImplicit
def FO{E:af->aC->Prop}{H:Hp}{x:Str}{Q:af->aC->Prop}(I:Inv X pins σ H s)(hg:Gl X x)(hm:X.mg x=some u)(h:Q u s)
  (hd:(x == ("__debug__" : Str))=false:=by decide):wpAny (model X.prog X.w) X.A (eval (.Name x pos) X.env) Q E s:=
 Calls.Name_function_global I.ok.kind hg (Calls.loadGlobal_global (by rw[I.ok.glob];exact I.mod.glob.keeps I.bk) hm h) hd
def w4{E:af->aC->Prop}{H:Hp}{x:Str}{Q:af->aC->Prop}(I:Inv X pins σ H s)(hg:Gl X x)(hm:X.mg x=none)(hv:bootBuiltins x=some u)(h:Q u s)
  (hn:x ≠ "__name__" := by decide) (hd:(x == ("__debug__" : Str))=false:=by decide):wpAny (model X.prog X.w) X.A (eval (.Name x pos) X.env) Q E s:=by
 obtain⟨mb,h1,h2⟩:=I.mod.blt;exact Calls.Name_function_global I.ok.kind hg (Calls.loadGlobal_builtin (by rw[I.ok.glob];exact I.mod.glob.keeps I.bk) hm (by rw[I.ok.blt];exact h1.keeps I.bk) ((h2 x hn).trans hv) h) hd
def M8{x:Str}{v:V}(hg:Gl X x)(hm:X.mg x=some u)(r:RelV v u)(hd:(x == ("__debug__" : Str))=false:=by decide):PE X (.Name x pos) (tC v):=
 λ_ _ _ H _ I h=>FO I hg hm ⟨v,H,I,r,h⟩ hd
def MI{x:Str}{v:V}(hg:Gl X x)(hm:X.mg x=none)(hv:bootBuiltins x=some u)(r:RelV v u)(hn:x ≠ "__name__" := by decide)(hd:(x == ("__debug__" : Str))=false:=by decide):PE X (.Name x pos) (tC v):=
 λ_ _ _ H _ I h=>w4 I hg hm hv ⟨v,H,I,r,h⟩ hn hd
variable {a b:aE}{ta tb:TE}{pos:Pos}
variable {tA tB':TT}{rest:List aE}
abbrev Wo (t u:TT):TT:=λσ H Q=>t σ H λc H1=>if c=true then Q true H1 else u σ H1 Q
abbrev Wb (t:TT):TT:=λσ H Q=>t σ H λc H1=>Q (!c) H1
def Qc(ha:PT X a tA):PW X (.BoolOp .Or [a] pos) tA:=by
 intro wh pins s σ H Q I h;refine isTrue_or (kR (ha pins s σ H Q I h) λc s1 e=>?_)
 cases c with
 | false=>exact isTrue_or_nil e
 | true=>exact e
def UA(ha:PT X a tA)(hb:PW X (.BoolOp .Or (b::rest) pos) tB'):PW X (.BoolOp .Or (a::b::rest) pos) (Wo tA tB'):=by
 intro wh pins s σ H Q I h;refine isTrue_or (kR (ha pins s σ H _ I h) λc s1 ⟨H1,I1,q1⟩=>?_)
 cases c with
 | true=>exact⟨H1,I1,q1⟩
 | false=>exact hb wh pins s1 σ H1 Q I1 q1
def P0(ha:PT X a tA):PT X (.UnaryOp .Not a pos) (Wb tA):=by
 x_go;exact isTrue_not (ha pins s σ H (λc H1=>Q (!c) H1) I h)
abbrev SK (ta tb:TE):TE:=λσ H Q=>ta σ H λx H1=>∃c,x=.bl c/\if c=true then tb σ H1 Q else Q (.bl false) H1
abbrev Uv (ta:TE):TE:=λσ H Q=>ta σ H λx H1=>∃c,x=.bl c/\Q (.bl (!c)) H1
def RX{op}{t:TE}(h:PE X a t):PE X (.BoolOp op [a] pos) t:=λpins s σ H Q I hw=>BoolOp_one (h pins s σ H Q I hw)
def Ri(ha:PE X a ta)(hb:PE X (.BoolOp .And (b::rest) pos) tb):PE X (.BoolOp .And (a::b::rest) pos) (SK ta tb):=by
 x_go;refine BoolOp_and (kR (ha pins s σ H _ I h) λv s1 ⟨x,H1,I1,r1,q1⟩=>?_);obtain⟨c,rfl,q1⟩:=q1
 cases r1
 refine dz ?_
 cases c with
 | true=>exact hb pins s1 σ H1 Q I1 q1
 | false=>exact⟨.bl false,H1,I1,rfl,q1⟩
def Q9(ha:PE X a ta):PE X (.UnaryOp .Not a pos) (Uv ta):=by
 x_go;refine UnaryOp_ (kR (ha pins s σ H _ I h) λv s1 ⟨x,H1,I1,r1,q1⟩=>?_);obtain⟨c,rfl,q1⟩:=q1
 cases r1
 exact not_of (dz ⟨.bl (!c),H1,I1,rfl,q1⟩)
end
abbrev nB (K:au)(H:Hp)(a:ak)(xs:List V):Prop:=
 Rd H a (.lst xs) \/
  ∃(o:Obj) (its:Array af) (n:Nat),K.lookup a=some o/\o.cls=.type "list" /\ o.dict=none/\o.data=.seq its n/\its.size<=sizeLine/\Vals xs its.toList
abbrev m9 (K:au)(H:Hp)(a:ak)(xs:List V):Prop:=
 Rd H a (.tup xs) \/
  ∃(o:Obj) (its:Array af) (n:Nat),K.lookup a=some o/\o.cls=.type "tuple" /\ o.dict=none/\o.data=.seq its n/\its.size<=sizeLine/\Vals xs its.toList
abbrev Vy:af->Option V
 | .none=>some .non
 | .bool b=>some (.bl b)
 | .int i _=>some (.int i)
 | .str x _=>some (.str x)
 | .bytes b _=>some (.byt b)
 | .float b _=>some (.flt b)
 | .ref a=>some (.ref a)
 | .type n=>some (.ty n)
 | _=>none
def RelV.abs{x:V}(r:RelV x u):Vy u=some x:=by
 cases x with
 | non=>cases r;rfl
 | bl _=>cases r;rfl
 | int _=>obtain⟨t,rfl⟩:=r;rfl
 | str _=>obtain⟨t,rfl⟩:=r;rfl
 | byt _=>obtain⟨t,rfl⟩:=r;rfl
 | flt _=>obtain⟨t,rfl⟩:=r;rfl
 | ref _=>cases r;rfl
 | ty _=>cases r;rfl
def RelV.inj{x:V}(r:RelV x u)(q:RelV y u):x=y:=aW (r.abs.symm.trans q.abs)
theorem Vals.inj:∀{xs ys:List V}{us:ap},Vals xs us->Vals ys us->xs=ys
 | _,_,_,.nil,.nil=>rfl
 | _,_,_,.cons r t,.cons r' t'=>by rw[r.inj r',Vals.inj t t']
section
variable {X:Cx}{pins:bj}{σ:St}{H:Hp}{s:aC}{a:ak}{xs ys:List V}
def nB.of{K:au}(h:H a=some (.lst xs)):nB K H a xs:=.inl (.inl h)
def m9.of{K:au}(h:H a=some (.tup xs)):m9 K H a xs:=.inl (.inl h)
def Inv.list(I:Inv X pins σ H s)(h:nB X.K H a xs):∃its:ap,Vals xs its/\PlainL s.heap a its.toArray/\xs.length<=sizeLine:=by
 rcases h with h|⟨o,its,n,hk,hc,hd,hs,hz,r⟩
 ·obtain⟨z,its,n,r,e⟩:=h.ok I.hok;exact⟨its,r,⟨_,n,e,rfl,rfl,rfl⟩,z⟩
 ·refine⟨its.toList,r,⟨o,n,I.zM a o hk,hc,hd,by simpa using hs⟩,?_⟩;have e:=r.length;dsimp[cX]at e
  lia
def Inv.tuple(I:Inv X pins σ H s)(h:m9 X.K H a xs):∃its:ap,Vals xs its/\IsTup s.heap a its.toArray/\xs.length<=sizeLine:=by
 rcases h with h|⟨o,its,n,hk,hc,_,hs,hz,r⟩
 ·obtain⟨z,its,r,p⟩:=h.ok I.hok;exact⟨its,r,p.tup,z⟩
 ·refine⟨its.toList,r,⟨o,I.zM a o hk,hc,n,by simpa using hs⟩,?_⟩;have e:=r.length;dsimp[cX]at e
  lia
def Inv.RO(I:Inv X pins σ H s)(h:m9 X.K H a xs):∃o,s.heap.get? a=some o/\o.cls=.type "tuple" /\ o.dict=none:=by
 rcases h with h|⟨o,its,n,hk,hc,hd,hs,hz,r⟩
 ·obtain⟨z,its,r,o,e,c,d,_⟩:=h.ok I.hok;exact⟨o,e,c,d⟩
 ·exact⟨o,I.zM a o hk,hc,hd⟩
def Inv.Jt(I:Inv X pins σ H s)(h:nB X.K H a xs)(h':nB X.K H a ys):xs=ys:=by
 obtain⟨its,r,⟨o,n,e,_,_,d⟩,_⟩:=I.list h;obtain⟨its',r',⟨o',n',e',_,_,d'⟩,_⟩:=I.list h';rw[e]at e';cases e';rw[d]at d'
 injection d' with d1 _
 have:its=its':=by simpa using dJ Array.toList d1
 subst this;exact r.inj r'
def Inv.y9(I:Inv X pins σ H s)(h:m9 X.K H a xs)(h':m9 X.K H a ys):xs=ys:=by
 obtain⟨its,r,⟨o,e,_,n,d⟩,_⟩:=I.tuple h;obtain⟨its',r',⟨o',e',_,n',d'⟩,_⟩:=I.tuple h';rw[e]at e';cases e';rw[d]at d'
 injection d' with d1 _
 have:its=its':=by simpa using dJ Array.toList d1
 subst this;exact r.inj r'
end
meta abbrev Cx.yI (X:Cx)(E:af->aC->Prop):Cx:={ X with xe:=E }
meta abbrev Cx.Ui (X:Cx):Cx:=X.yI λ_ _=>False
def Cx.Ok.yI{X:Cx}(ok:X.Ok)(E:af->aC->Prop):(X.yI E).Ok:=
 ⟨ok.mod,ok.kind,ok.glob,ok.blt,ok.above,ok.inj,ok.has,ok.cab,ok.hd,ok.frames,ok.stk,ok.exf,ok.bs,ok.bsz,ok.noex,ok.exfs,ok.xg,ok.frf⟩
def Cx.Ok.qT{X:Cx}{E:af->aC->Prop}(ok:(X.yI E).Ok):X.Ok:=
 ⟨ok.mod,ok.kind,ok.glob,ok.blt,ok.above,ok.inj,ok.has,ok.cab,ok.hd,ok.frames,ok.stk,ok.exf,ok.bs,ok.bsz,ok.noex,ok.exfs,ok.xg,ok.frf⟩
section
variable {X:Cx}{pins:bj}{σ:St}{H:Hp}{s:aC}{E:af->aC->Prop}
def Inv.yI(I:Inv X pins σ H s)(E:af->aC->Prop):Inv (X.yI E) pins σ H s:=⟨I.ok.yI E,I.os,I.bare,I.base,I.loc,I.cell,I.free,I.freeC,I.pin,I.hok,I.len⟩
def Inv.qT(I:Inv (X.yI E) pins σ H s):Inv X pins σ H s:=⟨I.ok.qT,I.os,I.bare,I.base,I.loc,I.cell,I.free,I.freeC,I.pin,I.hok,I.len⟩
def SP.qT{D:Ends}{f:Flow}(h:SP (X.yI E) pins D f s'):SP X pins D f s':=by
 cases f with
 | next=>obtain⟨σ',H',I,q⟩:=h;exact⟨σ',H',I.qT,q⟩
 | brk=>obtain⟨σ',H',I,q⟩:=h;exact⟨σ',H',I.qT,q⟩
 | cont=>obtain⟨σ',H',I,q⟩:=h;exact⟨σ',H',I.qT,q⟩
 | ret u=>obtain⟨v,σ',H',I,r,q⟩:=h;exact⟨v,σ',H',I.qT,r,q⟩
def zN.Ui{st:List aF}{t:TS}(h:zN X.Ui st t):zN X st t:=λpins s σ H D I hw=>
 fh (h pins s σ H D (I.yI _) hw) (λ_ _ q=>q.qT) λ_ _ z=>False.elim z
end
section
variable {X:Cx}{st:aF}{rest:List aF}{t u:TS}{e:aE}{te:TE}{pos:Pos}
abbrev Tq:TS:=λD σ H=>D.nx σ H
abbrev Uj (t u:TS):TS:=λD σ H=>t { D with nx:=u D } σ H
def Mi:zN X [] Tq:=λ_ _ σ H _ I h=>iG ⟨σ,H,I,h⟩
def IS(h1:PS X st t)(h2:zN X rest u):zN X (st::rest) (Uj t u):=by
 ksr_p;refine wpAny_execs_cons (kR (h1 pins s σ H { D with nx:=u D } I h) λf s1 q=>?_)
 cases f with
 | next=>
  obtain⟨σ',H',I',q⟩:=q;exact h2 pins s1 σ' H' D I' q
 | ret v=>exact q
 | brk=>exact q
 | cont=>exact q
def Nl(h1:PS X st t):zN X [st] t:=by
 ksr_p;refine wpAny_execs_cons (kR (h1 pins s σ H D I h) λf s1 q=>?_)
 cases f with
 | next=>exact iG q
 | ret v=>exact q
 | brk=>exact q
 | cont=>exact q
def Inv.quiet{H:Hp}(I:Inv X pins σ H s):interactive X.env=false:=by simp[interactive,I.ok.kind]
abbrev UK (te:TE):TS:=λD σ H=>te σ H λ_ H1=>D.nx σ H1
def Mn(he:PE X e te)(hs:swapsWith e none pos.line X.env=pure false:=by rfl):PS X (.Expr e pos) (UK te):=by
 ksr_p;exact wpAny_Expr_any (kR (he pins s σ H _ I h) λv s1 ⟨x,H1,I1,r1,q1⟩=>⟨σ,H1,I1,q1⟩) I.quiet hs
abbrev U5 (te:TE):TS:=λD σ H=>te σ H D.rt
def Rj(he:PE X e te):PS X (.Return (some e) pos) (U5 te):=by
 ksr_p;exact wpAny_Return_some (kR (he pins s σ H _ I h) λv s1 ⟨x,H1,I1,r1,q1⟩=>⟨x,σ,H1,I1,r1,q1⟩)
abbrev SI:TS:=λD _ H=>D.rt .non H
def Nv:PS X (.Return none pos) SI:=λ_ _ σ H _ I h=>wpAny_Return_none ⟨.non,σ,H,I,rfl,h⟩
abbrev Vc (c:TT)(t u:TS):TS:=λD σ H=>c σ H λb H1=>if b=true then t D σ H1 else u D σ H1
def Tt{c:aE}{a:List aF}{tc:TT}(hc:PT X c tc)(ha:zN X a t)(hb:zN X b u):PS X (.If c a b pos) (Vc tc t u):=by
 ksr_p;refine wpAny_If (kR (hc pins s σ H _ I h) λd s1 ⟨H1,I1,q1⟩=>?_)
 cases d with
 | true=>exact ha pins s1 σ H1 D I1 q1
 | false=>exact hb pins s1 σ H1 D I1 q1
abbrev RH:TS:=λ_ _ _=>False
def HZ:PS X st RH:=λ_ _ _ _ _ _ h=>h.elim
end
meta abbrev TG:=V->St->Hp->(St->Hp->Prop)->Prop
meta abbrev N4:=List V->St->Hp->(St->Hp->Prop)->Prop
abbrev PG (X:Cx)(target:aE)(t:TG):Prop:=
 ∀(pins:bj) (s:aC) (σ:St) (H:Hp) (v:V) (u:af) (Q:St->Hp->Prop),Inv X pins σ H s->RelV v u->t v σ H Q ->
  wpAny (model X.prog X.w) X.A (assign target X.env u) (λ_ s'=>∃σ' H',Inv X pins σ' H' s'/\Q σ' H') X.xe s
abbrev Uu (X:Cx)(ts:List aE)(t:N4):Prop:=
 ∀(pins:bj) (s:aC) (σ:St) (H:Hp) (vs:List V) (us:ap) (Q:St->Hp->Prop),Inv X pins σ H s->Vals vs us->t vs σ H Q ->
  wpAny (model X.prog X.w) X.A (assignInOrder ((assignEach ts X.env).map (·.2)) us) (λ_ s'=>∃σ' H',Inv X pins σ' H' s'/\Q σ' H') X.xe s
meta abbrev CL:=V->V->V->Hp->(Hp->Prop)->Prop
abbrev GL (X:Cx)(t:CL):Prop:=
 ∀(pins:bj) (s:aC) (σ:St) (H:Hp) (o i v:V) (ov iv u:af) (Q:Hp->Prop),Inv X pins σ H s->RelV o ov->RelV i iv->RelV v u->t o i v H Q ->
  wpAny (model X.prog X.w) X.A (setItem ov iv u) (λ_ s'=>∃H',Inv X pins σ H' s'/\Q H') X.xe s
meta abbrev Ra:=V->V->Hp->VK->Prop
abbrev Ox (X:Cx)(op:Operator)(t:Ra):Prop:=
 ∀(pins:bj) (s:aC) (σ:St) (H:Hp) (x y:V) (v u:af) (Q:VK),Inv X pins σ H s->RelV x v->RelV y u->t x y H Q ->
  wpAny (model X.prog X.w) X.A (inplaceOp op v u) (EP X pins σ Q) X.xe s
section
variable {X:Cx}{pos:Pos}
abbrev J3 (i:Nat):TG:=λv σ H Q=>Q (σ.set i (some v)) H
def FD{i:Nat}{x:Str}(hN:X.N.Nodup)(hi:X.N[i]?=some x)(hx:Loc X.env.scope x)(hf:X.fn x=true\/X.env.scope.names.lookup x=some .local:=by first|exact .inl rfl|exact .inr rfl|assumption):PG X (.Name x pos) (J3 i):=by
 intro pins s σ H v u Q I r h;exact wpAny_assign_Name (yo I hN hi hx r (λs' I'=>⟨_,H,I',h⟩) hf)
abbrev Ve:N4:=λvs σ H Q=>vs=[]/\Q σ H
abbrev UI (t:TG)(u:N4):N4:=λvs σ H Q=>∃v r,vs=v::r/\t v σ H λσ' H'=>u r σ' H' Q
def M4:Uu X [] Ve:=by
 intro pins s σ H vs us Q I r h;obtain⟨e,h⟩:=h;subst e
 cases r
 exact assignInOrder_nil ⟨σ,H,I,h⟩
def JY{e:aE}{t:TG}{u:N4}(h1:PG X e t)(h2:Uu X es u)
  (hs:(assignEach (e::es) X.env).map (·.2)=assign e X.env::(assignEach es X.env).map (·.2):=by rfl):Uu X (e::es) (UI t u):=by
 intro pins s σ H vs us Q I r h;obtain⟨v,vr,e1,h⟩:=h;subst e1
 cases r with
 | cons r rr=>
  rw[hs];refine assignInOrder_cons (kR (h1 pins s σ H _ _ _ I r h) λ_ s1 ⟨σ1,H1,I1,q1⟩=>?_);exact h2 pins s1 σ1 H1 _ _ Q I1 rr q1
abbrev V_ (K:au)(n:Nat)(t:N4):TG:=λv σ H Q=>∃a xs,v=.ref a/\m9 K H a xs/\xs.length=n/\t xs σ H Q
def RK{k:Nat}{t:N4}{n:Nat}(hc:X.calm=true)(h:Uu X es t)
  (hn:(assignEach es X.env).length=n:=by rfl) (hst:(assignEach es X.env).findIdx? (·.1)=none:=by rfl):PG X (.Tuple es k pos) (V_ X.K n t):=by
 intro pins s σ H v u Q I r hw;obtain⟨a,xs,e1,hq,hl,hw⟩:=hw;subst e1
 cases r
 obtain⟨its,rv,ht,hz⟩:=I.tuple hq;refine assign_Tuple_tuple (I.ok.hd hc) ht (by simp[hn,<- hl,rv.length]) hst λh' hx=>?_;have I1:Inv X pins σ H { s with heap:=h' }:=I.kept (t':=s.toks) λb o e=>hx b o (bD (aX e)) e;exact h pins _ σ H xs _ Q I1 (by simpa using rv) hw
abbrev U7 (to ti:TE)(t:CL):TG:=λv σ H Q=>to σ H λo H1=>ti σ H1 λi H2=>t o i v H2 λH3=>Q σ H3
def LY{to ti:TE}{t:CL}(ho:PE X o to)(hi:PE X i ti)(hs:GL X t)
  (ha:∀v,assign (.Subscript o i pos) X.env v=(do
   let ov <- holding [v] (eval o X.env)
   let iv <- holding [v,ov] (eval i X.env)
   standAt pos
   holding [v,ov,iv] (setItem ov iv v)
   release [v,ov,iv] []):=by intro _;rfl):PG X (.Subscript o i pos) (U7 to ti t):=by
 intro pins s σ H v u Q I r h;rw[ha];refine aG (dg (kR (ho pins s σ H _ I h) λov s1 ⟨x,H1,I1,r1,q1⟩=>?_));refine aG (dg (kR (hi pins s1 σ H1 _ I1 q1) λiv s2 ⟨y,H2,I2,r2,q2⟩=>?_));refine aG (eL (aG (dg (kR (hs pins s2 σ H2 x y v ov iv u _ I2 r1 r2 r q2) λ_ s3 ⟨H3,I3,q3⟩=>?_))));exact wpAny_release ⟨σ,H3,I3,q3⟩
abbrev MB (te:TE)(g:TG):TS:=λD σ H=>te σ H λx H1=>g x σ H1 D.nx
def Se{tg e:aE}{te:TE}{g:TG}(he:PE X e te)(hg:PG X tg g)(hs:swapsWithSole [tg] e pos.line X.env=pure false:=by rfl)(hw:swappedStores [tg] e X.env=pure none:=by rfl)
  (h1:(assignEach [tg] X.env).map (·.2)=[assign tg X.env]:=by rfl):PS X (.Assign [tg] e pos) (MB te g):=by
 ksr_p;refine wpAny_Assign_stores (kR (he pins s σ H _ I h) λv s1 ⟨x,H1,I1,r1,q1⟩=>?_) hs hw;rw[h1];exact kR (hg pins s1 σ H1 x v _ I1 r1 q1) λ_ s2 q=>q
def Rw{i:Nat}{x:Str}{e:aE}{te:TE}(hN:X.N.Nodup)(hi:X.N[i]?=some x)(hx:Loc X.env.scope x)(he:PE X e te)(hs:swapsWith e (some (.Name x pos')) pos.line X.env=pure false:=by rfl)(hf:X.fn x=true\/X.env.scope.names.lookup x=some .local:=by first|exact .inl rfl|exact .inr rfl|assumption) :
  PS X (.Assign [.Name x pos'] e pos) (MB te (J3 i)):=by
 ksr_p;refine wpAny_Assign_Name (kR (he pins s σ H _ I h) λv s1 ⟨y,H1,I1,r1,q1⟩=>?_) hs;exact yo I1 hN hi hx r1 (λs2 I2=>⟨_,H1,I2,q1⟩) hf
abbrev Vb (i:Nat)(te:TE)(ti:Ra):TS:=λD σ H=>∃x,σ[i]?=some (some x)/\te σ H λy H1=>ti x y H1 λz H2=>D.nx (σ.set i (some z)) H2
def QZ{i:Nat}{x:Str}{e:aE}{te:TE}{ti:Ra}(hN:X.N.Nodup)(hi:X.N[i]?=some x)(hx:Loc X.env.scope x)(he:PE X e te)(ho:Ox X op ti)(hf:X.fn x=true\/X.env.scope.names.lookup x=some .local:=by first|exact .inl rfl|exact .inr rfl|assumption) :
  PS X (.AugAssign (.Name x pos') op e pos) (Vb i te ti):=by
 ksr_p;obtain⟨v,e1,h⟩:=h;obtain⟨m,hn,hl⟩:=I.loc;have vis:Sn X.env.scope x:=by rcases hx with k|k;exact .inl k;exact .inr (.inl k)
 obtain⟨u,r,l⟩:=hl i x v hi e1 vis;refine wpAny_AugAssign_Name ?_;have go:wpAny (model X.prog X.w) X.A (eval e X.env) (λw s₂=>wpAny (model X.prog X.w) X.A (inplaceOp op u w) (λr s₃=>wpAny (model X.prog X.w) X.A (storeName X.env x r) (λ_=>SP X pins D .next) X.xe s₃) X.xe s₂) X.xe s:=by
  refine kR (he pins s σ H _ I h) λw s1 ⟨y,H1,I1,r1,q1⟩=>?_;refine kR (ho pins s1 σ H1 v y u w _ I1 r r1 q1) λz s2 ⟨zv,H2,I2,r2,q2⟩=>?_;exact yo I2 hN hi hx r2 (λs3 I3=>⟨_,H2,I3,q2⟩) hf
 rcases l with⟨hk,hm⟩|⟨hk,c,hc,hcell⟩
 ·exact wpAny_loadName_local I.ok.kind hk hn hm go
 ·rcases hk with hk|hk
  ·exact wpAny_loadName_cell I.ok.kind hk hc hcell go
  ·rcases hx with k|k
   ·have:X.env.scope.names.lookup x=some .free:=hk;rw[k]at this;cases this
   ·have:X.env.scope.names.lookup x=some .free:=hk;rw[k]at this;cases this
abbrev UJ (to ti te:TE)(tget:V->V->Hp->VK->Prop)(tip:Ra)(tset:CL):TS:=λD σ H=>to σ H λo H1=>ti σ H1 λi H2=>tget o i H2 λx H3=>te σ H3 λy H4=>tip x y H4 λz H5=>tset o i z H5 λH6=>D.nx σ H6
abbrev Qh (X:Cx)(t:V->V->Hp->VK->Prop):Prop:=
 ∀(pins:bj) (s:aC) (σ:St) (H:Hp) (o i:V) (ov iv:af) (Q:VK),Inv X pins σ H s->RelV o ov->RelV i iv->t o i H Q ->
  wpAny (model X.prog X.w) X.A (getItem ov iv) (EP X pins σ Q) X.xe s
def MX{e:aE}{to ti te:TE}{tget:V->V->Hp->VK->Prop}{tip:Ra}{tset:CL}(ho:PE X o to)(hi:PE X i ti)(hg:Qh X tget)(he:PE X e te)(hp:Ox X op tip)(hs:GL X tset)
  (ha:∀ov iv new,augStore i ov iv new=(do holding [new,ov,iv] (setItem ov iv new);release [new,ov,iv] [];pure .next):=by intros;rfl):PS X (.AugAssign (.Subscript o i tpos) op e pos) (UJ to ti te tget tip tset):=by
 ksr_p;refine wpAny_AugAssign_SubscriptAny (kR (ho pins s σ H _ I h) λov s1 ⟨x1,H1,I1,r1,q1⟩=>?_) ha;refine kR (hi pins s1 σ H1 _ I1 q1) λiv s2 ⟨x2,H2,I2,r2,q2⟩=>?_;refine kR (hg pins s2 σ H2 x1 x2 ov iv _ I2 r1 r2 q2) λold s3 ⟨x3,H3,I3,r3,q3⟩=>?_;refine kR (he pins s3 σ H3 _ I3 q3) λv s4 ⟨x4,H4,I4,r4,q4⟩=>?_;refine kR (hp pins s4 σ H4 x3 x4 old v _ I4 r3 r4 q4) λnew s5 ⟨x5,H5,I5,r5,q5⟩=>?_;exact kR (hs pins s5 σ H5 x1 x2 x5 ov iv new _ I5 r1 r2 r5 q5) λ_ s6 ⟨H6,I6,q6⟩=>⟨σ,H6,I6,q6⟩
abbrev Wi (f:Int->Int->Int):Ra:=λx y H Q=>∃i j,x=.int i/\y=.int j/\Q (.int (f i j)) H
def QX:Ox X .Add (Wi λi j=>i+j):=by
 intro pins s σ H x y v u Q I r1 r2 h;obtain⟨i,j,e1,e2,q⟩:=h;subst e1;subst e2;obtain⟨t,rfl⟩:=r1;obtain⟨t',rfl⟩:=r2;exact iadd_int ⟨.int _,H,I.tok _,⟨_,rfl⟩,q⟩
def QG:Ox X .Sub (Wi λi j=>i-j):=by
 intro pins s σ H x y v u Q I r1 r2 h;obtain⟨i,j,e1,e2,q⟩:=h;subst e1;subst e2;obtain⟨t,rfl⟩:=r1;obtain⟨t',rfl⟩:=r2;exact isub_int ⟨.int _,H,I.tok _,⟨_,rfl⟩,q⟩
end
section
variable {X:Cx}{pos:Pos}
abbrev LM (c:TT)(tb:TS):TS:=λD σ H=>∃W:Nat->St->Hp->Prop,(∃m,W m σ H)/\∀m σ H,W m σ H ->
 c σ H λb H1=>if b=true then ∃N:St->Hp->Prop,(∀σ' H',N σ' H'->∃m',m'<m/\W m' σ' H')/\tb { D with nx:=N,ct:=N,bk:=D.nx } σ H1 else D.nx σ H1
def Kc{c:aE}{tc:TT}{tb:TS}(hp:PassesOwn (model X.prog X.w) X.A X.env X.xe)(hc:PT X c tc)(hb:zN X body tb):PS X (.While c body [] pos) (LM tc tb):=by
 ksr_p;obtain⟨W,⟨m0,w0⟩,turn⟩:=h;refine wpAny_While (codeAny_whileLoop (λn s'=>∃σ' H',Inv X pins σ' H' s'/\W n σ' H') ?_ m0 ⟨σ,H,I,w0⟩);rintro n s1 ⟨σ1,H1,I1,w1⟩;refine eE hp (kR (hc pins s1 σ1 H1 _ I1 (turn n σ1 H1 w1)) λb s2 ⟨H2,I2,q2⟩=>?_)
 cases b with
 | true=>
  obtain⟨N,hN,q2⟩:=q2;rw[aN rfl];refine eE hp (kR (hb pins s2 σ1 H2 _ I2 q2) λf s3 q3=>?_)
  cases f with
  | next=>
   obtain⟨σ3,H3,I3,n3⟩:=q3;obtain⟨m',hm,w3⟩:=hN σ3 H3 n3;exact⟨m',hm,σ3,H3,I3,w3⟩
  | cont=>
   obtain⟨σ3,H3,I3,n3⟩:=q3;obtain⟨m',hm,w3⟩:=hN σ3 H3 n3;exact⟨m',hm,σ3,H3,I3,w3⟩
  | brk=>exact q3
  | ret v=>exact q3
 | false=>
  rw[aM aY];exact iG ⟨σ1,H2,I2,q2⟩
end
structure It where
 go:Nat->Hp->Prop
 yld:Nat->Hp->V->Hp->Prop
 stop:Nat->Hp->Prop
abbrev rC (X:Cx)(pins:bj)(H:Hp)(b:ak):Prop:=
 H b=none/\b≠X.env.locals/\b∉X.fs/\(b∈X.ex\/X.s₀.heap.objs.size<=b)/\(∀x c,X.env.cells.lookup x=some c->c≠b)/\∀p∈X.pn++pins,p.1≠b
def Inv.GF{X:Cx}{H H':Hp}{s:aC}(I:Inv X pins σ H s)(hb:s.heap.objs.size<=b)(hn:H' b=none):rC X pins H' b:=by
 refine⟨hn,ne_of_gt (bM I.lt hb),I.VH hb,.inr (bV I.sz hb),λx c e z=>?_,λp hp z=>?_⟩
 ·obtain⟨v,q⟩:=I.cell x c e;exact absurd (bM q.lt (by rw[z];exact hb)) (fF _)
 ·exact absurd (bM (aX (I.pin p hp).1) (by rw[z];exact hb)) (fF _)
structure Turn (P:aj)(w:ah)(K:au)(tg:aE)(J:It)(fp:ar)(it:ak)(tn:Nat->aq->Prop):Prop where
 mem:it∈fp
 obj:∀i h,tn i h->∀b∈fp,∃o,h.get? b=some o/\∀v,o.data≠.cell v
 keep:∀i h h',tn i h->(∀b∈fp,∀o,h.get? b=some o->h'.get? b=some o)->tn i h'
 item:∀(X:Cx),X.prog=P->X.w=w->X.K=K->X.calm=true->∀(i:Nat) (pins:bj) (s:aC) (σ:St) (H:Hp) (E:af->aC->Prop),Inv X pins σ H s->(∀b∈fp,rC X pins H b)->tn i s.heap->J.go i H ->
  wpAny (model P w) X.A (pyNext (.ref it)) (λr s1=>∃u,r=some u /\
   wpAny (model P w) X.A (letOwnedTupleGo tg (.ref it) u) (λ_ s2=>∃x H',Inv X pins σ H' s2/\RelV x u/\J.yld i H x H'/\tn (i+1) s2.heap/\∀b∈fp,H' b=none) E s1) E s
 done:∀(X:Cx),X.prog=P->X.w=w->X.K=K->X.calm=true->∀(i:Nat) (pins:bj) (s:aC) (σ:St) (H:Hp) (E:af->aC->Prop),Inv X pins σ H s->(∀b∈fp,rC X pins H b)->tn i s.heap->J.stop i H ->
  wpAny (model P w) X.A (pyNext (.ref it)) (λr s1=>r=none/\Inv X pins σ H s1) E s
 self:∀(A:aA) (i:Nat) (s:aC) (Q:af->aC->Prop) (E:af->aC->Prop),tn i s.heap->Q (.ref it) s->wpAny (model P w) A (pyIter (.ref it)) Q E s
meta abbrev TI:=St->Hp->(It->Hp->Prop)->Prop
abbrev Wy (X:Cx)(pins:bj)(σ:St)(tg:aE)(R:It->Hp->Prop)(itv:af)(s2:aC):Prop:=
 ∃(it:ak) (fp:ar) (tn:Nat->aq->Prop) (J:It) (H':Hp),itv=.ref it/\Inv X pins σ H' s2/\Turn X.prog X.w X.K tg J fp it tn/\tn 0 s2.heap/\(∀b∈fp,rC X pins H' b)/\R J H'
abbrev PI (X:Cx)(tg iter:aE)(wi:TI):Prop:=
 ∀(pins:bj) (s:aC) (σ:St) (H:Hp) (R:It->Hp->Prop),Inv X pins σ H s->wi σ H R ->
  wpAny (model X.prog X.w) X.A (eval iter X.env) (λv s1=>wpAny (model X.prog X.w) X.A (pyIter v) (Wy X pins σ tg R) X.xe s1) X.xe s
def EJ{A:aA}{E:af->aC->Prop}{s:aC}{o:Obj}{n:String}{Q:Unit->aC->Prop}(ho:s.heap.get? it=some o)(hc:o.cls=.type n)(hd:o.data=.fields vs)
  (hn:["enumerate", "zip", "dict_itemiterator", "dict_reverseitemiterator", "odict_iterator", "itertools.zip_longest", "itertools.pairwise"].contains n=false) (hQ:Q Unit.unit s):wpAny M A (letOwnedTupleGo tg (.ref it) u) Q E s:=by
 unfold letOwnedTupleGo
 cases tg<;>first
  | exact aJ hQ
  | (cases u<;>first
    | exact aJ hQ
    | (refine aG (wpAny_load ho ?_)
       rw[hc,hd];show wpAny M A (if (["enumerate", "zip", "dict_itemiterator", "dict_reverseitemiterator", "odict_iterator", "itertools.zip_longest", "itertools.pairwise"].contains n && vs[0]? == some (rawInt _))=true then _ else _) Q E s;rw[aM (by intro h;rw[hn,Bool.false_and]at h;cases h)];exact aJ hQ))
abbrev UX (K:au)(a:ak):It:=
 ⟨λi H=>∃xs x,nB K H a xs/\xs[i]?=some x,λi H x H'=>H'=H/\∀xs,nB K H a xs->xs[i]?=some x,λi H=>∃xs,nB K H a xs/\xs.length<=i⟩
abbrev Vz (K:au)(a:ak):It:=
 ⟨λi H=>∃xs x,m9 K H a xs/\xs[i]?=some x,λi H x H'=>H'=H/\∀xs,m9 K H a xs->xs[i]?=some x,λi H=>∃xs,m9 K H a xs/\xs.length<=i⟩
abbrev Tj (lo:Int)(n:Nat):It:=⟨λi _=>i<n,λi H x H'=>H'=H/\x=.int (lo+i),λi _=>n<=i⟩
def G5{P:aj}{w:ah}{K:au}(a it:ak):Turn P w K tg (UX K a) [it] it (λi h=>h.IsListIter it a i) where
 mem:=by simp
 obj:=λi h st b hb=>by
  have e:b=it:=by simpa using hb
  subst e;obtain⟨o,e,c,d⟩:=st;exact⟨o,e,λv z=>by rw[d]at z;cases z⟩
 keep:=λi h h' st k=>st.at λo e=>k it (by simp) o e
 item:=by
  k_ne;subst hP hw hK;obtain⟨xs,x,hq,hx⟩:=hg;obtain⟨its,rv,p,hz⟩:=I.list hq;obtain⟨u,hu,ru⟩:=rv.get hx;gp_on;refine wpAny_pyNext_list_item st p.isList (x:=u) (by simpa using hu) λh' st' sb=>?_;have I1:Inv X pins σ H { s with heap:=h' }:=I.turned (t':=s.toks) (λb o hb e=>(sb.2 b hb).trans e) f0 f1 f3 f4 f5;obtain⟨o,e,c,d⟩:=id st';exact⟨u,rfl,EJ (s:={ s with heap:=h' }) e c d ⋯ ⟨x,H,I1,ru,⟨rfl,λys hy=>by rw[I.Jt hy hq];exact hx⟩,st',λb hb=>(hf b hb).1⟩⟩
 done:=by
  k_ne;subst hP hw hK;obtain⟨xs,hq,hx⟩:=hg;obtain⟨its,rv,p,hz⟩:=I.list hq;gp_on;have hl:=rv.length;exact wpAny_pyNext_list_end (I.ok.hd hc) st p.isList (by simp;omega) λh' eb=>⟨rfl,I.turned (t':=s.toks) (λb o hb e=>eb b o hb e) f0 f1 f3 f4 f5⟩
 self:=λ_ _ _ _ _ st h=>wpAny_pyIter_listiter st h
def CF{P:aj}{w:ah}{K:au}(a it:ak):Turn P w K tg (Vz K a) [it] it (λi h=>h.IsTupleIter it a i) where
 mem:=by simp
 obj:=λi h st b hb=>by
  have e:b=it:=by simpa using hb
  subst e;obtain⟨o,e,c,d⟩:=st;exact⟨o,e,λv z=>by rw[d]at z;cases z⟩
 keep:=λi h h' st k=>st.at λo e=>k it (by simp) o e
 item:=by
  k_ne;subst hP hw hK;obtain⟨xs,x,hq,hx⟩:=hg;obtain⟨its,rv,p,hz⟩:=I.tuple hq;obtain⟨u,hu,ru⟩:=rv.get hx;gp_on;refine wpAny_pyNext_tuple_item st (show s.heap.IsTuple a its.toArray from p) (x:=u) (by simpa using hu) λh' st' sb=>?_;have I1:Inv X pins σ H { s with heap:=h' }:=I.turned (t':=s.toks) (λb o hb e=>(sb.2 b hb).trans e) f0 f1 f3 f4 f5;obtain⟨o,e,c,d⟩:=id st';exact⟨u,rfl,EJ (s:={ s with heap:=h' }) e c d ⋯ ⟨x,H,I1,ru,⟨rfl,λys hy=>by rw[I.y9 hy hq];exact hx⟩,st',λb hb=>(hf b hb).1⟩⟩
 done:=by
  k_ne;subst hP hw hK;obtain⟨xs,hq,hx⟩:=hg;obtain⟨its,rv,p,hz⟩:=I.tuple hq;gp_on;have hl:=rv.length;exact wpAny_pyNext_tuple_end (I.ok.hd hc) st (show s.heap.IsTuple a its.toArray from p) (by simp;lia) λh' eb=>⟨rfl,I.turned (t':=s.toks) (λb o hb e=>eb b o hb e) f0 f1 f3 f4 f5⟩
 self:=λ_ _ _ _ _ st h=>wpAny_pyIter_tupleiter st h
def C5{P:aj}{w:ah}{K:au}(it:ak)(lo:Int)(n:Nat):Turn P w K tg (Tj lo n) [it] it (λi h=>IsRangeIter h it (lo+(i:Nat) * 1) ((n:Int)-(i:Nat)) 1) where
 mem:=by simp
 obj:=λi h st b hb=>by
  have e:b=it:=by simpa using hb
  subst e;exact⟨_,st,λv z=>by
   have z':Data.fields _=Data.cell v:=z
   cases z'⟩
 keep:=λi h h' st k=>k it (by simp) _ st
 item:=by
  k_ne;subst hP hw hK;gp_on;have W:=Walks.range (prog:=X.prog) (w:=X.w) (I.ok.hd hc) it lo 1 n;refine W.item i s _ _ hg st λv h' tk hv st' kk=>?_;obtain⟨t,rfl⟩:=hv;have I1:Inv X pins σ H { s with heap:=h',toks:=tk }:=I.turned (λb o hb e=>kk b o (by simpa using hb) e) f0 f1 f3 f4 f5;refine⟨_,rfl,EJ (s:={ s with heap:=h',toks:=tk }) (n := "range_iterator") st' rfl rfl ⋯ ⟨.int (lo+i),H,I1,⟨t,?_⟩,⟨rfl,rfl⟩,st',λb hb=>(hf b hb).1⟩⟩;rw[Int.mul_one]
 done:=by
  k_ne;subst hP hw hK;gp_on;exact wpAny_pyNext_range_end (I.ok.hd hc) st (by have:n<=i:=hg;lia) λh' eb=>⟨rfl,I.turned (t':=s.toks) (λb o hb e=>eb b o hb e) f0 f1 f3 f4 f5⟩
 self:=λ_ _ _ _ _ st h=>wpAny_pyIter_rangeiter st h
section
variable {X:Cx}{tg:aE}
abbrev T6 (K:au)(tl:TE):TI:=λσ H R=>tl σ H λx H1=>∃a,x=.ref a/\(∃xs,nB K H1 a xs)/\R (UX K a) H1
abbrev Vd (K:au)(tl:TE):TI:=λσ H R=>tl σ H λx H1=>∃a,x=.ref a/\(∃xs,m9 K H1 a xs)/\R (Vz K a) H1
def Fq{tl:TE}(hl:PE X l tl):PI X tg l (T6 X.K tl):=by
 intro pins s σ H R I h;refine kR (hl pins s σ H _ I h) λv s1 ⟨x,H1,I1,r1,q1⟩=>?_;obtain⟨a,e,⟨xs,hq⟩,q⟩:=q1;subst e
 cases r1
 obtain⟨its,rv,p,hz⟩:=I1.list hq;refine i9 p.isList ?_;refine⟨s1.heap.objs.size,[s1.heap.objs.size],_,_,H1,rfl,I1.kept (t':=s1.toks) λb o e=>aO _ e,G5 a _,⟨_,bg _ rfl,rfl,rfl⟩,λb hb=>?_,q⟩;have e:b=s1.heap.objs.size:=by simpa using hb
 subst e;exact I1.GF (aP _) (I1.hok.fresh (aP _))
def Hu{tl:TE}(hl:PE X l tl):PI X tg l (Vd X.K tl):=by
 intro pins s σ H R I h;refine kR (hl pins s σ H _ I h) λv s1 ⟨x,H1,I1,r1,q1⟩=>?_;obtain⟨a,e,⟨xs,hq⟩,q⟩:=q1;subst e
 cases r1
 obtain⟨its,rv,p,hz⟩:=I1.tuple hq;refine wpAny_pyIter_tuple (show s1.heap.IsTuple a its.toArray from p) ?_;refine⟨s1.heap.objs.size,[s1.heap.objs.size],_,_,H1,rfl,I1.kept (t':=s1.toks) λb o e=>aO _ e,CF a _,⟨_,bg _ rfl,rfl,rfl⟩,λb hb=>?_,q⟩;have e:b=s1.heap.objs.size:=by simpa using hb
 subst e;exact I1.GF (aP _) (I1.hok.fresh (aP _))
def Bk{H:Hp}{s:aC}{R:It->Hp->Prop}{E:af->aC->Prop}{lo hi:Int}{t v:Tok}{tk:Nat}(I:Inv X pins σ H s)(h1:-(2 ^ 62)<=lo)(h2:lo<2 ^ 62)(h3:-(2 ^ 62)<=hi)(h4:hi<2 ^ 62)
  (q:R (Tj lo (hi-lo).toNat) H):wpAny (model X.prog X.w) X.A (pyIter (.ref s.heap.objs.size)) (Wy X pins σ tg R) E { s with heap:=s.heap.push { cls:=.type "range",data:=.fields #[.int lo t,.int hi u,.int 1 v]},toks:=tk }:=by
 refine wpAny_pyIter_range (IsRange.new ..) (small_one h1 h2 h3 h4) ?_;have I1:Inv X pins σ H { s with heap:=s.heap.push { cls:=.type "range",data:=.fields #[.int lo t,.int hi u,.int 1 v]},toks:=tk }:=I.kept λb o e=>aO _ e;refine⟨(s.heap.push { cls:=.type "range",data:=.fields #[.int lo t,.int hi u,.int 1 v]}).objs.size,[(s.heap.push { cls:=.type "range",data:=.fields #[.int lo t,.int hi u,.int 1 v]}).objs.size],_,_,H,rfl,
  I1.kept (t':=tk) λb o e=>aO _ e,C5 _ lo (hi-lo).toNat,?_,λb hb=>?_,q⟩
 ·have e1:lo+((0:Nat):Int) * 1=lo:=by simp
  have e2:(((hi-lo).toNat:Nat):Int)-((0:Nat):Int)=Builtin.Range.rangeSize lo hi 1:=by rw[rangeSize_one];split<;>lia
  skip
  rw[e1,e2];exact bg _ rfl
 ·have e:b=(s.heap.push { cls:=.type "range",data:=.fields #[.int lo t,.int hi u,.int 1 v]}).objs.size:=by simpa using hb
  subst e;exact I1.GF (aP _) (I1.hok.fresh (aP _))
abbrev oh (ta:TA):TI:=λσ H R=>ta σ H λvs H1=>∃j:Int,vs=[.int j]/\-(2 ^ 62)<=j/\j<2 ^ 62/\R (Tj 0 j.toNat) H1
abbrev om (ta:TA):TI:=λσ H R=>ta σ H λvs H1=>∃i j:Int,vs=[.int i,.int j]/\(-(2 ^ 62)<=i/\i<2 ^ 62/\-(2 ^ 62)<=j/\j<2 ^ 62)/\R (Tj i (j-i).toNat) H1
def GG{a:aE}{ta:TA}{p:Pos}(hg:Gl X "range")(hm:X.mg "range" = none)(ha:PA X [a] ta)(hs:starEach [a] X.env=[(false,eval a X.env)]:=by rfl):PI X tg (.Call (.Name "range" p) [a] [] pos) (oh ta):=by
 intro pins s σ H R I h;refine Call_ (w4 I hg hm boot_range (fJ (kR (ha pos pins s σ H _ I h) λus s1 ⟨vs,H1,I1,r1,q1⟩=>?_) hs rfl));obtain⟨j,e,q1,q2,q⟩:=q1;subst e
 cases r1 with
 | cons r rr=>
  cases rr
  obtain⟨t,rfl⟩:=r;exact call_range_1 (Bk I1 () () q1 q2 (by simpa using q))
def GN{a b:aE}{ta:TA}{p:Pos}(hg:Gl X "range")(hm:X.mg "range" = none)(ha:PA X [a,b] ta)(hs:starEach [a,b] X.env=[(false,eval a X.env),(false,eval b X.env)]:=by rfl)(hs2:starEach [b] X.env=[(false,eval b X.env)]:=by rfl) :
  PI X tg (.Call (.Name "range" p) [a,b] [] pos) (om ta):=by
 intro pins s σ H R I h;refine Call_ (w4 I hg hm boot_range (fJ (kR (ha pos pins s σ H _ I h) λus s1 ⟨vs,H1,I1,r1,q1⟩=>?_) (by rw[hs,hs2]) (by rw[hs2];rfl)));obtain⟨i,j,e,⟨q1,q2,q3,q4⟩,q⟩:=q1;subst e
 cases r1 with
 | cons r rr=>
  cases rr with
  | cons r' rr=>
   cases rr
   obtain⟨t,rfl⟩:=r;obtain⟨t',rfl⟩:=r';exact call_range_2 (Bk I1 q1 q2 q3 q4 q)
abbrev VG (wi:TI)(g:TG)(tb:TS):TS:=λD σ H=>wi σ H λJ H1=>∃W:Nat->Nat->St->Hp->Prop,(∃m,W 0 m σ H1)/\∀i m σ H,W i m σ H ->
 (J.stop i H/\D.nx σ H)\/(J.go i H/\∃N:St->Hp->Prop,(∀σ' H',N σ' H'->∃m',m'<m/\W (i+1) m' σ' H')/\∀x H',J.yld i H x H'->g x σ H' λσ2 H2=>tb { D with nx:=N,ct:=N,bk:=D.nx } σ2 H2)
abbrev tU (fp:ar)(h:aq):bj:=fp.filterMap λb=>(h.get? b).map λo=>(b,o)
def lC{fp:ar}{h:aq}{b:ak}(hb:b∈fp)(e:h.get? b=some o):(b,o)∈tU fp h:=List.mem_filterMap.mpr ⟨b,hb,by rw[e];rfl⟩
def Gj{fp:ar}{h:aq}{p:ak×Obj}(hp:p∈tU fp h):p.1∈fp/\h.get? p.1=some p.2:=by
 obtain⟨b,hb,e⟩:=List.mem_filterMap.mp hp
 cases q:h.get? b with
 | none=>rw[q]at e;cases e
 | some o=>
  rw[q]at e;have e':(b,o)=p:=aW e;subst e';exact⟨hb,q⟩
def Inv.pinned{H:Hp}{s:aC}{fp:ar}(I:Inv X pins σ H s)(hf:∀b∈fp,rC X pins H b)(ho:∀b∈fp,∃o,s.heap.get? b=some o/\∀v,o.data≠.cell v):Inv X (pins++tU fp s.heap) σ H s:=
 I.DH λp hp=>(bq.mp hp).elim (λz=>I.pin p (a_ _ z)) λz=>by
  obtain⟨hb,e⟩:=Gj z;obtain⟨f0,f1,f2,_⟩:=hf p.1 hb;obtain⟨o,e',d⟩:=ho p.1 hb;rw[e]at e';cases e';exact⟨e,f0,f1,f2,d⟩
def Inv.oJ{pl:bj}{H:Hp}(I:Inv X (pins++pl) σ H s):Inv X pins σ H s:=I.DH λp hp=>I.pin p (a_ _ (bN _ hp))
def P7{iter:aE}{wi:TI}{g:TG}{tb:TS}(hp:PassesOwn (model X.prog X.w) X.A X.env X.xe)(hc:X.calm=true)(hi:PI X tg iter wi)(hg:PG X tg g)(hb:zN X body tb)
  (hs:∀x,foldedSetIterable iter X.env x=pure x:=by intro _;rfl):PS X (.For tg iter body [] pos) (VG wi g tb):=by
 ksr_p;refine wpAny_For (kR (hi pins s σ H _ I h) λv s1 h1=>kR h1 λitv s2 h2=>?_) hs;obtain⟨it,fp,tn,J,H2,e,I2,T,st2,f2,W,⟨m0,w0⟩,turn⟩:=h2;subst e;have stat:∀{H':Hp},(∀b∈fp,H' b=none)->∀b∈fp,rC X pins H' b:=λhn b hb=>⟨hn b hb,(f2 b hb).2⟩;refine codeAny_forLoop_any (λn s'=>∃i σ' H',Inv X pins σ' H' s'/\tn i s'.heap/\(∀b∈fp,H' b=none)/\W i n σ' H') ?_ m0 ⟨0,σ,H2,I2,st2,λb hb=>(f2 b hb).1,w0⟩;rintro n s3 ⟨i,σ3,H3,I3,st3,fr3,w3⟩
 rcases turn i n σ3 H3 w3 with⟨stop,qn⟩|⟨go,N,hN,step⟩
 ·refine eE hp (kR (T.done X rfl rfl rfl hc i pins s3 σ3 H3 X.xe I3 (stat fr3) st3 stop) λr s4 ⟨hr,I4⟩=>?_);subst hr;exact iG ⟨σ3,H3,I4,qn⟩
 ·refine eE hp (kR (T.item X rfl rfl rfl hc i pins s3 σ3 H3 X.xe I3 (stat fr3) st3 go) λr s4 ⟨u,hr,h4⟩=>?_);subst hr;refine eE hp (kR h4 λ_ s5 ⟨x,H5,I5,r5,y5,st5,fr5⟩=>?_);have I5':=I5.pinned (stat fr5) (T.obj _ _ st5);refine eE hp (kR (hg _ s5 σ3 H5 x u _ I5' r5 (step x H5 y5)) λ_ s6 ⟨σ6,H6,I6,q6⟩=>?_);refine eE hp (kR (hb _ s6 σ6 H6 _ I6 q6) λf s7 q7=>?_);have again:∀{σ7:St} {H7:Hp},Inv X (pins++tU fp s5.heap) σ7 H7 s7->N σ7 H7->∃m,m<n/\∃i σ' H',Inv X pins σ' H' s7/\tn i s7.heap/\(∀b∈fp,H' b=none)/\W i m σ' H':=λ{σ7 H7} I7 n7=>by
   obtain⟨m',hm,w7⟩:=hN σ7 H7 n7;refine⟨m',hm,i+1,σ7,H7,I7.oJ,T.keep _ _ _ st5 λb hb o e=>(I7.pin (b,o) (a_ _ (a_ _ (lC hb e)))).1,λb hb=>?_,w7⟩;obtain⟨o,e,d⟩:=T.obj _ _ st5 b hb;exact(I7.pin (b,o) (a_ _ (a_ _ (lC hb e)))).2.1
  cases f with
  | next=>obtain⟨σ7,H7,I7,n7⟩:=q7;exact again I7 n7
  | cont=>obtain⟨σ7,H7,I7,n7⟩:=q7;exact again I7 n7
  | brk=>obtain⟨σ7,H7,I7,q7⟩:=q7;exact⟨σ7,H7,I7.oJ,q7⟩
  | ret v=>obtain⟨x7,σ7,H7,I7,r7,q7⟩:=q7;exact⟨x7,σ7,H7,I7.oJ,r7,q7⟩
end
def qQ{c:TT}{tb:TS}{D:Ends}{H:Hp}(Pv:St->Hp->Prop)(μ:St->Hp->Nat)(h0:Pv σ H)
  (hs:∀σ H,Pv σ H->c σ H λb H1=>if b=true then tb { D with nx:=λσ' H'=>Pv σ' H'/\μ σ' H'<μ σ H,ct:=λσ' H'=>Pv σ' H'/\μ σ' H'<μ σ H,bk:=D.nx } σ H1 else D.nx σ H1)
  (mono:∀σ H Q Q',(∀b H1,Q b H1->Q' b H1)->c σ H Q->c σ H Q'):LM c tb D σ H:=by
 refine⟨λm σ H=>m=μ σ H/\Pv σ H,⟨_,rfl,h0⟩,?_⟩;rintro m σ H ⟨rfl,p⟩;refine mono σ H _ _ (λb H1 q=>?_) (hs σ H p)
 cases b with
 | true=>exact⟨_,λσ' H' ⟨p',l⟩=>⟨_,l,rfl,p'⟩,q⟩
 | false=>exact q
meta abbrev R2:=V->V->Hp->VK->Prop
abbrev n8 (X:Cx)(f:af->af->Sem af)(r:R2):Prop:=
 ∀(pins:bj) (s:aC) (σ:St) (H:Hp) (x y:V) (v u:af) (Q:VK),Inv X pins σ H s->RelV x v->RelV y u->r x y H Q ->
  wpAny (model X.prog X.w) X.A (f v u) (EP X pins σ Q) X.xe s
abbrev US (X:Cx)(f:af->Sem af)(r:V->Hp->VK->Prop):Prop:=
 ∀(pins:bj) (s:aC) (σ:St) (H:Hp) (x:V) (v:af) (Q:VK),Inv X pins σ H s->RelV x v->r x H Q ->
  wpAny (model X.prog X.w) X.A (f v) (EP X pins σ Q) X.xe s
abbrev j5 (X:Cx)(f:af)(r:List V->Hp->VK->Prop):Prop:=
 ∀(pins:bj) (s:aC) (σ:St) (H:Hp) (xs:List V) (us:ap) (Q:VK),Inv X pins σ H s->Vals xs us->r xs H Q ->
  wpAny (model X.prog X.w) X.A (call f us) (EP X pins σ Q) X.xe s
abbrev V5 (X:Cx)(r:V->Hp->(Bool->Hp->Prop)->Prop):Prop:=
 ∀(pins:bj) (s:aC) (σ:St) (H:Hp) (x:V) (v:af) (Q:Bool->Hp->Prop),Inv X pins σ H s->RelV x v->r x H Q ->
  wpAny (model X.prog X.w) X.A (truthy v) (TP X pins σ Q) X.xe s
abbrev Tr (r:R2)(ta tb:TE):TE:=λσ H Q=>ta σ H λx H1=>tb σ H1 λy H2=>r x y H2 Q
abbrev Ww (r:V->Hp->VK->Prop)(ta:TE):TE:=λσ H Q=>ta σ H λx H1=>r x H1 Q
abbrev rI (C:Int->Int->Prop)(g:Int->Int->V):R2:=λx y H Q=>∃i j,x=.int i/\y=.int j/\C i j/\Q (g i j) H
abbrev Qi (g:Int->Int->V):R2:=λx y H Q=>∃i j,x=.int i/\y=.int j/\Q (g i j) H
abbrev rU (g:Int->V):V->Hp->VK->Prop:=λx H Q=>∃i,x=.int i/\Q (g i) H
section
variable {X:Cx}{a b:aE}{ta tb:TE}{pos:Pos}
def QK(ha:PE X a ta)(hb:PE X b tb){H:Hp}{R:V->V->Hp->Prop}(I:Inv X pins σ H s)
  (h:ta σ H λx H1=>tb σ H1 λy H2=>R x y H2) {Q:af->aC->Prop} {f:af->af->Sem af}
  (hf:∀v u s2 x y H2,Inv X pins σ H2 s2->RelV x v->RelV y u->R x y H2->wpAny (model X.prog X.w) X.A (f v u) Q X.xe s2) :
  wpAny (model X.prog X.w) X.A (eval a X.env) (λv s₁=>wpAny (model X.prog X.w) X.A (eval b X.env) (λu s₂=>wpAny (model X.prog X.w) X.A (f v u) Q X.xe s₂) X.xe s₁) X.xe s:=by
 refine kR (ha pins s σ H _ I h) λv s1 ⟨x,H1,I1,r1,q1⟩=>?_;refine kR (hb pins s1 σ H1 _ I1 q1) λu s2 ⟨y,H2,I2,r2,q2⟩=>?_;exact hf v u s2 x y H2 I2 r1 r2 q2
def T7{r:R2}(ho:n8 X (binaryOp op) r)(ha:PE X a ta)(hb:PE X b tb):PE X (.BinOp a op b pos) (Tr r ta tb):=by
 x_go;exact wpAny_BinOp (QK ha hb I h λv u s2 x y H2 I2 rx ry q=>ho pins s2 σ H2 x y v u Q I2 rx ry q)
def J7{r:V->Hp->VK->Prop}(ho:US X (unaryOp op) r)(ha:PE X a ta):PE X (.UnaryOp op a pos) (Ww r ta):=by
 x_go;exact UnaryOp_ (kR (ha pins s σ H _ I h) λv s1 ⟨x,H1,I1,r1,q1⟩=>ho pins s1 σ H1 x v Q I1 r1 q1)
def UM{f:af->af->Sem af}{C:Int->Int->Prop}{g:Int->Int->Int}
  (rule:∀(i j:Int) (t u:Tok) (s:aC) (Q:af->aC->Prop) (E:af->aC->Prop),C i j->Q (.int (g i j) s.toks) { s with toks:=s.toks+1 }->wpAny (model X.prog X.w) X.A (f (.int i t) (.int j u)) Q E s) :
  n8 X f (rI C λi j=>.int (g i j)):=by
 gn_on;obtain⟨i,j,rfl,rfl,hc,q⟩:=h;kl_no;obtain⟨t',rfl⟩:=ry;exact rule i j t t' s _ _ hc ⟨.int (g i j),H,I.tok _,⟨_,rfl⟩,q⟩
def Uw{f:af->af->Sem af}{g:Int->Int->Int}
  (rule:∀(i j:Int) (t u:Tok) (s:aC) (Q:af->aC->Prop) (E:af->aC->Prop),Q (.int (g i j) s.toks) { s with toks:=s.toks+1 }->wpAny (model X.prog X.w) X.A (f (.int i t) (.int j u)) Q E s) :
  n8 X f (Qi λi j=>.int (g i j)):=by
 gn_on;obtain⟨i,j,rfl,rfl,q⟩:=h;kl_no;obtain⟨t',rfl⟩:=ry;exact rule i j t t' s _ _ ⟨.int (g i j),H,I.tok _,⟨_,rfl⟩,q⟩
def P9{f:af->af->Sem af}{g:Int->Int->Bool}
  (rule:∀(i j:Int) (t u:Tok) (s:aC) (Q:af->aC->Prop) (E:af->aC->Prop),Q (.bool (g i j)) s->wpAny (model X.prog X.w) X.A (f (.int i t) (.int j u)) Q E s) :
  n8 X f (Qi λi j=>.bl (g i j)):=by
 gn_on;obtain⟨i,j,rfl,rfl,q⟩:=h;kl_no;obtain⟨t',rfl⟩:=ry;exact rule i j t t' s _ _ ⟨.bl (g i j),H,I,rfl,q⟩
abbrev VA (i j:Int):Prop:=0<=j/\j<=1000000/\i.natAbs<2 ^ 64
abbrev NV (i j:Int):Prop:=(-(2 ^ 64)<i/\i<2 ^ 64)\/(-(2 ^ 64)<j/\j<2 ^ 64)
def NV.ok{i j:Int}(h:NV i j):IntMulOk i j:=by
 rcases h with⟨h1,h2⟩|⟨h1,h2⟩
 ·exact .of_left (intBits_le_64 h1 h2)
 ·exact .of_right (intBits_le_64 h1 h2)
def Q2:n8 X (binaryOp .Add) (Qi λi j=>.int (i+j)):=Uw λ_ _ _ _ _ _ _ q=>add_int q
def Qz:n8 X (binaryOp .Sub) (Qi λi j=>.int (i-j)):=Uw λ_ _ _ _ _ _ _ q=>sub_int q
def Pp:n8 X (binaryOp .Mult) (rI NV λi j=>.int (i * j)):=UM λ_ _ _ _ _ _ _ hc q=>mul_int q hc.ok
def Rl:n8 X (binaryOp .Mod) (rI (λ_ j=>0<j) λi j=>.int (i % j)):=UM λi j _ _ _ _ _ hc q=>by
 have h1:(0:Int)<j:=hc;exact mod_int' () (by rw[Int.fmod_eq_emod_of_nonneg i ()];exact q)
def QD:n8 X (binaryOp .Pow) (rI VA λi j=>.int (i ^ j.toNat)):=UM λ_ _ _ _ _ _ _ hc q=>pow_int_small hc.1 hc.2.1 hc.2.2 q
def W2{f:af->Sem af}{g:Int->Int}
  (rule:∀(i:Int) (t:Tok) (s:aC) (Q:af->aC->Prop) (E:af->aC->Prop),Q (.int (g i) s.toks) { s with toks:=s.toks+1 }->wpAny (model X.prog X.w) X.A (f (.int i t)) Q E s) :
  US X f (rU λi=>.int (g i)):=by
 intro pins s σ H x v Q I rx h;obtain⟨i,rfl,q⟩:=h;kl_no;exact rule i t s _ _ ⟨.int (g i),H,I.tok _,⟨_,rfl⟩,q⟩
def CT:US X (unaryOp .USub) (rU λi=>.int (-i)):=W2 λ_ _ _ _ _ q=>neg_int q
end
section
variable {X:Cx}{a b c:aE}{ta tb tc:TE}{pos:Pos}
def Qd{H:Hp}{Q:VK}{k:Bool}(I:Inv X pins σ H s)(q:Q (.bl k) H)(e:k=k'):EP X pins σ Q (.bool k') s:=by
 subst e;exact⟨.bl k,H,I,rfl,q⟩
def SO:n8 X (compareOp .Lt) (Qi λi j=>.bl (decide (i<j))):=P9 λ_ _ _ _ _ _ _ q=>lt_int q
def TF:n8 X (compareOp .LtE) (Qi λi j=>.bl (decide (i<=j))):=P9 λ_ _ _ _ _ _ _ q=>le_int q
def T8:n8 X (compareOp .Gt) (Qi λi j=>.bl (decide (j<i))):=P9 λ_ _ _ _ _ _ _ q=>gt_int q
def PR:n8 X (compareOp .Is) (λx y H Q=>y=.non/\Q (.bl (decide (x=.non))) H):=by
 gn_on;obtain⟨rfl,q⟩:=h
 cases ry
 refine is_none_gen (Qd I q ?_)
 cases x<;>first
  | (cases rx;rfl)
  | (obtain⟨t,rfl⟩:=rx;rfl)
def Hv(b:aE)(h:op≠.In:=by decide)(h2:op≠.NotIn:=by decide):behindInMarks op b=false:=by
 have e1:(op == CmpOp.In)=false:=by cases op<;>first|rfl|exact absurd rfl h
 have e2:(op == CmpOp.NotIn)=false:=by cases op<;>first|rfl|exact absurd rfl h2
 cases b<;>simp[behindInMarks,e1,e2]
def Mw{op:CmpOp}{r:R2}(ho:n8 X (compareOp op) r)(ha:PE X a ta)(hb:PE X b tb)(hm:behindInMarks op b=false):PE X (.Compare a [op] [b] pos) (Tr r ta tb):=by
 x_go;exact wpAny_Compare1 (QK ha hb I h λv u s2 x y H2 I2 rx ry q=>ho pins s2 σ H2 x y v u Q I2 rx ry q) hm
abbrev Sy (t:TE):TT:=λσ H Q=>t σ H λx H'=>∃k,x=.bl k/\Q k H'
def MG{op:CmpOp}{r:R2}(ho:n8 X (compareOp op) r)(ha:PE X a ta)(hb:PE X b tb)(hm:behindInMarks op b=false):PT X (.Compare a [op] [b] pos) (Sy (Tr r ta tb)):=by
 x_go;refine wpAny_isTrue_Compare1 (kR (ha pins s σ H _ I h) λv s1 ⟨x,H1,I1,r1,q1⟩=>kR (hb pins s1 σ H1 _ I1 q1) λu s2 ⟨y,H2,I2,r2,q2⟩=>
  kR (ho pins s2 σ H2 x y v u _ I2 r1 r2 q2) λc s3 ⟨z,H3,I3,r3,k,e,q3⟩=>?_) hm
 subst e
 cases r3
 exact dz ⟨H3,I3,q3⟩
abbrev HA (r r':R2)(ta tb tc:TE):TE:=λσ H Q=>ta σ H λx H1=>tb σ H1 λy H2=>r x y H2 λz H3=>∃k,z=.bl k /\
 (if k=true then tc σ H3 λw' H4=>r' y w' H4 Q else Q (.bl false) H3)
def JB{r r':R2}(ho:n8 X (compareOp op) r)(ho':n8 X (compareOp op') r')(ha:PE X a ta)(hb:PE X b tb)(hc:PE X c tc)
  (hm:lastMarks [op,op'] [b,c]=false:=by with_unfolding_all rfl):PE X (.Compare a [op,op'] [b,c] pos) (HA r r' ta tb tc):=by
 x_go;refine Compare_chain (kR (ha pins s σ H _ I h) λv s1 ⟨x,H1,I1,r1,q1⟩=>chain_link (kR (hb pins s1 σ H1 _ I1 q1) λu s2 ⟨y,H2,I2,r2,q2⟩=>
  kR (ho pins s2 σ H2 x y v u _ I2 r1 r2 q2) λd s3 ⟨z,H3,I3,r3,k,e,q3⟩=>?_)) hm
 subst e
 cases r3
 refine dz ?_
 cases k with
 | false=>exact ite_ff ⟨.bl false,H3,I3,rfl,q3⟩
 | true=>exact ite_tt (chain_last (kR (hc pins s3 σ H3 _ I3 q3) λw' s4 ⟨z',H4,I4,r4,q4⟩=>ho' pins s4 σ H4 y z' u w' Q I4 r2 r4 q4))
abbrev QT (K:au)(x:V)(H:Hp)(k:Bool):Prop:=
 match x with
 | .non=>k=false
 | .bl b=>k=b
 | .int i=>k=(i != 0)
 | .str y=>y.length<=sizeLine/\k=((y.length:Int) != 0)
 | .byt y=>y.size<=sizeLine/\k=((y.size:Int) != 0)
 | .ref p=>(∃xs,nB K H p xs/\k=!xs.isEmpty)\/(∃xs,m9 K H p xs/\k=!xs.isEmpty)\/∃kvs,H p=some (.dK kvs)/\k=!kvs.isEmpty
 | _=>False
def CP{κ:Type}{kvs:List (κ×V)}{vs:List (κ×af)}(r:KV kvs vs):(!vs.isEmpty)=!kvs.isEmpty:=by
 cases r<;>rfl
def yt{xs:List V}{its:ap}(r:Vals xs its):(!its.toArray.isEmpty)=!xs.isEmpty:=by
 cases r<;>simp
def q_:(sizeLine:Nat)<2 ^ 63:=by rw[c5];decide
def Rb:V5 X (λx H Q=>∃k,QT X.K x H k/\Q k H):=by
 intro pins s σ H x v Q I rx h;obtain⟨k,e,q⟩:=h;have hl:=q_;have hs:sizeLine=16777216:=c5
 cases x with
 | non=>
  cases rx
  have e':k=false:=e;subst e';exact truthy_none ⟨H,I,q⟩
 | bl b=>
  cases rx
  have e':k=b:=e;subst e';exact dz ⟨H,I,q⟩
 | int i=>
  kl_no;have e':k=(i != 0):=e;subst e';exact PySem.P.truthy_int ⟨H,I,q⟩
 | str y=>
  kl_no;obtain⟨hy,e'⟩:y.length<=sizeLine/\k=((y.length:Int) != 0):=e;subst e';exact PySem.P.truthy_str () ⟨H,I.tok _,q⟩
 | byt y=>
  kl_no;obtain⟨hy,e'⟩:y.size<=sizeLine/\k=((y.size:Int) != 0):=e;subst e';exact PySem.W.truthy_bytes () ⟨H,I.tok _,q⟩
 | ref p=>
  cases rx
  have e':(∃xs,nB X.K H p xs/\k=!xs.isEmpty)\/(∃xs,m9 X.K H p xs/\k=!xs.isEmpty)\/∃kvs,H p=some (.dK kvs)/\k=!kvs.isEmpty:=e
  rcases e' with⟨xs,hx,e'⟩|⟨xs,hx,e'⟩|⟨kvs,hx,e'⟩
  ·subst e';obtain⟨its,r,pl,hz⟩:=I.list hx;have hlen:=r.length;exact wpAny_truthy_list pl.isList (by dsimp[aS];lia) ⟨H,I.tok _,by rw[yt r];exact q⟩
  ·subst e';obtain⟨its,r,pl,hz⟩:=I.tuple hx;have hlen:=r.length;exact truthy_tuple pl (by dsimp[aS];lia) ⟨H,I.tok _,by rw[yt r];exact q⟩
  ·subst e';obtain⟨hz,hS,vs,r,m⟩:kvs.length<=sizeLine/\(p == sysModules)=false/\∃vs,KV kvs vs/\s.heap.DictOf (kZ X.prog X.w) p vs:=I.hok p _ hx;have hlen:kvs.length=vs.length:=jb r;exact wpAny_truthy_dict hS m () ⟨H,I.tok _,by rw[CP r];exact q⟩
 | _=>exact(show False from e).elim
def Lv(ha:PE X a ta)(he:∀whole,isTrue a X.env whole=(do let v <- whole;standAt a.pos;holding [v] (truthy v))) :
  PT X a (λσ H Q=>ta σ H λx H'=>∃k,QT X.K x H' k/\Q k H'):=by
 x_go;exact isTrue_plain (kR (ha pins s σ H _ I h) λv s1 ⟨x,H1,I1,r1,q1⟩=>Rb pins s1 σ H1 x v Q I1 r1 q1) (he _)
def Cy:n8 X (binaryOp .Add) (λx y H Q=>∃i j,x=.str i/\y=.str j/\i.length+j.length<=sizeLine/\Q (.str (i++j)) H):=by
 gn_on;obtain⟨i,j,rfl,rfl,hz,q⟩:=h;kl_no;obtain⟨t',rfl⟩:=ry;exact add_str (λt' tk=>⟨.str (i++j),H,I.tok _,⟨_,rfl⟩,q⟩) hz
def vals1{x:V}(r:Vals [x] us):∃u,us=[u]/\RelV x u:=by
 cases r with
 | cons r1 r2=>cases r2;exact⟨_,rfl,r1⟩
def vals2{x:V}(r:Vals [x,y] us):∃u w',us=[u,w']/\RelV x u/\RelV y w':=by
 cases r with
 | cons r1 r2=>
  cases r2 with
  | cons r3 r4=>cases r4;exact⟨_,_,rfl,r1,r3⟩
def IA:j5 X (.builtin "abs") (λxs H Q=>∃i,xs=[.int i]/\Q (.int (if i<0 then -i else i)) H):=by
 w_up;obtain⟨i,rfl,q⟩:=h;obtain⟨u,rfl,t,rfl⟩:=vals1 r;exact call_abs_int λu tk=>⟨.int (if i<0 then -i else i),H,I.tok _,⟨_,rfl⟩,q⟩
def Gx(hc:X.calm=true):j5 X (.builtin "max") (λxs H Q=>∃i j,xs=[.int i,.int j]/\Q (.int (if j>i then j else i)) H):=by
 w_up;obtain⟨i,j,rfl,q⟩:=h;obtain⟨u,w',rfl,⟨t,rfl⟩,⟨t',rfl⟩⟩:=vals2 r;refine max_two_ints (I.ok.hd hc) λh' tk k=>⟨_,H,I.kept k,?_,q⟩;by_cases hj:j>i
 ·rw[aN hj,aN hj];exact⟨_,rfl⟩
 ·rw[aM hj,aM hj];exact⟨_,rfl⟩
def Gu(hc:X.calm=true):j5 X (.builtin "min") (λxs H Q=>∃i j,xs=[.int i,.int j]/\Q (.int (if j<i then j else i)) H):=by
 w_up;obtain⟨i,j,rfl,q⟩:=h;obtain⟨u,w',rfl,⟨t,rfl⟩,⟨t',rfl⟩⟩:=vals2 r;refine min_two_ints (I.ok.hd hc) λh' tk k=>⟨_,H,I.kept k,?_,q⟩;by_cases hj:j<i
 ·rw[aN hj,aN hj];exact⟨_,rfl⟩
 ·rw[aM hj,aM hj];exact⟨_,rfl⟩
abbrev V4 (K:au)(x:V)(H:Hp)(n:Nat):Prop:=
 match x with
 | .str y=>y.length<=sizeLine/\n=y.length
 | .byt y=>y.size<=sizeLine/\n=y.size
 | .ref p=>(∃xs,nB K H p xs/\n=xs.length)\/∃xs,m9 K H p xs/\n=xs.length
 | _=>False
def Jm:j5 X (.builtin "len") (λxs H Q=>∃x n,xs=[x]/\V4 X.K x H n/\Q (.int n) H):=by
 w_up;obtain⟨x,n,rfl,e,q⟩:=h;kcf_m;have hl:=q_;have hs:sizeLine=16777216:=c5
 cases x with
 | str y=>
  kl_no;obtain⟨hy,e'⟩:y.length<=sizeLine/\n=y.length:=e;subst e';exact len_str () ⟨.int _,H,I.tok _,⟨_,rfl⟩,q⟩
 | byt y=>
  kl_no;obtain⟨hy,e'⟩:y.size<=sizeLine/\n=y.size:=e;subst e';exact PySem.W.len_bytes () ⟨.int _,H,I.tok _,⟨_,rfl⟩,q⟩
 | ref p=>
  cases rx
  have e':(∃xs,nB X.K H p xs/\n=xs.length)\/∃xs,m9 X.K H p xs/\n=xs.length:=e
  rcases e' with⟨xs,hx,e'⟩|⟨xs,hx,e'⟩
  ·subst e';obtain⟨its,r',pl,hz⟩:=I.list hx;have hlen:=r'.length;exact Calls.call_len_list pl.isList (by dsimp[aS];lia) ⟨.int xs.length,H,I.tok _,⟨_,by dsimp[aS];rw[hlen]⟩,q⟩
  ·subst e';obtain⟨its,r',pl,hz⟩:=I.tuple hx;have hlen:=r'.length;exact len_tuple pl (by dsimp[aS];lia) ⟨.int xs.length,H,I.tok _,⟨_,by dsimp[aS];rw[hlen]⟩,q⟩
 | _=>exact(show False from e).elim
end
structure ObjM (h:aq)(x dx C:ak)(mA:Str->ba):Prop where
 obj:h.get? x=some (PySem.W.instObj C dx)
 ns:h.Ns1 dx mA
 ne:dx≠x
def GZ{h:aq}{mA:Str->ba}(n:h.Ns1 dx mA):∃od,h.get? dx=some od/\∀name,PySem.W.lookIn name od=some (mA name):=by
 obtain⟨o,es,ep,ho,hd,hk,_,hm⟩:=n;refine⟨o,ho,λname=>?_⟩;have e:=hm name;unfold nsFind findBy at e;rw[<- Array.find?_toList]at e;unfold PySem.W.lookIn;rw[hd];dsimp only;split
 ·rename_i y q;rw[q]at e;exact dJ some e
 ·rename_i q;rw[q]at e;have a:es.toList.any (·.refKey)=false:=by
   rw[List.any_eq_false];intro y hy;obtain⟨z,t,hkey⟩:=hk y (Array.mem_toList_iff.mp hy);simp[DictEntry.refKey,hkey]
  have a':¬es.toList.any (·.refKey)=true:=by rw[a];exact aY
  rw[aM a'];exact dJ some e
def ObjM.look{x:ak}{mA:Str->ba}(I:ObjM h x dx C mA):∃od,PySem.W.InstAt h x (PySem.W.instObj C dx) C (some od)/\∀name,PySem.W.lookIn name od=some (mA name):=
 let⟨od,ho,hl⟩:=GZ I.ns
 ⟨od,⟨I.obj,rfl,rfl,ho⟩,hl⟩
def xO.some_of{v:V}(r:xO (some v) o):∃u,o=some u/\RelV v u:=by
 cases o with
 | none=>exact(show False from r).elim
 | some u=>exact⟨u,rfl,r⟩
section
variable {P:aj}{w:ah}{H:Hp}{h:aq}{a C dx:ak}{fs:List (Str×V)}
def NB(hok:tZ P w H h)(e:H a=some (.ins C dx fs)):∃mA,ObjM h a dx C mA/\(∀f,xO (fs.lookup f) (mA f))/\PySem.Within mA (fs.map (·.1))/\fs.length<=1000/\H dx=some (.own a):=by
 obtain⟨d,z,ne,ob,mA,n,r,q⟩:=(show kP P w H h a (.ins C dx fs)from hok a _ e);exact⟨mA,⟨ob,n,ne⟩,r,q,z,d⟩
end
structure Cls (K:au)(C:ak):Prop where
 pg:PySem.W.plainGet K C Str.empty=true
 hd:PySem.W.hasDictIn K C=true
 po:PySem.W.plainOver K C=true
 sa:PySem.W.findIn K (.ref C) "__setattr__" = some (some (.builtin "object.__setattr__"))
def Cls.get{K:au}(c:Cls K C)(f:Str):PySem.W.plainGet K C f=true:=c.pg
structure Con (K:au)(C:ak)(f:Str)(v:V)(u:af):Prop where
 at_:PySem.W.findIn K (.ref C) f=some (some u)
 rel:RelV v u
 get:PySem.W.specialIn K u "__get__" = some none
 cp:PySem.W.copiedNames.contains f=false
structure Meth (K:au)(C:ak)(m:Str)(f:ak):Prop where
 at_:PySem.W.findIn K (.ref C) m=some (some (.ref f))
 fn:PySem.W.isFn K (.ref f)=true
 kp:PySem.W.keepIn K (.ref f)=true
section
variable {X:Cx}{pins:bj}{σ:St}{H:Hp}{s:aC}{A:aA}{E:af->aC->Prop}{Q:af->aC->Prop}{c:af}{b:Bool}
inductive TyOf (K:au) (H:Hp):V->af->Prop where
 | non:TyOf K H .non (.type "NoneType")
 | bl (x:Bool):TyOf K H (.bl x) (.type "bool")
 | int (i:Int):TyOf K H (.int i) (.type "int")
 | str (x:Str):TyOf K H (.str x) (.type "str")
 | flt (x:UInt64):TyOf K H (.flt x) (.type "float")
 | lst {a:ak} {xs:List V} (e:H a=some (.lst xs)):TyOf K H (.ref a) (.type "list")
 | frz {a:ak} {o:Obj} {xs:List V} (e:H a=some (.frz o (.lst xs))):TyOf K H (.ref a) (.type "list")
 | tup {a:ak} {xs:List V} (e:H a=some (.tup xs)):TyOf K H (.ref a) (.type "tuple")
 | dK {a:ak} {kvs:List (Key×V)} (e:H a=some (.dK kvs)):TyOf K H (.ref a) (.type "dict")
 | dT {a:ak} {kvs:List (List Key×V)} (e:H a=some (.dT kvs)):TyOf K H (.ref a) (.type "dict")
 | ins {a C dx:ak} {fs:List (Str×V)} (e:H a=some (.ins C dx fs)) (cl:Cls K C) (ha:PySem.W.findIn K (.ref C) "__class__" = some (some (.builtin "object.__class__")))
   (hn:PySem.W.specialIn K (.builtin "object.__class__") "__get__" = some (some (.builtin "getset_descriptor.__get__"))) (htk:PySem.W.takesIn K (.builtin "object.__class__")=some true)
   (hm:PySem.W.mroIn K C (.type "object")=some true):TyOf K H (.ref a) (.ref C)
def GI{x:V}{t:af}(I:Inv X pins σ H s)(rx:RelV x u)(ty:TyOf X.K H x t)(e:PySem.W.kitOne X.K t c=some b)(h:∀tk,Q (.bool b) { s with toks:=tk }) :
  wpAny (model X.prog X.w) A (call (.builtin "isinstance") [u,c]) Q E s:=by
 cases ty with
 | non=>cases(show u=Value.none from rx);exact cV PySem.W.kitx_none I.zM True.intro e (λz=>nomatch z) h
 | bl y=>cases(show u=Value.bool y from rx);exact cV PySem.W.kitx_bool I.zM True.intro e (λz=>nomatch z) h
 | int i=>obtain⟨t,q⟩:=(show ∃t,u=Value.int i t from rx);cases q;exact cV PySem.W.kitx_int I.zM True.intro e (λz=>nomatch z) h
 | str y=>obtain⟨t,q⟩:=(show ∃t,u=Value.str y t from rx);cases q;exact cV PySem.W.kitx_str I.zM True.intro e (λz=>nomatch z) h
 | flt y=>obtain⟨t,q⟩:=(show ∃t,u=Value.float y t from rx);cases q;exact cV PySem.W.kitx_float I.zM True.intro e (λz=>nomatch z) h
 | @lst a xs ea=>
  cases(show u=Value.ref a from rx)
  obtain⟨_,_,n,_,h1⟩:=(show kP X.prog X.w H s.heap a (.lst xs)from I.hok a _ ea);exact cV PySem.W.kitx_list I.zM ⟨_,h1,rfl⟩ e (λz=>nomatch z) h
 | @frz a ob xs ea=>
  cases(show u=Value.ref a from rx)
  obtain⟨_,_,_,n,_,h1⟩:=(show kP X.prog X.w H s.heap a (.frz ob (.lst xs))from I.hok a _ ea);exact cV PySem.W.kitx_list I.zM ⟨_,h1,rfl⟩ e (λz=>nomatch z) h
 | @tup a xs ea=>
  cases(show u=Value.ref a from rx)
  obtain⟨_,_,_,p⟩:=(show kP X.prog X.w H s.heap a (.tup xs)from I.hok a _ ea);obtain⟨o,h1,h2,_⟩:=p;exact cV PySem.W.kitx_tuple I.zM ⟨o,h1,h2⟩ e (λz=>nomatch z) h
 | @dK a kvs ea=>
  cases(show u=Value.ref a from rx)
  obtain⟨_,_,vs,_,p⟩:=(show kP X.prog X.w H s.heap a (.dK kvs)from I.hok a _ ea);obtain⟨o,es,ep,h1,h2,_⟩:=p;exact cV PySem.W.kitx_dict I.zM ⟨o,h1,h2.1⟩ e (λz=>nomatch z) h
 | @dT a kvs ea=>
  cases(show u=Value.ref a from rx)
  obtain⟨_,_,xs,_,o,es,ep,h1,h2,_⟩:=(show kP X.prog X.w H s.heap a (.dT kvs)from I.hok a _ ea);exact cV PySem.W.kitx_dict I.zM ⟨o,h1,h2.1⟩ e (λz=>nomatch z) h
 | @ins a C dx fs ea cl ha hn htk hm=>
  cases(show u=Value.ref a from rx)
  obtain⟨mA,O,_⟩:=NB I.hok ea;obtain⟨od,J,_⟩:=O.look;exact cV (PySem.W.kitx_own (cl.get _) cl.hd ha hn htk hm) I.zM J e (λz=>nomatch z) h
end
structure Room (k:Nat)(A:aA):Prop where
 hd:A.handled=none
 dp:A.depth+3 * k+5<recursionLimit
 un:A.units+16 * k+200<cLine
def Room.mono{k:Nat}{A:aA}(r:Room k A)(h:j<=k):Room j A:=⟨r.hd,by have:=r.dp;lia,by have:=r.un;lia⟩
def Room.deeper{k:Nat}{A:aA}(r:Room (k+1) A)(env:Env):Room k (A.deeper env):=
 ⟨r.hd,by have:=r.dp;show A.depth+1+3 * k+5<_;lia,by have:=r.un;show A.units+3+16 * k+200<_;lia⟩
def Room.depth{k:Nat}{A:aA}(r:Room k A):A.depth<recursionLimit:=by have:=r.dp;lia
def Room.units{k:Nat}{A:aA}(r:Room k A):A.units+64<cLine:=by have:=r.un;lia
abbrev Wc:TA:=λ_ H Q=>Q [] H
abbrev Tp (ta:TE)(tr:TA):TA:=λσ H Q=>ta σ H λx H1=>tr σ H1 λxs H2=>Q (x::xs) H2
section
variable {X:Cx}{e:aE}{es:List aE}{te:TE}{t:TA}{pos:Pos}
def zB:PA X [] Wc:=λ_ _ _ _ H Q I h=>Calls.spliced_nil ⟨[],H,I,.nil,h⟩
def uw(ha:PE X e te)(hr:PA X es t)(hs:starEach (e::es) X.env=(false,eval e X.env)::starEach es X.env:=by rfl):PA X (e::es) (Tp te t):=by
 intro pos pins s σ H Q I h;rw[hs]
 skip
 refine Calls.spliced_cons (kR (ha pins s σ H _ I h) λu s1 ⟨x,H1,I1,r1,q1⟩=>?_);exact kR (hr pos pins s1 σ H1 _ I1 q1) λus s2 ⟨xs,H2,I2,r2,q2⟩=>⟨x::xs,H2,I2,.cons r1 r2,q2⟩
abbrev U6 (t:TA):TE:=λσ H Q=>t σ H λxs H1=>xs.length<=sizeLine/\∀p,H1 p=none->Q (.ref p) (upd H1 p (.tup xs))
abbrev Vm (t:TA):TE:=λσ H Q=>t σ H λxs H1=>xs.length<=sizeLine/\∀p,H1 p=none->Q (.ref p) (upd H1 p (.lst xs))
def Pk{x1}(h:PA X es t):PE X (.Tuple es x1 pos) (U6 t):=by
 intro pins s σ H Q I hq;refine wpAny_Tuple_spliced (kR (h pos pins s σ H _ I hq) λus s1 ⟨xs,H1,I1,r,z,q⟩=>⟨by rw[<- r.length];exact z,?_⟩);have hf:H1 s1.heap.objs.size=none:=I1.hok.fresh (aP _);refine⟨.ref s1.heap.objs.size,upd H1 s1.heap.objs.size (.tup xs),I1.laid (t':=s1.toks) (λb u e=>aO _ e) (aP _) ?_,rfl,q _ hf⟩;exact⟨z,us,r,⟨_,bg _ rfl,rfl,rfl,_,rfl⟩⟩
def Qk(h:PA X es t):PE X (.List es pos) (Vm t):=by
 intro pins s σ H Q I hq;refine wpAny_List_spliced (kR (h pos pins s σ H _ I hq) λus s1 ⟨xs,H1,I1,r,z,q⟩=>⟨by rw[<- r.length];exact z,?_⟩);have hf:H1 s1.heap.objs.size=none:=I1.hok.fresh (aP _);refine⟨.ref s1.heap.objs.size,upd H1 s1.heap.objs.size (.lst xs),I1.laid (t':=s1.toks) (λb u e=>aO _ e) (aP _) ?_,rfl,q _ hf⟩;exact⟨z,us,0,r,bg _ rfl⟩
end
meta abbrev Sp:=List V->Hp->VK->XK->Prop
meta abbrev Ma:=List Env->Hp->aC->XK->af->aC->Prop
structure Env0 (P:aj)(w:ah)(K:au)(mg:Str->ba)(base:aq)(A:aA)(outer:List Env)(s:aC)(H:Hp):Prop where
 frames:A.frames=some outer
 mod:Mod K mg base
 bs:∀b o,base.get? b=some o->s.heap.get? b=some o/\H b=none
 bsz:base.objs.size<=s.heap.objs.size
 xg:s.heap.FunFrames base outer
 frf:∀b∈frs outer,H b=none
 hok:tZ P w H s.heap
 bare:AllBare s.gens
abbrev CE (outer:List Env)(P:aj)(w:ah)(H:Hp)(s:aC)(Q:VK)(u:af)(s':aC):Prop:=
 ∃v H',s'.os=s.os/\AllBare s'.gens/\Un (frs outer) [] H H' s.heap s'.heap/\tZ P w H' s'.heap/\RelV v u/\Q v H'
abbrev CR (CX:Ma)(outer:List Env)(P:aj)(w:ah)(H:Hp)(s:aC)(Q:VK)(E:XK)(r:Result)(s':aC):Prop:=
 match r with
 | .ok (.ret u)=>CE outer P w H s Q u s'
 | .ok _=>False
 | .error e=>CX outer H s E e s'
structure FnOk (P:aj)(w:ah)(K:au)(mg:Str->ba)(base:aq)(CX:Ma)(k:Nat)(f:ak)(fd:FuncData)(ps:am)(sp:Sp):Prop where
 len:∀vs H Q E,sp vs H Q E->vs.length=ps.length
 run:∀(A:aA) (outer:List Env) (s:aC) (H:Hp) (args:Args) (us:ap) (vs:List V) (Q:VK) (E:XK),Room k A->Env0 P w K mg base A outer s H->BindsTo s fd args (ps.zip us)->Vals vs us->sp vs H Q E ->
  codeAny (model P w) A (.call (.ref f) args) (CR CX outer P w H s Q E) s
section
variable {X:Cx}{pins:bj}{σ:St}{H:Hp}{s s':aC}
def Inv.VS(I:Inv X pins σ H s):Env0 X.prog X.w X.K X.mg X.base X.A X.stack s H:=
 ⟨I.ok.frames,I.ok.mod,I.bs,bV I.ok.bsz I.sz,I.stack,I.E3,I.hok,I.bare⟩
def Inv.after{Q:VK}(I:Inv X pins σ H s)(h:CE X.stack X.prog X.w H s Q u s'):EP X pins σ Q u s':=by
 obtain⟨v,H',os,bare,un,hok,r,q⟩:=h;obtain⟨hh,g,d,t,os'⟩:=s';obtain rfl:os'=s.os:=os;exact⟨v,H',I.call (h':=hh) (g':=g) (d':=d) (t':=t) (ch:=[]) un hok bare (λb z=>absurd z (by simp)),r,q⟩
end
abbrev OS (sp:Sp)(dvs:List V)(E:XK)(t:TA):TE:=λσ H Q=>t σ H λvs H1=>sp (vs++dvs) H1 Q E
abbrev Binds (K:au)(fd:FuncData)(ps:am)(ds:ap):Prop:=
 ∀(s:aC) (us:ap),K.In s.heap->(us++ds).length=ps.length->BindsTo s fd ⟨us,[]⟩ (ps.zip (us++ds))
def Binds.all{K:au}{fd:FuncData}{ps:am}(h:∀us:ap,us.length=ps.length->bindArgs fd ⟨us,[]⟩=pure (ps.zip us)):Binds K fd ps []:=λs us _ hl=>by
 rw[cW]at hl ⊢;exact .of_eq (h us hl)
abbrev Passes (CX:Ma)(X:Cx)(E:XK):Prop:=∀(pins:bj) (σ:St) (H:Hp) (s:aC) (e:af) (s':aC),Inv X pins σ H s->CX X.stack H s E e s'->X.xe e s'
section
variable {X:Cx}{CX:Ma}{k:Nat}{f C:ak}{fd:FuncData}{ps:am}{sp:Sp}{dvs:List V}{ds:ap}{E:XK}{x:Str}{p pos:Pos}{e:aE}{es:List aE}{t:TA}
def Rx{H:Hp}{Q:VK}(F:FnOk X.prog X.w X.K X.mg X.base CX k f fd ps sp)(hr:Room k X.A)(hb:Binds X.K fd ps ds)(hd:Vals dvs ds)(hx:Passes CX X E)
  (I:Inv X pins σ H s) (r:Vals vs us) (h:sp (vs++dvs) H Q E):wpAny (model X.prog X.w) X.A (call (.ref f) us) (EP X pins σ Q) X.xe s:=by
 have r2:Vals (vs++dvs) (us++ds):=r.append hd;have hl:(us++ds).length=ps.length:=by rw[<- r2.length];exact F.len _ _ _ _ h
 refine wpAny_call (iS (F.run X.A X.stack s H ⟨us,[]⟩ (us++ds) (vs++dvs) Q E hr I.VS (hb s us I.zM hl) r2 h) λr s' hq=>?_)
 cases r with
 | error e=>exact hx pins σ H s e s' I hq
 | ok fl=>
  cases fl with
  | ret u=>exact I.after hq
  | next=>exact False.elim hq
  | brk=>exact False.elim hq
  | cont=>exact False.elim hq
def Nd(F:FnOk X.prog X.w X.K X.mg X.base CX k f fd ps sp)(hr:Room k X.A)(hg:Gl X x)(hm:X.mg x=some (.ref f))(hk:PySem.W.keepIn X.K (.ref f)=true)(hb:Binds X.K fd ps ds)(hd:Vals dvs ds)(hx:Passes CX X E)
  (ha:PA X (e::es) t) (hdb:(x == ("__debug__" : Str))=false:=by decide) (he:starEach (e::es) X.env=(false,eval e X.env)::starEach es X.env:=by rfl) (hpl:(backTo pos (starEach es X.env)).any (·.1)=false:=by rfl) :
  PE X (.Call (.Name x p) (e::es) [] pos) (OS sp dvs E t):=by
 x_go;refine iU (FO I hg hm ?_ hdb);refine PySem.W.callWith_K (h₀:=X.base) I.ok.mod.kin hk (kR (ha pos pins s σ H _ I h) λus s1 ⟨vs,H1,I1,r,q⟩=>⟨I1.zM,?_⟩) he hpl;exact Rx F hr hb hd hx I1 r q
structure Mk (K:au)(C f:ak):Prop where
 makes:PySem.W.makesIn K C=true
 init:PySem.W.findIn K (.ref C) "__init__" = some (some (.ref f))
 fn:PySem.W.isFn K (.ref f)=true
 kp:PySem.W.keepIn K (.ref C)=true
end
section
variable {fd:FuncData}{ps ks:am}
structure KBinds (K:au)(fd:FuncData)(ps ks:am)(g:ap->ap->ap)(gV:List V->List V->List V):Prop where
 to:∀(s:aC) (us ws:ap),K.In s.heap->(g us ws).length=ps.length->BindsTo s fd ⟨us,ks.zip ws⟩ (ps.zip (g us ws))
 rel:∀{vs:List V} {us:ap} {zs:List V} {ws:ap},Vals vs us->Vals zs ws->Vals (gV vs zs) (g us ws)
end
structure FnScope (N P:am)(sc:Scope):Prop where
 kind:sc.kind=.function
 co:sc.isCoroutine=false
 gen:sc.isGenerator=false
 nd:N.Nodup
 pre:N.take P.length=P
 par:∀x∈P,sc.names.lookup x=some .local\/sc.names.lookup x=some .cell
 nofree:∀y∈sc.names,y.2≠.free
theorem yL{kindOf:Str->Option NameKind}{x:Str}:∀{binds:List (Str×af)}{m:Str->ba},(∀v,(x,v)∉binds)->bindL kindOf binds m x=m x
 | [],_,_=>rfl
 | (n,v)::r,m,h=>by
  unfold bindL;rw[yL λw hw=>h w (aT _ hw)];split
  ·have:x≠n:=by rintro rfl;exact h v aR
   simp[this]
  ·rfl
theorem yM{kindOf:Str->Option NameKind}{x:Str}:∀{binds:List (Str×af)}{m:Str->ba},(∀v,(x,v)∉binds)->bindC kindOf binds m x=m x
 | [],_,_=>rfl
 | (n,v)::r,m,h=>by
  unfold bindC;rw[yM λw hw=>h w (aT _ hw)];split
  ·rfl
  ·have:x≠n:=by rintro rfl;exact h v aR
   simp[this]
theorem y_{kindOf:Str->Option NameKind}{x:Str}{v:af}:∀{P:am}{vs:ap}{i:Nat}{m:Str->ba},P.Nodup->P[i]?=some x->vs[i]?=some v->kindOf x=some .local ->
  bindL kindOf (P.zip vs) m x=some v
 | [],_,_,_,_,h,_,_=>by simp at h
 | _::_,[],_,_,_,_,h,_=>by simp at h
 | p::P,w::vs,0,m,nd,h1,h2,hk=>by
  simp at h1 h2;subst h1;subst h2;show bindL kindOf ((p,w)::P.zip vs) m p=_;unfold bindL;rw[yL λv hv=>(fC.mp nd).1 (jq hv).1,aN hk];simp
 | p::P,w::vs,i+1,m,nd,h1,h2,hk=>by
  skip
  unfold bindL;exact y_ (i:=i) (fC.mp nd).2 (by simpa using h1) (by simpa using h2) hk
theorem zc{kindOf:Str->Option NameKind}{x:Str}{v:af}:∀{P:am}{vs:ap}{i:Nat}{m:Str->ba},P.Nodup->P[i]?=some x->vs[i]?=some v->kindOf x≠some .local ->
  bindC kindOf (P.zip vs) m x=some v
 | [],_,_,_,_,h,_,_=>by simp at h
 | _::_,[],_,_,_,_,h,_=>by simp at h
 | p::P,w::vs,0,m,nd,h1,h2,hk=>by
  simp at h1 h2;subst h1;subst h2;show bindC kindOf ((p,w)::P.zip vs) m p=_;unfold bindC;rw[yM λv hv=>(fC.mp nd).1 (jq hv).1,aM hk];simp
 | p::P,w::vs,i+1,m,nd,h1,h2,hk=>by
  skip
  unfold bindC;exact zc (i:=i) (fC.mp nd).2 (by simpa using h1) (by simpa using h2) hk
abbrev start (N:am)(vs:List V):St:=vs.map some++List.replicate (N.length-vs.length) none
abbrev CB (CX:Ma)(P:aj)(w:ah)(K:au)(mg:Str->ba)(base:aq)(N:am)(qual:Str)(scope:Scope)(f:ak)(cd:af)(A:aA)(outer:List Env)(s:aC)(H:Hp)(E:XK):Cx where
 prog:=P
 w:=w
 K:=K
 mg:=mg
 base:=base
 A:=A.deeper (envOfC qual scope s.heap.objs.size f cd)
 N:=N
 s₀:=s
 H₀:=H
 env:=envOfC qual scope s.heap.objs.size f cd
 outer:=outer
 stack:=envOfC qual scope s.heap.objs.size f cd::outer
 ex:=[]
 calm:=true
 fn:=λ_=>true
 pn:=[]
 xe:=λe s'=>wpAny (model P w) (A.deeper (envOfC qual scope s.heap.objs.size f cd)) (leaving (envOfC qual scope s.heap.objs.size f cd) e) (λ_ s''=>CX outer H s E e s'') (λe' s''=>CX outer H s E e' s'') s'
def BW{sc:Scope}{n:Nat}{x:Str}(h:sc.names.lookup x=some .cell):∃c,(cellsFrom n sc.names []).lookup x=some c:=by
 have q:=PySem.W.cellsFrom_some sc.names n [] (.inl h);exact f7.mp q
def Hh{CX:Ma}{P:aj}{w:ah}{K:au}{mg:Str->ba}{base:aq}{N ps:am}{scope:Scope}{f:ak}{A:aA}{outer:List Env}{s:aC}{H:Hp}{E:XK}{vs:List V}
  (S:FnScope N ps scope) (hd:A.handled=none) (e0:Env0 P w K mg base A outer s H) (hl:vs.length=ps.length) (r:Vals vs us)
  (x:InCallC s s.heap.objs.size (bindL (envOfC qual scope s.heap.objs.size f cd).kindOf (ps.zip us) λ_=>none) (cellsFrom (s.heap.objs.size+1) scope.names []) (bindC (envOfC qual scope s.heap.objs.size f cd).kindOf (ps.zip us) λ_=>none) s1) :
  Inv (CB CX P w K mg base N qual scope f cd A outer s H E) [] (start N vs) H s1:=by
 have hpl:ps.length<=N.length:=by have:=dJ List.length S.pre;rw[bB]at this;lia
 obtain⟨h1,tk,rfl,hk⟩:=x.done;have noA:∀b:ak,b∉(CB CX P w K mg base N qual scope f cd A outer s H E).ex:=λb z=>absurd (show b∈([]:ar)from z) (by simp);refine⟨⟨e0.mod,S.kind,rfl,rfl,aP _,λy z c h1 h2=>?_,λy hy=>?_,λy c _ h=>?_,λ_=>hd,Around.frames_deeper e0.frames,.inr ⟨rfl,rfl⟩,λb z=>absurd z (noA b),e0.bs,e0.bsz,λb _ _=>noA b,λb z=>absurd z (noA b),e0.xg,e0.frf⟩,
  rfl,e0.bare,Un.kept hk,⟨_,x.toInCall.ns,λi y v h1 h2 h3=>?_⟩,λy c h=>⟨_,x.cell y c h⟩,e0.hok.fresh (aP _),λy c h=>?_,λp hp=>absurd (show p∈([]:bj)from hp) (by simp),e0.hok.kept hk,?_⟩
 ·exact name_of_addr x.apart (eV h1) (eV h2)
 ·have hy:scope.names.lookup y=some .cell\/scope.names.lookup y=some .free:=hy
  rcases hy with hy|hy
  ·exact BW hy
  ·exact absurd rfl (S.nofree _ (eV hy))
 ·exact jk (x.above y c (eV h))
 ·have hi:i<vs.length:=by
   unfold start at h2;by_cases hi:i<vs.length
   ·exact hi
   ·rw[eg (by simpa using hi)]at h2;rw[gA]at h2;split at h2<;>cases h2
  have ha:vs[i]?=some v:=by
   unfold start at h2;rw[bF (by simpa using hi),aQ]at h2
   cases e:vs[i]? with
   | none=>rw[e]at h2;cases h2
   | some a=>rw[e]at h2;cases h2;rfl
  obtain⟨u,hu,rv⟩:=r.get ha;have hp:ps[i]?=some y:=by
   rw[<- S.pre,dh ()];exact h1
  have ndP:ps.Nodup:=by rw[<- S.pre];exact S.nd.sublist (List.take_sublist _ _)
  refine⟨u,rv,?_⟩
  rcases S.par y (aZ hp)with k|k
  ·exact .inl ⟨k,y_ ndP hp hu k⟩
  ·obtain⟨c,e⟩:=BW (n:=s.heap.objs.size+1) k;refine .inr ⟨.inl k,c,e,?_⟩;have q:=x.cell y c e;rw[zc ndP hp hu (by show scope.names.lookup y≠_;rw[k];decide)]at q;exact q
 ·exact e0.hok.fresh (jk (x.above y c (eV h)))
 ·unfold start;show _=N.length;rw[aU,aL,List.length_replicate]
  lia
def Us{CX:Ma}{P:aj}{w:ah}{K:au}{mg:Str->ba}{base:aq}{k:Nat}{f:ak}{kV pm ct:af}
  {osl:Array (ba)} {N ps:am} {sp:Sp} (lk:K.lookup f=some ⟨oc,od,.func (PySem.W.fnOf name qual params body scope dV kV doc pm an cdv ct),osl⟩) (hcd:PySem.W.codeIn K cdv qual=true) (S:FnScope N ps scope)
  (len:∀vs H Q E,sp vs H Q E->vs.length=ps.length)
  (hbody:∀(A:aA) (outer:List Env) (s:aC) (H:Hp) (vs:List V) (Q:VK) (E:XK),Room k (A.deeper (envOfC qual scope s.heap.objs.size f cdv))->sp vs H Q E ->
   ∃t,zN (CB CX P w K mg base N qual scope f cdv A outer s H E) body t/\t { nx:=λ_ H'=>Q .non H',rt:=Q } (start N vs) H) :
  FnOk P w K mg base CX (k+1) f (PySem.W.fnOf name qual params body scope dV kV doc pm an cdv ct) ps sp:=by
 refine⟨len,λA outer s H args us vs Q E hr e0 hb r hsp=>?_⟩;have hl:=len _ _ _ _ hsp;have KX:K.In s.heap:=e0.mod.kin.keeps λb o e=>(e0.bs b o e).1;have lim:s.heap.NoLimit:=e0.mod.nolimit.keeps λb o e=>(e0.bs b o e).1;have hkind:∀y∈ps.zip us,scope.names.lookup y.1=some .local\/(scope.names.lookup y.1=some .cell/\((cellsFrom (s.heap.objs.size+1) scope.names []).lookup y.1).isSome=true):=λ⟨n,v⟩ hy=>by
  rcases S.par n (jq hy).1 with q|q
  ·exact .inl q
  ·exact .inr ⟨q,PySem.W.cellsFrom_some _ _ _ (.inl q)⟩
 refine codeAny_call_function hr.depth (KX _ _ lk) rfl S.co S.gen rfl (PySem.W.codeRec_of KX hcd) (hb _ _ _ _ ?_);refine wpAny_newFunctionEnv_cells S.kind hkind λenv he s1 x=>?_;subst he;refine⟨lim.keeps x.toInCall.keep,codeAny_func ?_⟩;obtain⟨t,ht,hq⟩:=hbody A outer s H vs Q E (hr.deeper _) hsp;have I:Inv (CB CX P w K mg base N qual scope f cdv A outer s H E) [] (start N vs) H s1:=Hh S hr.hd e0 hl r x;refine fh (ht [] s1 (start N vs) H _ I hq) (λfl s' hs=>?_) λe s' hs=>hs;have fin:∀{σ':St} {H':Hp} {v:V} {u:af},Inv (CB CX P w K mg base N qual scope f cdv A outer s H E) [] σ' H' s'->RelV v u->Q v H'->CE outer P w H s Q u s':=
  λ{σ' H' v u} J rv q=>⟨v,H',J.os,J.bare,J.base,J.hok,rv,q⟩
 cases fl with
 | ret u=>
  obtain⟨v,σ',H',J,rv,q⟩:=hs;exact fin J rv q
 | next=>
  obtain⟨σ',H',J,q⟩:=hs;exact fin (v:=V.non) (u:=Value.none) J rfl q
 | brk=>
  obtain⟨_,_,_,q⟩:=hs;exact False.elim q
 | cont=>
  obtain⟨_,_,_,q⟩:=hs;exact False.elim q
section
variable {X:Cx}{x:Str}{p pos:Pos}{e:aE}{es:List aE}{t:TA}{id T:String}{r:List V->Hp->VK->Prop}
abbrev Vu (r:List V->Hp->VK->Prop)(t:TA):TE:=λσ H Q=>t σ H λvs H1=>r vs H1 Q
def L3(hc:j5 X (.builtin id) r)(hg:Gl X x)(hm:X.mg x=none)(hv:bootBuiltins x=some (.builtin id))(ha:PA X (e::es) t)(hn:x ≠ "__name__" := by decide)(hdb:(x == ("__debug__" : Str))=false:=by decide)
  (he:starEach (e::es) X.env=(false,eval e X.env)::starEach es X.env:=by rfl) (hpl:(backTo pos (starEach es X.env)).any (·.1)=false:=by rfl):PE X (.Call (.Name x p) (e::es) [] pos) (Vu r t):=by
 x_go;refine iU (w4 I hg hm hv ?_ hn hdb);exact PyProof.Rows.callWith_builtin1 (kR (ha pos pins s σ H _ I h) λus s1 ⟨vs,H1,I1,r1,q1⟩=>hc pins s1 σ H1 vs us Q I1 r1 q1) he hpl
def yK(hc:j5 X (.type T) r)(hg:Gl X x)(hm:X.mg x=none)(hv:bootBuiltins x=some (.type T))(ha:PA X (e::es) t)(hn:x ≠ "__name__" := by decide)(hdb:(x == ("__debug__" : Str))=false:=by decide)
  (he:starEach (e::es) X.env=(false,eval e X.env)::starEach es X.env:=by rfl) (hpl:(backTo pos (starEach es X.env)).any (·.1)=false:=by rfl):PE X (.Call (.Name x p) (e::es) [] pos) (Vu r t):=by
 x_go;refine iU (w4 I hg hm hv ?_ hn hdb);exact fJ (kR (ha pos pins s σ H _ I h) λus s1 ⟨vs,H1,I1,r1,q1⟩=>hc pins s1 σ H1 vs us Q I1 r1 q1) he hpl
end
end L2
namespace HT
open PySem PyProof.Rows
abbrev lexLt:ae->ae->Bool
 | [],[]=>false
 | [],_::_=>true
 | _::_,[]=>false
 | x::xs,y::ys=>if x=y then lexLt xs ys else decide (x<y)
def mQ(x y:Int)(xs ys:ae):lexLt (x::xs) (y::ys)=if x=y then lexLt xs ys else decide (x<y):=rfl
def pI:lexLt [] []=false:=rfl
def ng(y:Int)(ys:ae):lexLt [] (y::ys)=true:=rfl
def oV(x:Int)(xs:ae):lexLt (x::xs) []=false:=rfl
section
variable {prog:aj}{w:ah}{A:aA}{E:af->aC->Prop}{s:aC}
def Ni{t:ak}{vs ws:ap}{Q:af->aC->Prop}(ht:IsTup s.heap t vs.toArray)(hb:IsTup s.heap b ws.toArray)(hv:vs≠[])
  (h1:ws=[]->Q (.ref t) s) (h2:ws≠[]->Q (.ref s.heap.objs.size) { s with heap:=s.heap.push { cls:=.type "tuple",data:=.seq (vs++ws).toArray }})
  (hsz:vs.length+ws.length<=sizeLine):wpAny (model prog w) A (binaryOp .Add (.ref t) (.ref b)) Q E s:=by
 obtain⟨⟨cls,dd,data,sl⟩,ho,hc,n,hd⟩:=id ht;obtain⟨⟨cls2,dd2,data2,sl2⟩,ho2,hc2,n2,hd2⟩:=id hb;simp only at hc hd hc2 hd2;subst hc hd hc2 hd2;have e:vs.toArray++ws.toArray=(vs++ws).toArray:=by simp
 by_cases hw:ws=[]
 ·exact concat_meets ⟨_,ho,rfl⟩ ⟨_,ho2,rfl⟩ noFill_tuple_add seq_tuple_add gF gB (f9 _ _)
   (tuple_addW1 t b vs.toArray ws.toArray n n2 dd dd2 sl sl2 (by simpa using hv) (by simp[hw])) ⟨ho,ho2,h1 hw⟩
 ·refine concat_meets ⟨_,ho,rfl⟩ ⟨_,ho2,rfl⟩ noFill_tuple_add seq_tuple_add gF gB (f9 _ _)
   (tuple_addW2 t b vs.toArray ws.toArray n n2 dd dd2 sl sl2 (by simpa using hv) (by simpa using hw) (by rw[aS,aS];exact hsz)) ⟨ho,ho2,?_⟩
  rw[e];exact h2 hw
abbrev mh (n d:Nat):bb->Nat
 | none=>d
 | some v=>if v<0 then(v+(n:Int)).toNat else min v.toNat n
def BJ(n d:Nat):mh n d none=d:=rfl
def qm(n d k:Nat):mh n d (some (k:Int))=min k n:=by
 show(if (k:Int)<0 then((k:Int)+(n:Int)).toNat else min (k:Int).toNat n)=min k n;rw[aM (),cu]
def Qt(n d:Nat)(hd:d<=n)(o:bb):mh n d o<=n:=by
 cases o with
 | none=>exact hd
 | some v=>
  show(if v<0 then(v+(n:Int)).toNat else min v.toNat n)<=n;by_cases hv:v<0
  ·rw[aN hv];lia
  ·rw[aM hv];exact Nat.min_le_right _ _
def FP(v:Int)(n d:Nat):(if v<0 then max (v+(n:Int)) 0 else min v (n:Int))=((mh n d (some v):Nat):Int):=by
 show(if v<0 then max (v+(n:Int)) 0 else min v (n:Int))=(((if v<0 then(v+(n:Int)).toNat else min v.toNat n):Nat):Int);by_cases hv:v<0
 ·dsimp[aN hv];lia
 ·dsimp[aM hv];lia
def CJ(lo hi:bb)(n:Nat):Builtin.Slice.sliceAdjust lo hi 1 (n:Int)=(((mh n 0 lo:Nat):Int),((mh n n hi:Nat):Int)):=by
 have h1:¬((1:Int)<0):=()
 unfold Builtin.Slice.sliceAdjust;dsimp[h1,bZ];refine Prod.ext ?_ ?_
 ·cases lo with
  | none=>rfl
  | some v=>exact FP v n 0
 ·cases hi with
  | none=>rfl
  | some v=>exact FP v n n
def C6(i j:Nat):Builtin.Slice.slicePlaces (i:Int) (j:Int) 1=j-i:=by
 unfold Builtin.Slice.slicePlaces;have h1:(1:Int)>0:=()
 dsimp[h1,di,Int.ediv_one];split<;>lia
def wV{v:af}{Q:bb->aC->Prop}(p:IsPart v o)(h:Q o s):wpAny (model prog w) A (Builtin.Slice.slicePartIndex v) Q E s:=by
 cases p with
 | none=>exact slicePart_none h
 | int i t=>exact slicePart_int h
def vM{lo hi:bb}{n:Nat}{Q:Int×Int×Nat->aC->Prop}(hs:s.heap.IsSliceOf sl vl vu .none)(pl:IsPart vl lo)(pu:IsPart vu hi)
  (h:Q (((mh n 0 lo:Nat):Int),1,mh n n hi-mh n 0 lo) s):wpAny (model prog w) A (Builtin.Slice.sliceApplied (.ref sl) (pure (n:Int))) Q E s:=by
 obtain⟨os,hos,hcs,hds⟩:=id hs;unfold Builtin.Slice.sliceApplied Builtin.Slice.sliceFields;refine aG (aG (dZ hos hds (x:=vl) rfl (aG (dZ hos hds (x:=vu) rfl (aG (dZ hos hds (x:=.none) rfl (aJ ?_)))))));refine aG (slicePart_none ?_)
 skip
 rw[aM ⋯];refine aG (wV pl (aG (wV pu (aG (aJ ?_)))));show wpAny _ _ (match Builtin.Slice.sliceAdjust lo hi 1 (n:Int)with|(lo,hi)=>pure (lo,(1:Int),Builtin.Slice.slicePlaces lo hi 1)) _ _ s;rw[CJ lo hi n];show wpAny _ _ (pure (((mh n 0 lo:Nat):Int),(1:Int),Builtin.Slice.slicePlaces ((mh n 0 lo:Nat):Int) ((mh n n hi:Nat):Int) 1)) _ _ s;rw[C6];exact aJ h
theorem Li(xs:Array af)(i k:Nat):((List.range k).filterMap λ(m:Nat)=>xs[((i:Int)+(m:Int) * 1).toNat]?).toArray=((xs.toList.drop i).take k).toArray:=by
 have e:(λ(m:Nat)=>xs[((i:Int)+(m:Int) * 1).toNat]?)=λm=>xs[i+m]?:=by
  funext m
  have:((i:Int)+(m:Int) * 1).toNat=i+m:=()
  rw[this]
 rw[e];have:=pick_run xs i k;rw[iV]at this;have e2:((λx=>xs[x]?) ∘ λx=>i+x)=λm=>xs[i+m]?:=rfl;rw[e2]at this;rw[this]
def uJ{t:ak}{items:Array af}{lo hi:bb}{Q:af->aC->Prop}(ht:IsTup s.heap t items)(hs:s.heap.IsSliceOf sl vl vu .none)(pl:IsPart vl lo)(pu:IsPart vu hi)
  (hw:¬(mh items.size 0 lo=0/\mh items.size items.size hi=items.size))
  (h:Q (.ref s.heap.objs.size) { s with heap:=s.heap.push { cls:=.type "tuple",data:=.seq ((items.toList.drop (mh items.size 0 lo)).take (mh items.size items.size hi-mh items.size 0 lo)).toArray }})
  (hsz:items.size<=sizeLine):wpAny (model prog w) A (getItem (.ref t) (.ref sl)) Q E s:=by
 have htake:sizeOk (.seq ((items.toList.drop (mh items.size 0 lo)).take (mh items.size items.size hi-mh items.size 0 lo)).toArray):=by
  show((items.toList.drop (mh items.size 0 lo)).take (mh items.size items.size hi-mh items.size 0 lo)).toArray.size<=sizeLine;rw[aS,bB,cM,cX];omega
 have hj:mh items.size items.size hi<=items.size:=Qt _ _ (aP _) hi;obtain⟨os,hos,hcs,hds⟩:=id hs;have hTs:s.TypeIs (.ref sl) "slice" := ⟨os,hos,hcs⟩;unfold getItem
 try with_reducible refine dg ?_
 first|refine aG (aJ ?_)|skip
 refine aG (wpAny_sequenceKey ht.typeIs ⋯ ?_);refine aG (cN (name:=Str.ofString "__getitem__") ht.typeIs cG
  (bT cG ht.typeIs entry_tuple_getitem ?_ (args_tuple_getitem _ _)))
 show wpAny _ _ (Builtin.Tuple.tupleItemsOf (.ref t) >>= _) _ _ s;refine aG (tupleItemsOf_ ht ?_);refine aG (jl hTs ?_);rw[aN ⋯];refine aG (vM hs pl pu ?_);have hno:¬((((mh items.size 0 lo:Nat):Int) == 0 && (1:Int) == 1 && (mh items.size items.size hi-mh items.size 0 lo) == items.size)=true):=by
  intro q;rw[dM,dM]at q;have q1:((mh items.size 0 lo:Nat):Int)=0:=eq_of_beq q.1.1;have q2:mh items.size items.size hi-mh items.size 0 lo=items.size:=eq_of_beq q.2;exact hw ⟨by omega,by omega⟩
 show wpAny _ _ (if (((mh items.size 0 lo:Nat):Int) == 0 && (1:Int) == 1 && (mh items.size items.size hi-mh items.size 0 lo) == items.size)=true then _ else _) _ _ s;rw[aM hno,Li]
 first
  | exact aG (m:=Builtin.Tuple.tupleExact _) (bC (aJ ⟨_,rfl,aJ h⟩) htake)
  | exact aG (m:=Builtin.Tuple.tupleExact _) (bC (aG (aJ (aJ ⟨_,rfl,aJ h⟩))) htake)
  | exact aG (aG (m:=Builtin.Tuple.tupleExact _) (bC (aJ (aJ ⟨_,rfl,aJ h⟩)) htake))
  | exact aG (aG (m:=Builtin.Tuple.tupleExact _) (bC (aJ ⟨_,rfl,aJ h⟩) htake))
end
end HT
namespace L2
open PySem PySem.Spec PyProof.Rows
meta abbrev TO:=St->Hp->(bb->Hp->Prop)->Prop
abbrev PO (X:Cx)(e:Option aE)(t:TO):Prop:=
 ∀(pins:bj) (s:aC) (σ:St) (H:Hp) (Q:bb->Hp->Prop),Inv X pins σ H s->t σ H Q ->
  wpAny (model X.prog X.w) X.A (evalPart e X.env) (λu s'=>∃o H',Inv X pins σ H' s'/\IsPart u o/\Q o H') X.xe s
abbrev MY:TO:=λ_ H Q=>Q none H
abbrev Td (t:TE):TO:=λσ H Q=>t σ H λx H1=>∃i,x=.int i/\Q (some i) H1
def intsAre_of{ns:ae}:∀{us:ap},Vals (ns.map V.int) us->IntsAre us ns:=by
 induction ns with
 | nil=>intro us r;rw[map_nil]at r;cases r;exact .nil
 | cons n ns ih=>
  intro us r;rw[b9]at r
  cases r with
  | cons r1 r2=>
   obtain⟨t,e⟩:=r1;subst e;exact .cons n t (ih r2)
section
variable {X:Cx}{e:aE}{te:TE}{lo hi:Option aE}{tl th:TO}{pos p2:Pos}
def Nf:PO X none MY:=by
 x_go;rw[jc];exact aJ ⟨none,H,I,.none,h⟩
def MN(h:PE X e te):PO X (some e) (Td te):=by
 intro pins s σ H Q I hw;rw[evalPart_some];refine kR (h pins s σ H _ I hw) λu s1 ⟨x,H1,I1,r1,q1⟩=>?_;obtain⟨i,rfl,q⟩:=q1;obtain⟨t,rfl⟩:=r1;exact⟨some i,H1,I1,.int i t,q⟩
abbrev UZ (X:Cx)(r:V->bb->bb->Hp->VK->Prop):Prop:=
 ∀(pins:bj) (s:aC) (σ:St) (H:Hp) (x:V) (v vl vu:af) (lo hi:bb) (sl:ak) (Q:VK),Inv X pins σ H s->RelV x v->s.heap.IsSliceOf sl vl vu .none->IsPart vl lo->IsPart vu hi->r x lo hi H Q ->
  ∃T id,typeLookup (.type T) "__getitem__" = pure (some (.builtin id))/\s.TypeIs v T/\wpAny (model X.prog X.w) X.A (getItem v (.ref sl)) (EP X pins σ Q) X.xe s
abbrev WO (r:V->bb->bb->Hp->VK->Prop)(te:TE)(tl th:TO):TE:=λσ H Q=>te σ H λx H1=>tl σ H1 λl H2=>th σ H2 λu H3=>r x l u H3 Q
def KG{r:V->bb->bb->Hp->VK->Prop}(hr:UZ X r)(he:PE X e te)(hl:PO X lo tl)(hu:PO X hi th):PE X (.Subscript e (.Slice lo hi none p2) pos) (WO r te tl th):=by
 x_go;refine Subscript_ (kR (he pins s σ H _ I h) λv s1 ⟨x,H1,I1,r1,q1⟩=>?_);refine wpAny_Slice (kR (hl pins s1 σ H1 _ I1 q1) λvl s2 ⟨l,H2,I2,pl,q2⟩=>kR (hu pins s2 σ H2 _ I2 q2) λvu s3 ⟨u,H3,I3,pu,q3⟩=>?_);rw[jc];refine aJ ?_;have I4:Inv X pins σ H3 { s3 with heap:=s3.heap.push { cls:=.type "slice",data:=.fields #[vl,vu,.none]}}:=I3.kept (t':=s3.toks) λb ob q=>aO _ q;obtain⟨T,id,hT,ht,hg⟩:=hr pins { s3 with heap:=s3.heap.push { cls:=.type "slice",data:=.fields #[vl,vu,.none]}} σ H3 x v vl vu l u s3.heap.objs.size Q I4 r1 (iW ..) pl pu q3
 skip
 exact tail_any (ops:=[.ref s3.heap.objs.size,v]) ht hT hg (by with_unfolding_all rfl)
abbrev A6 (xs:List V)(lo hi:bb):List V:=(xs.drop (HT.mh xs.length 0 lo)).take (HT.mh xs.length xs.length hi-HT.mh xs.length 0 lo)
def vN(xs:List V)(lo hi:bb):(A6 xs lo hi).length<=xs.length:=by
 unfold A6;rw[bB,cM]
 lia
abbrev VL (K:au):V->bb->bb->Hp->VK->Prop:=λx lo hi H Q=>∃a xs,x=.ref a/\m9 K H a xs /\
 ¬(HT.mh xs.length 0 lo=0/\HT.mh xs.length xs.length hi=xs.length)/\∀p,H p=none->Q (.ref p) (upd H p (.tup (A6 xs lo hi)))
def QB:UZ X (VL X.K):=by
 intro pins s σ H x v vl vu lo hi sl Q I rx hs pl pu h;obtain⟨a,xs,rfl,hx,hw,q⟩:=h
 cases rx
 obtain⟨its,r,ht,hz⟩:=I.tuple hx;have hlen:its.toArray.size=xs.length:=by rw[aS];exact r.length.symm
 refine⟨"tuple",_,cG.lookup,ht.typeIs,?_⟩;refine HT.uJ ht hs pl pu (by rw[hlen];exact hw) ?_ (by rw[hlen];exact hz);rw[hlen];refine⟨.ref s.heap.objs.size,_,I.laid (t':=s.toks) (o:=.tup (A6 xs lo hi)) (λb ob q=>aO _ q) (aP _) ?_,rfl,q _ (I.hok.fresh (aP _))⟩;exact⟨bV (vN xs lo hi) hz,_,(r.drop (HT.mh xs.length 0 lo)).take (HT.mh xs.length xs.length hi-HT.mh xs.length 0 lo),nN.new _ _⟩
abbrev Ug (K:au):R2:=λx y H Q=>∃a b xs ys,x=.ref a/\y=.ref b/\m9 K H a xs/\m9 K H b ys/\xs≠[]/\xs.length+ys.length<=sizeLine /\
 (ys=[]->Q (.ref a) H)/\(ys≠[]->∀p,H p=none->Q (.ref p) (upd H p (.tup (xs++ys))))
def Vals.zY(r:Vals xs us):us=[] ↔ xs=[]:=by
 cases r with
 | nil=>simp
 | cons _ _=>simp
def Nb:n8 X (binaryOp .Add) (Ug X.K):=by
 gn_on;obtain⟨a,b,xs,ys,rfl,rfl,ha,hb,hx,hz,q1,q2⟩:=h
 cases rx
 cases ry
 obtain⟨its,r1,p1,_⟩:=I.tuple ha;obtain⟨its2,r2,p2,_⟩:=I.tuple hb;refine HT.Ni p1 p2 (λz=>hx (r1.zY.mp z)) (λz=>⟨.ref a,H,I,rfl,q1 (r2.zY.mp z)⟩) (λz=>?_) (by rw[<- r1.length,<- r2.length];exact hz);refine⟨.ref s.heap.objs.size,_,I.laid (t':=s.toks) (o:=.tup (xs++ys)) (λb ob q=>aO _ q) (aP _) ?_,rfl,q2 (λw=>z (r2.zY.mpr w)) _ (I.hok.fresh (aP _))⟩;exact⟨by rw[aU];exact hz,_,r1.append r2,nN.new _ _⟩
end
abbrev yy (n:Nat)(i:Int):bi:=if 0<=i then(if i<n then some i.toNat else none)else if -(n:Int)<=i then some (i+n).toNat else none
abbrev nQ {α:Type}(xs:List α)(i:Int):Option α:=(yy xs.length i).bind λj=>xs[j]?
def Eo{n:Nat}{i:Int}(h:yy n i=some j):seqIndex? i n=some j/\j<n/\-(n:Int)<=i/\i<n:=by
 unfold yy at h;by_cases h0:0<=i
 ·rw[aN h0]at h;by_cases h1:i<n
  ·rw[aN h1]at h;have e:i.toNat=j:=aW h;exact⟨by rw[seqIndex_of h0 h1,e],(),(),h1⟩
  ·rw[aM h1]at h;cases h
 ·rw[aM h0]at h;by_cases h1:-(n:Int)<=i
  ·rw[aN h1]at h;have e:(i+n).toNat=j:=aW h;exact⟨by rw[seqIndex_neg () h1,e],(),h1,()⟩
  ·rw[aM h1]at h;cases h
def zD{α:Type}{xs:List α}{i:Int}{v:α}(h:nQ xs i=some v):∃j,seqIndex? i xs.length=some j/\xs[j]?=some v/\j<xs.length/\-(xs.length:Int)<=i/\i<xs.length:=by
 unfold nQ at h
 cases e:yy xs.length i with
 | none=>rw[e]at h;cases h
 | some j=>
  rw[e]at h;obtain⟨h1,h2,h3,h4⟩:=Eo e;exact⟨j,h1,h,h2,h3,h4⟩
def Nz{α:Type}{xs:List α}{j:Nat}{v:α}(h:xs[j]?=some v):nQ xs (j:Int)=some v:=by
 have hj:j<xs.length:=(aK.mp h).1;have e:yy xs.length (j:Int)=some j:=by
  unfold yy;rw[aN (),aN ()];simp
 unfold nQ;rw[e];exact h
def B4{α:Type}(xs:List α)(v:α):nQ (xs++[v]) (-1)=some v:=by
 have hl:(xs++[v]).length=xs.length+1:=by simp
 have e:yy (xs++[v]).length (-1)=some xs.length:=by
  unfold yy;rw[hl,aM ⋯,aN ()];congr 1
  lia
 unfold nQ;rw[e]
 skip
 simp
abbrev Av (b:aE):Prop:=∀o i,subscripted b false o i=operate [o,i] (getItem o i)
abbrev PN (X:Cx)(r:R2):Prop:=
 ∀(value slice:aE) (pins:bj) (s:aC) (σ:St) (H:Hp) (x y:V) (v u:af) (Q:VK),Inv X pins σ H s->RelV x v->RelV y u->r x y H Q ->
  subscripted slice false v u=operate [v,u] (getItem v u)->wpAny (model X.prog X.w) X.A (subscriptTail value slice v u) (EP X pins σ Q) X.xe s
abbrev II (X:Cx)(id:String)(r:V->List V->Hp->VK->Prop):Prop:=
 ∀(pins:bj) (s:aC) (σ:St) (H:Hp) (x:V) (xs:List V) (v:af) (us:ap) (Q:VK),Inv X pins σ H s->RelV x v->Vals xs us->r x xs H Q ->
  wpAny (model X.prog X.w) X.A (call (.builtin id) (v::us)) (EP X pins σ Q) X.xe s
section
variable {X:Cx}{a b:aE}{ta tb:TE}{pos:Pos}
def O0{r:R2}(hr:PN X r)(ha:PE X a ta)(hb:PE X b tb)(hs:Av b):PE X (.Subscript a b pos) (Tr r ta tb):=by
 x_go;exact Subscript_ (QK ha hb I h λv u s2 x y H2 I2 rx ry q=>hr a b pins s2 σ H2 x y v u Q I2 rx ry q (hs _ _))
abbrev Vo (K:au):R2:=λx y H Q=>∃p xs i v,x=.ref p/\y=.int i/\nB K H p xs/\nQ xs i=some v/\Q v H
abbrev Vs (K:au):R2:=λx y H Q=>∃p xs i v,x=.ref p/\y=.int i/\m9 K H p xs/\nQ xs i=some v/\Q v H
abbrev Vf:R2:=λx y H Q=>∃z i c,x=.str z/\y=.int i/\z.length<=sizeLine/\nQ z.cps.toList i=some c/\Q (.str ⟨#[c]⟩) H
def F5:PN X (Vo X.K):=by
 mg_lt;obtain⟨p,xs,i,z,rfl,rfl,hq,he,q⟩:=h
 cases rx
 obtain⟨t,rfl⟩:=ry;obtain⟨its,r,pl,hz⟩:=I.list hq;obtain⟨j,h1,h2,h3,h4,h5⟩:=zD he;obtain⟨w,ew,rw'⟩:=r.get h2;have hl:=r.length;have hn:=q_;have fin:EP X pins σ Q w s:=⟨z,H,I,rw',q⟩;by_cases h0:0<=i
 ·have hj:i.toNat=j:=by
   rw[seqIndex_of h0 h5]at h1;exact aW h1
  exact item_listR pl.isList h0 () (by rw[hj];simpa using ew) fin hs
 ·have hj:(i+(its.toArray.size:Int)).toNat=j:=by
   rw[seqIndex_neg () h4]at h1;rw[aS,<- hl];exact aW h1
  exact subscriptTail_builtinR (x:=w) pl.isList.typeIs i_.lookup
   (wpAny_getItem_list_neg (Q:=λr s'=>r=w/\EP X pins σ Q r s') pl.isList () (by rw[aS]<;>lia) () (by rw[hj];simpa using ew) ⟨rfl,fin⟩) hs
def QU:PN X (Vs X.K):=by
 mg_lt;obtain⟨p,xs,i,z,rfl,rfl,hq,he,q⟩:=h
 cases rx
 obtain⟨t,rfl⟩:=ry;obtain⟨its,r,pl,hz⟩:=I.tuple hq;obtain⟨j,h1,h2,h3,h4,h5⟩:=zD he;obtain⟨w,ew,rw'⟩:=r.get h2;have hl:=r.length;have hn:=q_;have fin:EP X pins σ Q w s:=⟨z,H,I,rw',q⟩;exact subscriptTail_builtinR (x:=w) pl.typeIs slot_tuple_getitem.lookup
  (getItem_tuple (j:=j) (Q:=λr s'=>r=w/\EP X pins σ Q r s') pl () () (by rw[aS,<- hl];exact h1) (by simpa using ew) ⟨rfl,fin⟩) hs
def QE:PN X Vf:=by
 mg_lt;obtain⟨z,i,c,rfl,rfl,hz,he,q⟩:=h;kl_no;obtain⟨t',rfl⟩:=ry;obtain⟨j,h1,h2,h3,h4,h5⟩:=zD he;have hl:z.cps.toList.length=z.length:=by simp[Str.length]
 rw[hl]at h1 h4 h5;have hn:=q_;exact tail_any (typeIs_str s z t) slot_str_getitem.lookup (getItem_str (c:=c) (by
  have e1:decide (i < -(2 ^ 63:Int))=false:=bu ();have e2:decide (i>=2 ^ 63)=false:=bu ();rw[e1,e2,Bool.or_false]) (by rw[h1];simpa using h2) ⟨.str ⟨#[c]⟩,H,I.tok _,⟨_,rfl⟩,q⟩) hs
def Cp(its:ap)(n j:Nat)(u:af):Obj.mapSeq (·.setIfInBounds j u) { cls:=.type "list",data:=.seq its.toArray n }={ cls:=.type "list",data:=.seq (its.set j u).toArray n }:=by
 simp[Obj.mapSeq]
def Inv.lst{H:Hp}{s:aC}{p:ak}{xs:List V}(I:Inv X pins σ H s)(h:H p=some (.lst xs)) :
  ∃(its:ap) (n:Nat),Vals xs its/\s.heap.get? p=some { cls:=.type "list",data:=.seq its.toArray n }/\xs.length<=sizeLine:=by
 obtain⟨z,its,n,r,e⟩:=I.hok p _ h;exact⟨its,n,r,e,z⟩
def Inv.O_{H:Hp}{s:aC}{p:ak}{ys:List V}{its its':ap}{n:Nat}{f:Obj->Obj}(I:Inv X pins σ H s)(h:H p=some (.lst xs))
  (ho:s.heap.get? p=some { cls:=.type "list",data:=.seq its.toArray n }) (hf:f { cls:=.type "list",data:=.seq its.toArray n }={ cls:=.type "list",data:=.seq its'.toArray n' }) (r:Vals ys its') (hz:ys.length<=sizeLine) (t:Nat) :
  Inv X pins σ (upd H p (.lst ys)) { s with heap:=s.heap.update p f,toks:=t }:=by
 have e:(s.heap.update p f).get? p=some { cls:=.type "list",data:=.seq its'.toArray n' }:=by
  rw[gW f ho (by rw[hf]<;>rfl),hf]
 refine I.write (x:=p) (e:=p) (by rw[h];trivial) (.inl rfl) (λb u hb q=>(Heap.get?_update_other _ _ (gp hb)).trans q) ⟨_,e⟩ ?_;exact⟨hz,its',n',r,e⟩
abbrev UB:V->V->V->Hp->(Hp->Prop)->Prop:=λo i v H Q=>∃p xs k j,o=.ref p/\i=.int k/\H p=some (.lst xs)/\yy xs.length k=some j/\Q (upd H p (.lst (xs.set j v)))
def set_list:GL X UB:=by
 intro pins s σ H o i v ov iv u Q I ro ri rv h;obtain⟨p,xs,k,j,rfl,rfl,hp,hj,q⟩:=h
 cases ro
 obtain⟨t,rfl⟩:=ri;obtain⟨its,n,r,ho,hz⟩:=I.lst hp;obtain⟨h1,h2,h3,h4⟩:=Eo hj;have hl:=r.length;have hn:=q_;have I':Inv X pins σ (upd H p (.lst (xs.set j v))) { s with heap:=s.heap.update p (Obj.mapSeq (·.setIfInBounds j u))}:=
  I.O_ hp ho (Cp its n j u) (r.set rv j) (by rw[bR];exact hz) s.toks
 by_cases h0:0<=k
 ·have hk:k.toNat=j:=by
   rw[seqIndex_of h0 h4]at h1;exact aW h1
  exact PySem.W.ki_setAt ho h0 () (by rw[aS,<- hl];exact h4) (by rw[hk];exact⟨_,I',q⟩)
 ·have hk:(k+(its.toArray.size:Int)).toNat=j:=by
   rw[seqIndex_neg () h3]at h1;rw[aS,<- hl];exact aW h1
  exact PySem.W.ki_setBack ho () (by rw[aS,<- hl];exact h3) () (by rw[hk];exact⟨_,I',q⟩)
def zC(lo hi:bb)(n:Nat):(sliceBounds lo hi none n).1=((HT.mh n 0 lo:Nat):Int)/\(sliceBounds lo hi none n).2.1=((HT.mh n n hi:Nat):Int)/\(sliceBounds lo hi none n).2.2=1:=by
 refine⟨?_,?_,rfl⟩
 ·cases lo with
  | none=>simp[sliceBounds,HT.mh]
  | some i=>
   dsimp[sliceBounds,HT.mh,getD_none,show(1:Int)>0 by decide,di];by_cases h:i<0
   ·dsimp[h,di]<;>lia
   ·dsimp[h,bZ]<;>lia
 ·cases hi with
  | none=>simp[sliceBounds,HT.mh]
  | some i=>
   dsimp[sliceBounds,HT.mh,getD_none,show(1:Int)>0 by decide,di];by_cases h:i<0
   ·dsimp[h,di]<;>lia
   ·dsimp[h,bZ]<;>lia
def yD(its:ap)(lo hi:bb):slicePick its.toArray lo hi none=((its.drop (HT.mh its.length 0 lo)).take (HT.mh its.length its.length hi-HT.mh its.length 0 lo)).toArray:=by
 obtain⟨h1,h2,h3⟩:=zC lo hi its.toArray.size;unfold slicePick;rw[h1,h2,h3];dsimp[sliceRange_one,pick_run,aS]<;>rfl
abbrev V8 (K:au):V->bb->bb->Hp->VK->Prop:=λx lo hi H Q=>∃a xs,x=.ref a/\nB K H a xs/\∀p,H p=none->Q (.ref p) (upd H p (.lst (A6 xs lo hi)))
def D0:UZ X (V8 X.K):=by
 intro pins s σ H x v vl vu lo hi sl Q I rx hs pl pu h;obtain⟨a,xs,rfl,hx,q⟩:=h
 cases rx
 obtain⟨its,r,ht,hz⟩:=I.list hx;have hlen:=r.length;refine⟨"list",_,i_.lookup,ht.isList.typeIs,?_⟩;refine wpAny_getItem_list_slice ht.isList hs pl pu .none (by simp) ?_ (by rw[aS]<;>lia);rw[yD,<- hlen];refine⟨.ref s.heap.objs.size,_,I.laid (t':=s.toks) (o:=.lst (A6 xs lo hi)) (λb ob q=>aO _ q) (aP _) ?_,rfl,q _ (I.hok.fresh (aP _))⟩;exact⟨bV (vN xs lo hi) hz,_,0,(r.drop (HT.mh xs.length 0 lo)).take (HT.mh xs.length xs.length hi-HT.mh xs.length 0 lo),bg _ rfl⟩
abbrev qG:V->Bool
 | .non=>true
 | .bl _=>true
 | .int _=>true
 | .str _=>true
 | _=>false
abbrev Dm:V->V->Bool
 | .non,.non=>true
 | .bl a,.bl b=>a == b
 | .bl a,.int b=>(if a then 1 else 0) == b
 | .int a,.bl b=>a == (if b then 1 else 0)
 | .int a,.int b=>a == b
 | .str a,.str b=>a == b
 | _,_=>false
def Pn{A:aA}{x:V}{v:af}(ry:RelV y u)(rx:RelV x v)(fy:qG y=true)(fx:qG x=true):SeqAt.EqAt A s u v (Dm y x):=by
 cases y with
 | non=>
  cases ry
  cases x with
  | non=>cases rx;exact SeqAt.EqAt.same _
  | bl b=>cases rx;exact SeqAt.EqAt.none_bool b
  | int b=>obtain⟨t,rfl⟩:=rx;exact SeqAt.EqAt.none_int b t
  | str b=>obtain⟨t,rfl⟩:=rx;exact SeqAt.EqAt.none_str b t
  | _=>exact absurd (show false=true from fx) aY
 | bl a=>
  cases ry
  cases x with
  | non=>cases rx;exact SeqAt.EqAt.bool_none a
  | bl b=>cases rx;exact SeqAt.EqAt.bool_bool a b
  | int b=>obtain⟨t,rfl⟩:=rx;exact SeqAt.EqAt.bool_int a b t
  | str b=>obtain⟨t,rfl⟩:=rx;exact SeqAt.EqAt.bool_str a b t
  | _=>exact absurd (show false=true from fx) aY
 | int a=>
  obtain⟨t',rfl⟩:=ry
  cases x with
  | non=>cases rx;exact SeqAt.EqAt.int_none a t'
  | bl b=>cases rx;exact SeqAt.EqAt.int_bool a t' b
  | int b=>obtain⟨t,rfl⟩:=rx;exact SeqAt.EqAt.int_int a t' b t
  | str b=>obtain⟨t,rfl⟩:=rx;exact SeqAt.EqAt.int_str a t' b t
  | _=>exact absurd (show false=true from fx) aY
 | str a=>
  obtain⟨t',rfl⟩:=ry
  cases x with
  | non=>cases rx;exact SeqAt.EqAt.str_none a t'
  | bl b=>cases rx;exact SeqAt.EqAt.str_bool a t' b
  | int b=>obtain⟨t,rfl⟩:=rx;exact SeqAt.EqAt.str_int a t' b t
  | str b=>obtain⟨t,rfl⟩:=rx;exact SeqAt.EqAt.str_str a t' b t
  | _=>exact absurd (show false=true from fx) aY
 | _=>exact absurd (show false=true from fy) aY
abbrev Sf (x:V)(u:af):Bool:=match u with
 | .none=>Dm .non x
 | .bool b=>Dm (.bl b) x
 | .int i _=>Dm (.int i) x
 | .str z _=>Dm (.str z) x
 | _=>false
def Du{x:V}(r:RelV y u)(f:qG y=true):Sf x u=Dm y x:=by
 cases y with
 | non=>cases r;rfl
 | bl b=>cases r;rfl
 | int i=>obtain⟨t,rfl⟩:=r;rfl
 | str z=>obtain⟨t,rfl⟩:=r;rfl
 | _=>exact absurd (show false=true from f) aY
theorem xB{A:aA}{x:V}{v:af}(rx:RelV x v)(fx:qG x=true):∀{xs:List V}{us:ap},Vals xs us->xs.all qG=true->∀u∈us,SeqAt.EqAt A s u v (Sf x u)
 | _,_,.nil,_=>λu hu=>by cases hu
 | y::xs,u::us,.cons r t,f=>λu' hu=>by
  rw[jd,dM]at f
  rcases bL.mp hu with rfl|hu
  ·rw[Du r f.1];exact Pn r rx f.1 fx
  ·exact xB rx fx t f.2 u' hu
abbrev Ws (x:V)(xs:List V):Bool:=xs.any λy=>Dm y x
def qz:j5 X (.type "list") (λxs H Q=>∃p ys,xs=[.ref p]/\(nB X.K H p ys\/m9 X.K H p ys)/\∀l,H l=none->Q (.ref l) (upd H l (.lst ys))):=by
 w_up;obtain⟨p,ys,rfl,hq,q⟩:=h;kcf_m
 cases rx
 have fin:∀(its:ap),Vals ys its->ys.length<=sizeLine->∀(h':aq) (c':Nat),(∀b o',s.heap.get? b=some o'->h'.get? b=some o') ->
   h'.get? s.heap.objs.size=some { cls:=.type "list",dict:=none,data:=.seq its.toArray c',slots:=#[]}->EP X pins σ Q (.ref s.heap.objs.size) { s with heap:=h' }:=λits r' hz h' c' kp e=>
  ⟨.ref s.heap.objs.size,_,I.laid (t':=s.toks) kp (aP _) (show kP X.prog X.w _ h' _ (.lst ys)from⟨hz,its,c',r',e⟩),rfl,q _ (I.hok.fresh (aP _))⟩
 rcases hq with hq|hq
 ·obtain⟨its,r',pl,hz⟩:=I.list hq;have hlen:=r'.length;obtain⟨o,ho,hc,n,hd⟩:=pl.isList;exact call_list_seq p (.inl rfl) ho hc hd (λh' c' kp e=>fin its r' hz h' c' kp e) (by dsimp[aS]<;>lia)
 ·obtain⟨its,r',pl,hz⟩:=I.tuple hq;have hlen:=r'.length;obtain⟨o,ho,hc,n,hd⟩:=pl;exact call_list_seq p (.inr rfl) ho hc hd (λh' c' kp e=>fin its r' hz h' c' kp e) (by dsimp[aS]<;>lia)
def pP:j5 X (.type "tuple") (λxs H Q=>∃p ys,xs=[.ref p]/\((nB X.K H p ys/\∀l,H l=none->Q (.ref l) (upd H l (.tup ys)))\/(m9 X.K H p ys/\Q (.ref p) H))):=by
 w_up;obtain⟨p,ys,rfl,h⟩:=h;kcf_m
 cases rx
 rcases h with⟨hq,q⟩|⟨hq,q⟩
 ·obtain⟨its,r',pl,hz⟩:=I.list hq;have hlen:=r'.length;refine call_tuple_list pl.isList (λh' kp=>?_) (by dsimp[aS]<;>lia);have I1:Inv X pins σ H { s with heap:=h' }:=I.kept (t':=s.toks) kp;have I2:Inv X pins σ (upd H h'.objs.size (.tup ys)) { s with heap:=h'.push { cls:=.type "tuple",data:=.seq its.toArray }}:=
   I1.laid (t':=s.toks) (λb o e=>aO _ e) (aP _) (show kP X.prog X.w _ _ _ (.tup ys)from⟨hz,its,r',nN.new _ _⟩)
  exact⟨.ref h'.objs.size,_,I2,rfl,q _ (I1.hok.fresh (aP _))⟩
 ·obtain⟨its,r',pl,hz⟩:=I.tuple hq;exact call_tuple_same pl ⟨.ref p,H,I,rfl,q⟩
abbrev UO (K:au)(T:String)(x:V)(H:Hp):Prop:=match x with
 | .str _=>T = "str"
 | .int _=>T = "int"
 | .ref p=>(T = "list" /\ ∃xs,nB K H p xs)\/(T = "tuple" /\ ∃o,K.lookup p=some o/\o.cls=.type "tuple" /\ o.dict=none) \/
   (T = "dict" /\ ((∃kvs,H p=some (.dK kvs))\/∃kvs,H p=some (.dT kvs)))\/(T = "set" /\ ∃S n,H p=some (.set S n))
 | _=>False
def LA{H:Hp}{s:aC}{x:V}{v:af}(I:Inv X pins σ H s)(r:RelV x v)(ty:UO X.K T x H) :
  s.TypeIs v T/\∀a,v=.ref a->∃ob,s.heap.get? a=some ob/\ob.dict=none:=by
 cases x with
 | str z=>
  obtain⟨t,rfl⟩:=r
  cases(show T = "str" from ty)
  exact⟨typeIs_str s z t,nofun⟩
 | int i=>
  obtain⟨t,rfl⟩:=r
  cases(show T = "int" from ty)
  exact⟨typeIs_int s i t,nofun⟩
 | ref p=>
  cases r
  rcases ty with⟨rfl,xs,hq⟩|⟨rfl,o,hk,hc,hd⟩|⟨rfl,hk⟩|⟨rfl,S,n,hk⟩
  ·obtain⟨its,_,pl,_⟩:=I.list hq;refine⟨pl.isList.typeIs,λa e=>?_⟩
   cases e
   obtain⟨o,n,e,c,hd,_⟩:=pl;exact⟨o,e,hd⟩
  ·refine⟨⟨o,I.zM p o hk,hc⟩,λa e=>?_⟩
   cases e
   exact⟨o,I.zM _ o hk,hd⟩
  ·have z:∃o,s.heap.get? p=some o/\o.ExactDict:=by
    rcases hk with⟨kvs,hk⟩|⟨kvs,hk⟩
    ·obtain⟨_,_,_,_,o,_,_,e,ex,_⟩:=I.hok p _ hk;exact⟨o,e,ex⟩
    ·obtain⟨_,_,_,_,o,_,_,e,ex,_⟩:=I.hok p _ hk;exact⟨o,e,ex⟩
   obtain⟨o,e,ex⟩:=z;refine⟨⟨o,e,ex.1⟩,λa e2=>?_⟩
   cases e2
   exact⟨o,e,ex.2.1⟩
  ·obtain⟨o,_,_,_,e,ex,_⟩:=I.hok p _ hk;refine⟨⟨o,e,ex.1⟩,λa e2=>?_⟩
   cases e2
   exact⟨o,e,ex.2.1⟩
 | _=>exact False.elim ty
abbrev VI (K:au)(T:String)(r:V->List V->Hp->VK->Prop)(to:TE):TE:=λσ H Q=>to σ H λx H1=>UO K T x H1/\r x [] H1 Q
abbrev W9 (K:au)(T:String)(r:V->List V->Hp->VK->Prop)(to:TE)(t:TA):TE:=λσ H Q=>to σ H λx H1=>UO K T x H1/\t σ H1 λxs H2=>r x xs H2 Q
variable {o e:aE}{es:List aE}{to:TE}{t:TA}{name:Str}{apos cpos:Pos}{T id:String}{r:V->List V->Hp->VK->Prop}
def Pq(pa:PlainAttrs T)(slot:Slot T name id)(hty:typeOf (.builtin id)=pure (.type "method_descriptor"))(hm:II X id r)(ho:PE X o to)
  (hbase:attributeBase o name X.env (eval o X.env)=eval o X.env:=by rfl) (hline:(apos.endLine == cpos.line)=true:=by rfl):PE X (.Call (.Attribute o name apos) [] [] cpos) (VI X.K T r to):=by
 x_go;refine gC hbase hline (kR (ho pins s σ H _ I h) λv s1 ⟨x,H1,I1,r1,ty,q1⟩=>?_);obtain⟨h1,h2⟩:=LA I1 r1 ty;exact⟨T,id,pa,slot,hty,h1,h2,dB rfl (iP (hm pins s1 σ H1 x [] v [] Q I1 r1 .nil q1))⟩
def SE(pa:PlainAttrs T)(slot:Slot T name id)(hty:typeOf (.builtin id)=pure (.type "method_descriptor"))(hm:II X id r)(ho:PE X o to)(ha:PA X (e::es) t)
  (hbase:attributeBase o name X.env (eval o X.env)=eval o X.env:=by rfl)
  (hfew:((backTo cpos (starEach (e::es) X.env)).all (λx=>!x.1) && (backToKw cpos (keywordEach [] X.env)).all (λx=>x.1.isSome)
   && decide ((e::es).length+([]:List Keyword).length+(if ([]:List Keyword).isEmpty then 0 else 1)<30))=true:=by rfl)
  (hline:(apos.endLine == cpos.line)=true:=by rfl) (hs:starEach (e::es) X.env=(false,eval e X.env)::starEach es X.env:=by rfl) (hplain:(backTo cpos (starEach es X.env)).any (·.1)=false:=by rfl) :
  PE X (.Call (.Attribute o name apos) (e::es) [] cpos) (W9 X.K T r to t):=by
 x_go;refine wpAny_Call_method_late hbase hfew hline rfl (kR (ho pins s σ H _ I h) λv s1 ⟨x,H1,I1,r1,ty,q1⟩=>?_);obtain⟨h1,h2⟩:=LA I1 r1 ty;refine⟨T,id,pa,slot,hty,h1,h2,?_⟩;have hA:=ha cpos pins s1 σ H1 _ I1 q1;rw[hs]at hA ⊢;refine dB (by show(false || (backTo cpos (starEach es X.env)).any (·.1))=false;rw[hplain]<;>rfl) (iB ?_);exact kR hA λus s2 ⟨vs,H2,I2,r2,q2⟩=>hm pins s2 σ H2 x vs v us Q I2 r1 r2 q2
end
abbrev VC (X:Cx)(id:String)(r:V->List V->Hp->VK->Prop):Prop:=
 ∀(pins:bj) (s:aC) (σ:St) (H:Hp) (x:V) (xs:List V) (v:af) (us:ap) (Q:VK),Inv X pins σ H s->RelV x v->Vals xs us->r x xs H Q ->
  wpAny (model X.prog X.w) X.A (call (.builtin id) (v::us)) (EP X pins σ Q) X.xe s
def Vals.one:∀{x:V}{us:ap},Vals [x] us->∃u,us=[u]/\RelV x u
 | _,_,.cons r .nil=>⟨_,rfl,r⟩
def Vals.zero:∀{us:ap},Vals [] us->us=[]
 | _,.nil=>rfl
def Vals.dropLast{xs:List V}{us:ap}(h:Vals xs us):Vals xs.dropLast us.dropLast:=by
 induction h with
 | nil=>exact .nil
 | cons r t ih=>
  cases t with
  | nil=>exact .nil
  | cons q t'=>exact .cons r ih
theorem Vals.eraseIdx:∀{xs:List V}{us:ap}(i:Nat),Vals xs us->Vals (xs.eraseIdx i) (us.eraseIdx i)
 | _,_,_,.nil=>.nil
 | _,_,0,.cons _ t=>t
 | _,_,i+1,.cons r t=>.cons r (Vals.eraseIdx i t)
def Vals.reverse{xs:List V}{us:ap}(h:Vals xs us):Vals xs.reverse us.reverse:=by
 induction h with
 | nil=>exact .nil
 | cons r t ih=>rw[dR,dR];exact Vals.append ih (.cons r .nil)
theorem Vals.rep(h:Vals xs us):∀k:Nat,Vals (List.replicate k xs).flatten (List.replicate k us).flatten
 | 0=>.nil
 | k+1=>by
  rw[c8,c8,dS,dS];exact Vals.append h (Vals.rep h k)
def Dr{α:Type}(l:List α):l.eraseIdx (l.length-1)=l.dropLast:=by
 induction l with
 | nil=>rfl
 | cons a r ih=>
  cases r with
  | nil=>rfl
  | cons b r=>
   have e:(a::b::r).length-1=((b::r).length-1)+1:=by
    have h1:(a::b::r).length=r.length+2:=rfl;have h2:(b::r).length=r.length+1:=rfl
    lia
   rw[e,List.eraseIdx_cons_succ,ih]
   all_goals rfl
theorem zo{α:Type}:∀(l:List α) (i:Nat),(l.eraseIdx i).length<=l.length
 | [],_=>aP _
 | _::_,0=>Nat.le_succ _
 | _::r,i+1=>Nat.succ_le_succ (zo r i)
theorem foldl_rep(its:ap):∀(k:Nat) (acc:ap),
  List.foldl (λx1 x2=>x1++x2) acc.toArray (List.replicate k its.toArray)=(acc++(List.replicate k its).flatten).toArray
 | 0,acc=>by simp
 | k+1,acc=>by
  have e:acc.toArray++its.toArray=(acc++its).toArray:=by simp
  have e2:(acc++its)++(List.replicate k its).flatten=acc++(List.replicate (k+1) its).flatten:=by
   rw[c8,dS,bJ]
  rw[<- e2,<- foldl_rep its k (acc++its),<- e,c8,jt]
section
variable {X:Cx}{pins:bj}{σ:St}{H:Hp}{s:aC}{l:ak}{xs ys:List V}
def Inv.RY{its its':ap}{n:Nat}{f:Array af->Array af}{t':Nat}(I:Inv X pins σ H s)(hH:H l=some (.lst xs))
  (e:s.heap.get? l=some { cls:=.type "list",data:=.seq its.toArray n }) (hf:f its.toArray=its'.toArray) (hv:Vals ys its') (hz:ys.length<=sizeLine) :
  Inv X pins σ (upd H l (.lst ys)) { s with heap:=s.heap.update l (Obj.mapSeq f),toks:=t' }:=by
 have q:=PySem.IsL.update e f;rw[hf]at q;refine I.write (x:=l) (e:=l) (by rw[hH];exact trivial) (.inl rfl) (λb' u hb hu=>(Heap.get?_update_other s.heap (Obj.mapSeq f) (gp hb)).trans hu) ⟨_,q⟩ ?_;exact⟨hz,its',_,hv,q⟩
def Inv.LG{its:ap}{t':Nat}(I:Inv X pins σ H s)(hv:Vals ys its)(hz:ys.length<=sizeLine) :
  Inv X pins σ (upd H s.heap.objs.size (.lst ys)) { s with heap:=s.heap.push { cls:=.type "list",data:=.seq its.toArray },toks:=t' }:=
 I.laid (λ_ _ q=>aO _ q) (aP _) ⟨hz,its,0,hv,bg _ rfl⟩
def Inv.fresh(I:Inv X pins σ H s):H s.heap.objs.size=none:=I.hok.fresh (aP _)
def Inv.GP(I:Inv X pins σ H s)(hH:H l=some (.lst xs)):xs.length<=sizeLine/\∃(its:ap) (n:Nat),Vals xs its/\xs.length=its.length/\s.heap.get? l=some { cls:=.type "list",data:=.seq its.toArray n }:=by
 obtain⟨z,its,n,r,e⟩:=I.hok l _ hH;exact⟨z,its,n,r,r.length,e⟩
def JN{n:Nat}(h:n<=sizeLine):Builtin.List.listTooLong n=false:=by
 unfold Builtin.List.listTooLong;exact bu ()
end
section
variable {X:Cx}
abbrev Np:V->List V->Hp->VK->Prop:=λx vs H Q=>∃l xs y,x=.ref l/\vs=[y]/\H l=some (.lst xs)/\xs.length<sizeLine/\Q .non (upd H l (.lst (xs++[y])))
def vC:VC X "list.append" Np:=by
 intro pins s σ H x vs v us Q I rx rv h;obtain⟨l,xs,y,rfl,rfl,hH,hz,q⟩:=h
 cases rx
 obtain⟨u,rfl,ru⟩:=rv.one;obtain⟨z,its,n,r,hl,e⟩:=I.GP hH;refine fM F.slot_list_append ⟨_,e,rfl⟩ F.entry_list_append (F.args_list_append_2 _ _) (PySem.list_append l its.toArray n u (by rw[aS];lia)) ⟨e,?_⟩;refine⟨.non,_,I.RY (its':=its++[u]) hH e (by simp) (r.append (.cons ru .nil)) ?_,rfl,q⟩;rw[aU,c_]
 lia
abbrev VO:V->List V->Hp->VK->Prop:=λx vs H Q=>∃l xs y,x=.ref l/\vs=[]/\H l=some (.lst xs)/\xs[xs.length-1]?=some y/\Q y (upd H l (.lst xs.dropLast))
def Rh:VC X "list.pop" VO:=by
 intro pins s σ H x vs v us Q I rx rv h;obtain⟨l,xs,y,rfl,rfl,hH,hy,q⟩:=h
 cases rx
 have hus:=rv.zero;subst hus;obtain⟨z,its,n,r,hl,e⟩:=I.GP hH;obtain⟨u,hu,ru⟩:=r.get hy;have hy':its.toArray[its.toArray.size-1]?=some u:=by
  show its.toArray[its.length-1]?=some u;rw[<- cZ,<- hl];exact hu
 refine fM F.slot_list_pop ⟨_,e,rfl⟩ F.entry_list_pop (F.args_list_pop_1 _) (MeetsSeq.list_pop_last l its.toArray n u hy' (by rw[aS];lia)) ⟨e,?_⟩;refine⟨y,_,I.RY (its':=its.dropLast) hH e ?_ r.dropLast ?_,ru,q⟩
 ·skip
  rw[aS,eU,Dr]
 ·rw[List.length_dropLast]
  lia
abbrev O9:V->List V->Hp->VK->Prop:=λx vs H Q=>∃l xs i k y,x=.ref l/\vs=[.int i]/\H l=some (.lst xs)/\-(2 ^ 63)<=i/\i<2 ^ 63/\seqIndex? i xs.length=some k/\xs[k]?=some y/\Q y (upd H l (.lst (xs.eraseIdx k)))
def KS:VC X "list.pop" O9:=by
 intro pins s σ H x vs v us Q I rx rv h;obtain⟨l,xs,i,k,y,rfl,rfl,hH,h1,h2,hk,hy,q⟩:=h
 cases rx
 obtain⟨u,rfl,ru⟩:=rv.one;obtain⟨t,rfl⟩:=ru;obtain⟨z,its,n,r,hl,e⟩:=I.GP hH;obtain⟨w,hw,rw'⟩:=r.get hy;refine fM F.slot_list_pop ⟨_,e,rfl⟩ F.entry_list_pop (F.args_list_pop_2 _ _)
  (MeetsSeq.list_pop_at l its.toArray n i t k w (fitsIndex_both h1 h2) (by rw[aS,<- hl];exact hk) (by rw[<- cZ];exact hw) (by rw[aS];lia)) ⟨e,?_⟩
 refine⟨y,_,I.RY (its':=its.eraseIdx k) hH e ?_ (r.eraseIdx k) ?_,rw',q⟩
 ·skip
  rw[eU]
 ·have:=zo xs k
  lia
abbrev U_:R2:=λx y H Q=>∃l b xs zs,x=.ref l/\y=.ref b/\H l=some (.lst xs)/\H b=some (.lst zs)/\xs.length+zs.length<=sizeLine/\∀p,H p=none->Q (.ref p) (upd H p (.lst (xs++zs)))
def RP:n8 X (binaryOp .Add) U_:=by
 gn_on;obtain⟨l,b,xs,zs,rfl,rfl,hH,hB,hz,q⟩:=h
 cases rx
 cases ry
 obtain⟨z,its,n,r,hl,e⟩:=I.GP hH;obtain⟨z2,its2,n2,r2,hl2,e2⟩:=I.GP hB;refine PySem.P.add_list e e2 ?_ (by rw[aS,aS];lia);have ea:its.toArray++its2.toArray=(its++its2).toArray:=by simp
 rw[ea];exact⟨.ref _,_,I.LG (t':=s.toks) (r.append r2) (by rw[aU];lia),rfl,q _ I.fresh⟩
abbrev Vh:R2:=λx y H Q=>∃l k xs,x=.ref l/\y=.int k/\H l=some (.lst xs)/\-(2 ^ 63)<=k/\k<2 ^ 63/\xs.length * k.toNat<=sizeLine /\
 ∀p,H p=none->Q (.ref p) (upd H p (.lst (List.replicate k.toNat xs).flatten))
def len_rep{α:Type}(xs:List α)(k:Nat):(List.replicate k xs).flatten.length=k * xs.length:=by
 induction k with
 | zero=>simp
 | succ k ih=>rw[c8,dS,aU,ih,Nat.succ_mul,Nat.add_comm]
def R_:n8 X (binaryOp .Mult) Vh:=by
 gn_on;obtain⟨l,k,xs,rfl,rfl,hH,h1,h2,hz,q⟩:=h
 cases rx
 obtain⟨t,rfl⟩:=ry;obtain⟨z,its,n,r,hl,e⟩:=I.GP hH;have hlen:its.toArray.size * k.toNat<=sizeLine:=by rw[aS,<- hl];exact hz
 have hcap:¬its.toArray.size * k.toNat>(2 ^ 63-1) / 8:=by
  have:(sizeLine:Nat)<=(2 ^ 63-1) / 8:=by decide
  omega
 have hfit:¬(!Builtin.List.listFitsIndex k)=true:=by
  rw[fitsIndex_both h1 h2];exact aY
 have hlong:¬Builtin.List.listTooLong (its.toArray.size * k.toNat)=true:=by
  rw[JN hlen];exact aY
 have hnew:List.foldl (λx1 x2=>x1++x2) #[] (List.replicate (if its.toArray.isEmpty=true then 0 else k.toNat) its.toArray)=(List.replicate k.toNat its).flatten.toArray:=by
  have f0:∀m:Nat,List.foldl (λx1 x2=>x1++x2) #[] (List.replicate m its.toArray)=(List.replicate m its).flatten.toArray:=λm=>by
   have:=foldl_rep its m [];rw[List.nil_append]at this;exact this
  rw[f0]
  cases its with
  | nil=>simp
  | cons a r'=>rw[aM (by simp)]
 refine wpAny_binaryOp_repeat_ref (T := "list") (U := "int") ⋯ ⟨_,e,rfl⟩ (λs'=>typeIs_int s' k t) noFill_list_mul F.fills_int_mul F.slot_int_rmul repeat_list F.slot_int_index.lookup
  (fM F.slot_int_rmul (typeIs_int s k t) F.entry_int_rmul (F.args_int_rmul_2 _ _) (int___rmul___int_list k t l its.toArray n)
   ⟨e,rfl,⟨_,e,rfl⟩,fM F.slot_list_mul ⟨_,e,rfl⟩ F.entry_list_mul (F.args_list_mul_2 _ _) (AutoListH.list___mul___list_int_3 l its.toArray n k t hfit hcap hlong) ⟨e,?_⟩⟩)
 rw[hnew];exact⟨.ref _,_,I.LG (t':=s.toks) (r.rep k.toNat) (by rw[len_rep,mul_comm];exact hz),rfl,q _ I.fresh⟩
end
end L2
namespace Att
open PySem PySem.W PySem.Calls PyProof.Rows
def vZ{P:Params}:∀(ns:ae) (vs:ap),WellAll P h vs (ns.map WData.int)->IntsAre vs ns:=by
 intro ns
 induction ns with
 | nil=>
  intro vs w;rw[map_nil]at w
  cases w
  exact .nil
 | cons n ns ih=>
  intro vs w;rw[b9]at w
  cases w with
  | cons a b=>
   cases a
   exact .cons _ _ (ih _ b)
def GD{l:OpenLaw}{n:Nat}(hn:l.most=some n){P:Params}{h:aq}
  (hpre:l.row.toRowW.claim.pre args=true) (hwl:WellAll P h vals args) :
  ∃a vs ns,vals=[Value.ref a]/\args=[WData.list (ns.map WData.int)]/\h.get? a=some { cls:=.type "list",data:=.seq vs.toArray }/\IntsAre vs ns/\ns.length<=n:=by
 have hsh:WShape.hasAll [] args [.list .int]=true:=(pre_splitW hpre).1;have hc:l.pre.holds [] { args:=args }=true:=(pre_splitW hpre).2;obtain⟨d,r,rfl,h1,h2⟩:=hasAllW_cons hsh;obtain rfl:=hasAllW_nil h2;obtain⟨xs,rfl,h3⟩:=hasW_list h1;obtain⟨ns,rfl⟩:=items_int h3;have hlen:ns.length<=n:=by
  unfold OpenLaw.pre at hc;have h4:(WTm.not (.lt (.lit (.int (n:Int))) (.len (.arg 0)))).holds [] { args:=[.list (ns.map .int)]}=true:=by
   have h4:=(holds_andW hc).1;rw[hn]at h4;exact h4
  have h5:=condW_of h4 (w_not (w_lt w_lit (w_len_list (w_arg rfl))));rw[aL]at h5;refine Nat.le_of_not_lt λq=>?_;have q':(n:Int)<((ns.length:Nat):Int):=by omega
  first
   | (rw[br q']at h5;exact absurd h5 ⋯)
   | (simp at h5;omega)
 cases hwl with
 | cons w1 w2=>
  cases w2
  cases w1 with
  | list ho hall=>exact⟨_,_,ns,rfl,rfl,ho,vZ ns _ hall,hlen⟩
def Gs(l:OpenLaw)(args:List WData):l.row.toRowW.claim.post args (.bool true) args=true:=
 postW_of (r:=l.row.toRowW) (X:=(true == true))
  (show WShape.has [] (.bool true) .bool=true by first|rfl|decide|simp[WShape.has,WShape.arms,WShape.armsAll])
  (show(WTm.eq .res (.lit (.bool true))).value [] { args:=args,res:=some (.bool true),after:=args }=some (.bool (true == true))from w_eq_bool (w_res rfl) w_lit) rfl
def By{l:OpenLaw}{n:Nat}{q:aj}{XP:(Str->ba)->aq->Prop}{YP:ah->aq->Prop}{d:DefRec}
  (hn:l.most=some n) (hdf:d.params.defaults=[])
  (call:∀(w:ah) (s₀ s₁:aC) (mg mb:Str->ba) (fa:ak) (o:Obj) (pm cd doc:af) (a:ak) (vs:ap) (ns:ae),
   Ground q loose [] XP w s₀ mg mb s₁.heap->YP w s₁.heap ->
   s₁.heap.get? fa=some o->o.data=.func (docDef d.name d.params d.body d.scope pm cd doc)->s₁.heap.CodeRec cd d.name->mg d.name=some (.ref fa) ->
   s₁.heap.get? a=some { cls:=.type "list",data:=.seq vs.toArray }->IntsAre vs ns->ns.length<=n->s₁.gens=#[] ->
   codeAny (model l.prog w) callerA (.call (.ref fa) ⟨[.ref a],[]⟩) (λr s'=>r=.ok (.ret (.bool true))/\OldK s₁.heap s'.heap/\s'.os=s₁.os/\AllBare s'.gens) s₁) :
  WalkO q loose XP YP l.row.toRowW d [] (λf vs=>PySem.call f vs):=by
 intro w s₀ s₁ mg mb G Y fa o pm cd doc dV kV ho hd hcd hD hmg hg args vals as hpre hlay hrd hwl hlo;obtain rfl:dV=.none:=Dflts.none hD hdf;obtain rfl:kV=.none:=Dflts.noKw hD;obtain⟨a,vs,ns,rfl,rfl,hobj,hints,hlen⟩:=GD hn hpre hwl;refine enter_call (iS (call w s₀ s₁ mg mb fa o pm cd doc a vs ns G Y ho (fd_plain hd) hcd hmg hobj hints hlen hg) λr s' hq=>?_);obtain⟨rfl,h2,h3,h4⟩:=hq;exact⟨.inl ⟨.bool true,.bool true,[],rfl,λ_=>rfl,.bool true,Gs l _,λ_=>⟨List.Pairwise.nil,λ_ hm=>(nomatch hm)⟩⟩,h2,h3,h4⟩
end Att
namespace L2
open PySem PySem.Spec PyProof.Rows
theorem vI:∀{vs:ap}{ns:ae},IntsAre vs ns->Vals (ns.map V.int) vs
 | _,_,.nil=>.nil
 | _,_,.cons n t h=>.cons ⟨t,rfl⟩ (vI h)
abbrev Mc (H:Hp):Prop:=∀b,H b=none\/∃o xs,H b=some (.frz o (.lst xs))
def Kq{P:aj}{w:ah}{K:au}{mg mb:Str->ba}{CX:Ma}{k:Nat}{fa a:ak}{fd:FuncData}{x:Str}{sp:Sp}{s₁:aC}{vs:ap}{ns:ae}
  (KX:K.In s₁.heap) (hns:s₁.heap.Ns mainGlobals mg) (hb:s₁.heap.Ns builtinsNs mb) (hbb:∀x:Str,x ≠ "__name__" -> mb x=bootBuiltins x) (hlim:s₁.heap.NoLimit) (hg:s₁.gens=#[])
  (ha:s₁.heap.get? a=some { cls:=.type "list",data:=.seq vs.toArray }) (hi:IntsAre vs ns) (hl:ns.length<=sizeLine) (hr:Room k callerA)
  (F:∀base:aq,K.In base->base.Ns mainGlobals mg->FnOk P w K mg base CX k fa fd [x] sp) (hbind:∀(s:aC) (u:af),BindsTo s fd ⟨[u],[]⟩ [(x,u)])
  (hsp:∀H:Hp,Mc H->nB K H a (ns.map V.int)->sp [.ref a] H (λv _=>v=.bl true) λ_ _ _=>False)
  (hCX:∀H e s',CX [] H s₁ (λ_ _ _=>False) e s'->False) :
  codeAny (model P w) callerA (.call (.ref fa) ⟨[.ref a],[]⟩) (λr s'=>r=.ok (.ret (.bool true))/\OldK s₁.heap s'.heap/\s'.os=s₁.os/\AllBare s'.gens) s₁:=by
 have rv:=vI hi;have lenV:=hi.length;have core:∀H:Hp,Mc H->nB K H a (ns.map V.int)->tZ P w H s₁.heap->(∀b,H b≠none->b=a)->(H a≠none->K.lookup a=none) ->
   codeAny (model P w) callerA (.call (.ref fa) ⟨[.ref a],[]⟩) (λr s'=>r=.ok (.ret (.bool true))/\OldK s₁.heap s'.heap/\s'.os=s₁.os/\AllBare s'.gens) s₁:=by
  intro H hO hS hok hA hK;have base_of:∀{b:ak} {o:Obj},s₁.heap.get? b=some o->H b=none->(AD s₁.heap H).get? b=some o:=λe n=>Hz e n;have noA:∀{b:ak} {o:Obj} {es:Array DictEntry} {ep:Nat},s₁.heap.get? b=some o->o.data=.dict es ep->H b=none:=λ{b o es ep} e d=>by
   cases q:H b with
   | none=>rfl
   | some u=>
    have e':b=a:=hA b (by rw[q];simp);subst e';rw[ha]at e;cases e;have d':Data.seq vs.toArray _=Data.dict es ep:=d
    cases d'
  have nsK:∀{b:ak} {m:Str->ba},s₁.heap.Ns b m->(AD s₁.heap H).Ns b m:=λ{b m} ⟨o,es,ep,e,d,r⟩=>⟨o,es,ep,base_of e (noA e d),d,r⟩;have hKb:K.In (AD s₁.heap H):=λb o e=>base_of (KX b o e) (by
   cases q:H b with
   | none=>rfl
   | some u=>
    have e':b=a:=hA b (by rw[q];simp);subst e';rw[hK (by rw[q];simp)]at e;cases e)
  have hM:Mod K mg (AD s₁.heap H):=⟨hKb,nsK hns,⟨mb,nsK hb,hbb⟩,let⟨mc,h1,h2⟩:=hlim;⟨mc,nsK h1,h2⟩⟩;have e0:Env0 P w K mg (AD s₁.heap H) callerA [] s₁ H:=⟨rfl,hM,λb o e=>Mt e,Nat.le_of_eq (GC _ _),trivial,λb hb=>absurd (show b∈([]:ar)from hb) (by simp),hok,.of_eq hg⟩;refine iS ((F _ hKb (nsK hns)).run callerA [] s₁ H ⟨[.ref a],[]⟩ [.ref a] [.ref a] _ _ hr e0 (hbind s₁ (.ref a)) (.cons rfl .nil) (hsp H hO hS)) λr s' h=>?_
  cases r with
  | error e=>exact(hCX H e s' h).elim
  | ok fl=>
   cases fl with
   | next=>exact False.elim h
   | brk=>exact False.elim h
   | cont=>exact False.elim h
   | ret u=>
    obtain⟨v,H',os,bare,un,hok',r',q⟩:=h;have q':v=.bl true:=q;subst q';obtain rfl:u=Value.bool true:=r';refine⟨rfl,OldK.of_keep λb o e=>?_,os,bare⟩
    cases q:H b with
    | none=>exact un.keep b o e q (by intro z;exact absurd (show b∈([]:ar)from z) (by simp)) (by simp)
    | some u=>
     rcases hO b with z|⟨ob,xs,z⟩
     ·rw[q]at z;cases z
     ·have z2:=un.frzs b ob _ z;obtain⟨e1,_⟩:=hok b _ z;obtain⟨e2,_⟩:=hok' b _ z2;rw[e]at e1;cases e1;exact e2
 cases hk:K.lookup a with
 | some o=>
  have e:=KX a o hk;rw[ha]at e
  cases e
  refine core (λ_=>none) (λ_=>.inl rfl) (.inr ⟨_,vs.toArray,_,hk,rfl,rfl,rfl,by rw[aS,lenV];exact hl,by simpa using rv⟩) (λb u z=>by have z':(none:Option HO)=some u:=z;cases z') (λb z=>absurd rfl z) λz=>absurd rfl z
 | none=>
  refine core (λb=>if b=a then some (.frz { cls:=.type "list",data:=.seq vs.toArray } (.lst (ns.map V.int)))else none) (λb=>?_) (.inl (.inr ⟨{ cls:=.type "list",data:=.seq vs.toArray },aN rfl⟩)) (λb u z=>?_) (λb z=>?_) λ_=>hk
  ·by_cases hb:b=a
   ·exact .inr ⟨_,_,aN hb⟩
   ·exact .inl (aM hb)
  ·by_cases hb:b=a
   ·have z':=(aN hb).symm.trans z
    cases z'
    subst hb;exact⟨ha,by rw[aL];exact hl,vs,_,rv,ha⟩
   ·have z':=(aM hb).symm.trans z
    cases z'
  ·by_cases hb:b=a
   ·exact hb
   ·exact absurd (aM hb) z
def ML{l:PySem.W.OpenLaw}{n k:Nat}{q:aj}{XP:(Str->ba)->aq->Prop}{YP:ah->aq->Prop}{d:DefRec}{K:Params->au}{CX:ah->Ma}{sp:ah->Sp}{x:Str}
  (hn:l.most=some n) (hn2:n<=sizeLine) (hdf:d.params.defaults=[]) (hr:Room k callerA)
  (hY:∀(w:ah) (h:aq),YP w h->(K w.params).In h)
  (F:∀(w:ah) (mg:Str->ba) (fa:ak) (h:aq),(K w.params).In h->h.Ns mainGlobals mg->mg d.name=some (.ref fa) ->
   ∃fd:FuncData,(∀(s:aC) (u:af),BindsTo s fd ⟨[u],[]⟩ [(x,u)]) /\
    ∀base:aq,(K w.params).In base->base.Ns mainGlobals mg->FnOk l.prog w (K w.params) mg base (CX w) k fa fd [x] (sp w))
  (hsp:∀(w:ah) (H:Hp) (a:ak) (ns:ae),ns.length<=n->Mc H->nB (K w.params) H a (ns.map V.int)->sp w [.ref a] H (λv _=>v=.bl true) λ_ _ _=>False)
  (hCX:∀(w:ah) (H:Hp) (s:aC) (e:af) (s':aC),CX w [] H s (λ_ _ _=>False) e s'->False) :
  PySem.W.WalkO q loose XP YP l.row.toRowW d [] (λf vs=>PySem.call f vs):=by
 refine Att.By hn hdf λw s₀ s₁ mg mb fa o pm cd doc a vs ns G Y ho hd hcd hmg hobj hints hlen hg=>?_;have KX:=hY w _ Y;obtain⟨fd,hb,hF⟩:=F w mg fa _ KX G.T.g hmg;exact Kq KX G.T.g G.T.b G.T.builtins G.T.nolimit hg hobj hints (bV hlen hn2) hr hF hb (λH hO hS=>hsp w H a ns hlen hO hS) λH e s'=>hCX w H s₁ e s'
abbrev sA (s:aF):Arguments:=match s with
 | .FunctionDef _ a _ _ _ _ _ _ _ _=>a
 | _=>{ posonlyargs:=[],args:=[],vararg:=none,kwonlyargs:=[],kw_defaults:=[],kwarg:=none,defaults:=[]}
abbrev o5 (s:aF):List aF:=match s with
 | .FunctionDef _ _ b _ _ _ _ _ _ _=>b
 | _=>[]
abbrev jS (s:aF):Scope:=match s with
 | .FunctionDef _ _ _ _ _ _ sc _ _ _=>sc
 | _=>{ kind:=.function,names:=[],isGenerator:=false,isCoroutine:=false }
meta abbrev qy:Ma:=λ_ _ _ _ _ _=>False
meta abbrev E0:XK:=λ_ _ _=>False
def Uk{X:Cx}:Passes qy X E0:=λ_ _ _ _ _ _ _ h=>h.elim
structure Fun (K:au)(x qual:Str)(st:aF)(f:ak)(fd:FuncData):Prop where
 ex:∃(oc:af) (od:Option ak) (kV doc pm:af) (an:Option ak) (cdv ct:af) (osl:Array (ba)),
  fd=PySem.W.fnOf x qual (sA st) (o5 st) (jS st) .none kV doc pm an cdv ct/\K.lookup f=some ⟨oc,od,.func fd,osl⟩/\PySem.W.codeIn K cdv qual=true
 kp:PySem.W.keepIn K (.ref f)=true
section
variable {P:aj}{w:ah}{K:au}{mg:Str->ba}{base:aq}
def Fun.ok{x:Str}{st:aF}{f:ak}{fd:FuncData}{N ps:am}{k:Nat}{sp:Sp}(F:Fun K x qual st f fd)(S:FnScope N ps (jS st))(len:∀vs H Q E,sp vs H Q E->vs.length=ps.length)
  (hbody:∀(cdv:af) (A:aA) (outer:List Env) (s:aC) (H:Hp) (vs:List V) (Q:VK) (E:XK),Room k (A.deeper (envOfC qual (jS st) s.heap.objs.size f cdv))->sp vs H Q E ->
   ∃t,zN (CB qy P w K mg base N qual (jS st) f cdv A outer s H E).Ui (o5 st) t/\t { nx:=λ_ H'=>Q .non H',rt:=Q } (start N vs) H):FnOk P w K mg base qy (k+1) f fd ps sp:=by
 obtain⟨oc,od,kV,doc,pm,an,cdv,ct,osl,rfl,lk,hcd⟩:=F.ex;refine Us lk hcd S len λA outer s H vs Q E hr hsp=>?_;obtain⟨t,h,q⟩:=hbody cdv A outer s H vs Q E hr hsp;exact⟨t,h.Ui,q⟩
def Fun.binds{x:Str}{st:aF}{f:ak}{fd:FuncData}{ps:am}(F:Fun K x qual st f fd)
  (h:∀(kV doc pm:af) (an:Option ak) (cdv ct:af) (us:ap),us.length=ps.length->bindArgs (PySem.W.fnOf x qual (sA st) (o5 st) (jS st) .none kV doc pm an cdv ct) ⟨us,[]⟩=pure (ps.zip us)):Binds K fd ps []:=by
 obtain⟨oc,od,kV,doc,pm,an,cdv,ct,osl,rfl,lk,hcd⟩:=F.ex;exact .all (h kV doc pm an cdv ct)
def Qp{x:Str}{st:aF}{f:ak}{kV pm ct:af}(l:K.lookup f=some ⟨oc,od,.func (PySem.W.fnOf x qual (sA st) (o5 st) (jS st) .none kV doc pm an cdv ct),osl⟩)
  (c:PySem.W.codeIn K cdv qual=true) (k:PySem.W.keepIn K (.ref f)=true):Fun K x qual st f (PySem.W.fnOf x qual (sA st) (o5 st) (jS st) .none kV doc pm an cdv ct):=⟨⟨oc,od,kV,doc,pm,an,cdv,ct,osl,rfl,l,c⟩,k⟩
end
section
variable {X:Cx}
def pv(i:Nat){x:Str}(hN:X.N[i]?=some x:=by rfl)(hv:Sn X.env.scope x:=by first|exact Or.inl rfl|exact Or.inr (Or.inl rfl)|exact Or.inr (Or.inr rfl))(hd:(x == ("__debug__" : Str))=false:=by decide)
  (hcd:(x == ("__classdict__" : Str))=false:=by decide):PE X (.Name x pos) (TQ i):=HU hN hv hd hcd
end
set_option maxHeartbeats 4000000
abbrev MS (σ:St):bi->Option V
 | some j=>(σ[j]?).getD none
 | none=>none
abbrev v8 (env:Env):List (Str×NameKind)->List (Str×ak)->List (Str×ak)
 | [],cs=>cs
 | (n,k)::r,cs=>v8 env r (if k == .free then(n,(env.cells.lookup n).getD 0)::cs else cs)
def yp{scope:Scope}{env:Env}(h:∀y∈scope.names,y.2=.free->∃c,env.cells.lookup y.1=some c):closureFor scope env=pure (v8 env scope.names []):=by
 have key:∀(l:List (Str×NameKind)) (cs:List (Str×ak)),(∀y∈l,y.2=.free->∃c,env.cells.lookup y.1=some c) ->
   (forIn l cs (λ(x:Str×NameKind) (r:List (Str×ak))=>(match x with
    | (name,kind)=>if (kind == NameKind.free)=true then(do let c <- cellOf env name;pure (ForInStep.yield ((name,c)::r)))else pure (ForInStep.yield r):Sem (ForInStep (List (Str×ak))))))=(pure (v8 env l cs):Sem (List (Str×ak))):=by
  intro l
  induction l with
  | nil=>intro cs _;rfl
  | cons y r ih=>
   intro cs hl;obtain⟨n,k⟩:=y;rw[ju];by_cases hk:k=.free
   ·subst hk;obtain⟨c,hc⟩:=hl (n,.free) aR rfl;have e1:cellOf env n=pure c:=by
     unfold cellOf;rw[hc]
    dsimp[bQ,di,e1,pure_bind];rw[ih _ (λz hz=>hl z (aT _ hz))];dsimp[v8,bQ,di,hc,eZ]
   ·have hb:(k == NameKind.free)=false:=by simpa using hk
    dsimp[hb,bA,bZ,pure_bind];rw[ih _ (λz hz=>hl z (aT _ hz))];dsimp[v8,hb,bA,bZ]
 have:=key scope.names [] h;exact(dJ (λz=>z >>= λcs=>(pure cs:Sem (List (Str×ak)))) this).trans (pure_bind _ _)
theorem wW:∀{l:List (Str×NameKind)}{x:Str}{k:NameKind},l.lookup x=some k->(x,k)∈l
 | [],_,_,h=>nomatch h
 | (n,k')::r,x,k,h=>by
  rw[fS]at h
  cases hx:x == n with
  | true=>
   rw[hx]at h;have e:x=n:=by simpa using hx
   subst e
   cases h
   exact aR
  | false=>rw[hx]at h;exact aT _ (wW h)
theorem yQ{env:Env}{x:Str}{c:ak}:∀{l:List (Str×NameKind)}{cs:List (Str×ak)},(∀y∈l,y.2=.free->∃c,env.cells.lookup y.1=some c)->(v8 env l cs).lookup x=some c->env.cells.lookup x=some c\/cs.lookup x=some c
 | [],cs,_,h=>.inr h
 | (n,k)::r,cs,hl,h=>by
  have h':=yQ (l:=r) (λz hz=>hl z (aT _ hz)) h
  rcases h' with h'|h'
  ·exact .inl h'
  ·by_cases hk:k=.free
   ·subst hk;dsimp[bQ,di]at h';obtain⟨c',hc⟩:=hl (n,.free) aR rfl;rw[hc,eZ,fS]at h'
    cases hx:x == n with
    | true=>
     rw[hx]at h';have e:x=n:=by simpa using hx
     subst e;left;rw[hc];exact h'
    | false=>rw[hx]at h';exact .inr h'
   ·have hb:(k == NameKind.free)=false:=by simpa using hk
    dsimp[hb,bA,bZ]at h';exact .inr h'
theorem yY{env:Env}{x:Str}:∀{l:List (Str×NameKind)}{cs:List (Str×ak)},(cs.lookup x).isSome=true->((v8 env l cs).lookup x).isSome=true
 | [],cs,h=>h
 | (n,k)::r,cs,h=>by
  skip
  refine yY (l:=r) ?_;by_cases hk:(k == NameKind.free)=true
  ·rw[aN hk,fS]
   cases hx:x == n with
   | true=>rfl
   | false=>exact h
  ·rw[aM hk];exact h
theorem xy{env:Env}{x:Str}:∀{l:List (Str×NameKind)}{cs:List (Str×ak)},(x,NameKind.free)∈l->((v8 env l cs).lookup x).isSome=true
 | [],_,h=>nomatch h
 | (n,k)::r,cs,h=>by
  rcases bL.mp h with e|h
  ·cases e
   skip
   refine yY (l:=r) ?_;rw[aN (by rfl),fS];simp
  ·exact xy (l:=r) h
abbrev kO (X:Cx)(scope:Scope)(N:am)(C:ak)(s₀:aC)(H₀:Hp)(ex:ar):Cx where
 prog:=X.prog
 w:=X.w
 K:=X.K
 mg:=X.mg
 base:=X.base
 A:=X.A
 N:=N
 s₀:=s₀
 H₀:=H₀
 env:=compEnvC scope (v8 X.env scope.names []) C X.env
 outer:=X.stack
 stack:=X.stack
 ex:=ex
 fn:=λ_=>false
 calm:=X.calm
 pn:=[]
 xe:=λ_ _=>False
structure CpScope (X:Cx)(scope:Scope)(N:am)(cap:List (bi)):Prop where
 kind:scope.kind=.function
 nocell:∀y∈scope.names,y.2≠.cell
 nm:∀y∈scope.names,y.2=.local->scope.names.lookup y.1=some .local
 fr:∀y∈scope.names,y.2=.free->X.env.kindOf y.1=some .cell\/X.env.kindOf y.1=some .free
 rl:∀y,((relabel scope X.env).names.lookup y=some .cell\/(relabel scope X.env).names.lookup y=some .free)->(y,NameKind.free)∈scope.names
 len:cap.length=N.length
 nolf:∀x,(x,NameKind.free)∈scope.names->scope.names.lookup x≠some .local
 cp:∀(i j:Nat) (x:Str),N[i]?=some x->cap[i]?=some (some j)->X.N[j]?=some x/\(x,NameKind.free)∈scope.names
def Lz{X:Cx}{N:am}{cap:List (bi)}{H:Hp}{s:aC}{fp:ar}{h₁:aq}{m:Str->ba}{tk:Nat}(S:CpScope X scope N cap)(I:Inv X pins σ H s)
  (hf:∀b∈fp,rC X pins H b) (ho:∀b∈fp,∃o,s.heap.get? b=some o) (hn:h₁.Ns s.heap.objs.size m) (hk:∀b o,s.heap.get? b=some o->h₁.get? b=some o) :
  Inv (kO X scope N s.heap.objs.size s H fp) [] (cap.map (MS σ)) H { s with heap:=h₁,toks:=tk }:=by
 kpf_c;have lk:∀x c,(v8 X.env scope.names []).lookup x=some c->X.env.cells.lookup x=some c:=λx c e=>by
  rcases yQ hfree e with z|z
  ·exact z
  ·cases z
 have lt:∀b o,s.heap.get? b=some o->b≠s.heap.objs.size:=λb o e=>bD (aX e);refine⟨⟨I.ok.mod,?_,I.ok.glob,I.ok.blt,aP _,?_,?_,?_,I.ok.hd,I.ok.frames,.inl rfl,?_,I.bs,bV I.ok.bsz I.sz,?_,?_,I.stack,I.E3⟩,rfl,I.bare,Un.kept hk,?_,?_,I.hok.fresh (aP _),?_,?_,I.hok.kept hk,?_⟩
 ·exact S.kind
 ·intro x y c e1 e2;exact I.ok.inj x y c (lk x c e1) (lk y c e2)
 ·intro x e;have hm:=S.rl x e;have:=xy (env:=X.env) (cs:=[]) hm;exact f7.mp this
 ·intro x c e _;exact absurd e (by simp[kO])
 ·intro b hb;obtain⟨o,e⟩:=ho b hb;refine⟨lt b o e,λx c e2=>(hf b hb).2.2.2.2.1 x c (lk x c e2)⟩
 ·intro b o e hb;obtain⟨_,_,_,h3,_⟩:=hf b hb
  rcases h3 with z|z
  ·exact I.ok.noex b o e z
  ·exact absurd (bM (aX (I.ok.bs b o e).1) z) (fF _)
 ·intro b hb hz;obtain⟨_,h1,h2,_⟩:=hf b hb
  rcases bL.mp (I.Dh b hz)with z|z
  ·exact h1 z
  ·exact h2 z
 ·refine⟨m,hn,λi x v e1 e2 e3=>?_⟩;rw[aQ]at e2
  cases hc:cap[i]? with
  | none=>rw[hc]at e2;cases e2
  | some oj=>
   rw[hc]at e2
   cases oj with
   | none=>cases e2
   | some j=>
    have e2':(σ[j]?).getD none=some v:=aW e2;obtain⟨hj,hm⟩:=S.cp i j x e1 hc;obtain⟨m0,hn0,hl0⟩:=I.loc;have hσ:σ[j]?=some (some v):=by
     cases h:σ[j]? with
     | none=>rw[h]at e2';cases e2'
     | some z=>rw[h,eZ]at e2';rw[e2']
    have hkd:=S.fr (x,.free) hm rfl;have hv:Sn X.env.scope x:=.inr hkd;obtain⟨u,ru,lo⟩:=hl0 j x v hj hσ hv;refine⟨u,ru,?_⟩
    rcases lo with⟨lo,_⟩|⟨_,c,ec,ic⟩
    ·rcases hkd with z|z<;>(rw[z]at lo;cases lo)
    ·have h2:=xy (env:=X.env) (cs:=[]) hm;obtain⟨c',hc'⟩:=f7.mp h2;have:c'=c:=aW ((lk x c' hc').symm.trans ec);subst this;refine .inr ⟨?_,c',hc',?_⟩
     ·rcases e3 with z|z|z
      ·exfalso;have:(relabel scope X.env).names.lookup x=some .local:=z;have hloc:scope.names.lookup x=some .local:=by
        have hmem:∃k,(x,k)∈(relabel scope X.env).names/\k=.local:=by
         clear hc' h2;have:=wW this;exact⟨_,this,rfl⟩
        obtain⟨k,hk1,rfl⟩:=hmem;obtain⟨⟨n',k'⟩,hm1,hm2⟩:=bH.mp hk1;dsimp only at hm2;split at hm2
        ·cases hm2
        ·cases hm2
         exact S.nm (x,.local) hm1 rfl
       exact False.elim (S.nolf x hm hloc)
      ·exact .inl z
      ·exact .inr z
     ·obtain⟨o,ho',hd⟩:=ic;exact⟨o,hk _ _ ho',hd⟩
 ·intro x c e;obtain⟨v,o,ho',hd⟩:=I.cell x c (lk x c e);exact⟨v,o,hk _ _ ho',hd⟩
 ·intro x c e;exact I.freeC x c (lk x c e)
 ·intro p hp
  cases hp
 ·rw[aL,S.len];rfl
abbrev Mb (X:Cx)(ifs:List aE)(t:TT):Prop:=
 ∀(pins:bj) (s:aC) (σ:St) (H:Hp) (Q:Bool->Hp->Prop),Inv X pins σ H s->t σ H Q ->
  wpAny (model X.prog X.w) X.A (forIn ifs true λc r=>if r=true then do let ok <- isTrue c X.env (eval c X.env);pure (ForInStep.yield ok)else pure (ForInStep.yield r)) (TP X pins σ Q) X.xe s
abbrev VT:TT:=λ_ H Q=>Q true H
def ME{X:Cx}:Mb X [] VT:=λ_ _ _ H _ I h=>wpAny_tests_nil ⟨H,I,h⟩
def Mm{X:Cx}{c:aE}{t:TT}(h:PT X c t):Mb X [c] t:=λpins s σ H Q I q=>wpAny_tests_one (h pins s σ H Q I q)
abbrev Q_ (cap:List (bi))(g:TG)(tc:TT)(te:TE)(σ:St)(Q:VK)(J:It)(H1:Hp):Prop:=∀D,H1 D=none ->
 ∃W:Nat->Nat->St->Hp->Prop,(∃m,W 0 m (cap.map (MS σ)) (upd H1 D (.lst [])))/\∀i m σ' H',W i m σ' H' ->
  (J.stop i H'/\Q (.ref D) H')\/(J.go i H'/\∀x H2,J.yld i H' x H2->g x σ' H2 λσ3 H3=>tc σ3 H3 λb H4=>
   if b=true then te σ3 H4 λy H5=>∃ys,H5 D=some (.lst ys)/\ys.length<sizeLine/\∃m',m'<m/\W (i+1) m' σ3 (upd H5 D (.lst (ys++[y])))
   else ∃m',m'<m/\W (i+1) m' σ3 H4)
abbrev SG (cap:List (bi))(wi:TI)(g:TG)(tc:TT)(te:TE):TE:=λσ H Q=>wi σ H (Q_ cap g tc te σ Q)
def Ag{α:Type}{t:Sem α}{Q Q':α->aC->Prop}{A:aA}{E:af->aC->Prop}(h:wpAny M A t Q (λ_ _=>False) s)(hQ:∀a s,Q a s->Q' a s):wpAny M A t Q' E s:=
 fh h hQ λ_ _ f=>f.elim
structure TurnG (ok:Cx->Prop)(P:aj)(w:ah)(K:au)(tg:aE)(J:It)(fp:ar)(it:ak)(tn:Nat->aq->Prop):Prop where
 obj:∀i h,tn i h->∀b∈fp,∃o,h.get? b=some o/\∀v,o.data≠.cell v
 keep:∀i h h',tn i h->(∀b∈fp,∀o,h.get? b=some o->h'.get? b=some o)->tn i h'
 item:∀(X:Cx),X.prog=P->X.w=w->X.K=K->ok X->∀(i:Nat) (pins:bj) (s:aC) (σ:St) (H:Hp) (E:af->aC->Prop),Inv X pins σ H s->(∀b∈fp,rC X pins H b)->tn i s.heap->J.go i H ->
  wpAny (model P w) X.A (pyNext (.ref it)) (λr s1=>∃u,r=some u /\
   wpAny (model P w) X.A (letOwnedTupleGo tg (.ref it) u) (λ_ s2=>∃x H',Inv X pins σ H' s2/\RelV x u/\J.yld i H x H'/\tn (i+1) s2.heap/\∀b∈fp,H' b=none) E s1) E s
 done:∀(X:Cx),X.prog=P->X.w=w->X.K=K->ok X->∀(i:Nat) (pins:bj) (s:aC) (σ:St) (H:Hp) (E:af->aC->Prop),Inv X pins σ H s->(∀b∈fp,rC X pins H b)->tn i s.heap->J.stop i H ->
  wpAny (model P w) X.A (pyNext (.ref it)) (λr s1=>r=none/\Inv X pins σ H s1) E s
 self:∀(A:aA) (i:Nat) (s:aC) (Q:af->aC->Prop) (E:af->aC->Prop),tn i s.heap->Q (.ref it) s->wpAny (model P w) A (pyIter (.ref it)) Q E s
abbrev VF (ok:Cx->Prop)(X:Cx)(pins:bj)(σ:St)(tg:aE)(R:It->Hp->Prop)(itv:af)(s2:aC):Prop:=
 ∃(it:ak) (fp:ar) (tn:Nat->aq->Prop) (J:It) (H':Hp),itv=.ref it/\Inv X pins σ H' s2/\TurnG ok X.prog X.w X.K tg J fp it tn/\tn 0 s2.heap/\(∀b∈fp,rC X pins H' b)/\R J H'
abbrev Vq (ok:Cx->Prop)(X:Cx)(tg iter:aE)(wi:TI):Prop:=
 ∀(pins:bj) (s:aC) (σ:St) (H:Hp) (R:It->Hp->Prop),Inv X pins σ H s->wi σ H R ->
  wpAny (model X.prog X.w) X.A (eval iter X.env) (λv s1=>wpAny (model X.prog X.w) X.A (pyIter v) (VF ok X pins σ tg R) X.xe s1) X.xe s
def PI.g{X:Cx}{iter:aE}{wi:TI}(h:PI X tg iter wi):Vq (λY=>Y.calm=true) X tg iter wi:=λpins s σ H R I q=>
 kR (h pins s σ H R I q) λv s1 h1=>kR h1 λitv s2 ⟨it,fp,tn,J,H',e,I',T,a,b,c⟩=>⟨it,fp,tn,J,H',e,I',⟨T.obj,T.keep,T.item,T.done,T.self⟩,a,b,c⟩
def FA{ok:Cx->Prop}{X:Cx}{use:Option (af->Sem Unit)}{Q':af->aC->Prop}{iter:aE}{N:am}{wi:TI}{g:TG}{tc:TT}{te:TE}(S:CpScope X scope N cap)(hok:∀C s₀ H₀ ex,(∀a o u,X.H₀ a=some (.frz o u)->H₀ a=some (.frz o u))->ok (kO X scope N C s₀ H₀ ex))(hi:Vq ok X tg iter wi)
  (hg:∀C s₀ H₀ ex,PG (kO X scope N C s₀ H₀ ex) tg g) (ht:∀C s₀ H₀ ex,Mb (kO X scope N C s₀ H₀ ex) ifs tc) (he:∀C s₀ H₀ ex,PE (kO X scope N C s₀ H₀ ex) elt te)
  (hs:∀x,foldedSetIterable iter X.env x=pure x:=by intro _;rfl):∀(pins:bj) (s:aC) (σ:St) (H:Hp) (Q:VK),Inv X pins σ H s->SG cap wi g tc te σ H Q ->
  (∀(s6:aC) (C D:ak) (H5:Hp) (m:Str->ba),s6.heap.Ns C m->rC X pins H5 C->(∀h',Heap.SameBut C s6.heap h'->Inv X pins σ H5 { s6 with heap:=h' })->Q (.ref D) H5->∀v,compPost (model X.prog X.w) X.A X.xe use Q' (.ref D) C (.ok v) s6) ->
  wpAny (model X.prog X.w) X.A (comprehension (.ListComp elt [⟨tg,iter,ifs,0⟩] scope pos) scope X.env (firstIterPos [⟨tg,iter,ifs,0⟩] pos) (newList []) (firstAsync [⟨tg,iter,ifs,0⟩]) (firstIter [⟨tg,iter,ifs,0⟩] X.env) use) Q' X.xe s:=by
 intro pins s σ H Q I h hfin;kpf_c;refine wpAny_comprehension_free (use:=use) rfl hs (yp hfree) S.kind S.nm (kR (hi pins s σ H _ I h) λxv s1 h1=>kR h1 λitv s2 h2=>?_);obtain⟨it,fp,tn,J,H2,rfl,I2,T,st2,f2,h2⟩:=h2;refine bC (wpAny_newFunctionEnv S.nocell (by intro y hy;simp at hy) (λh₁ hns₁ hsb₁=>?_) S.kind);obtain⟨W,⟨m0,w0⟩,turn⟩:=h2 s2.heap.objs.size I2.fresh;dsimp only at hns₁ hsb₁ ⊢;have I3:Inv X pins σ (upd H2 s2.heap.objs.size (.lst [])) { s2 with heap:=s2.heap.push {}}:=I2.LG (t':=s2.toks) (its:=[]) .nil (cY _);have hfp:∀b∈fp,∃o,s2.heap.get? b=some o:=λb hb=>by
  obtain⟨o,e,_⟩:=T.obj 0 _ st2 b hb;exact⟨o,e⟩
 have neD:∀b∈fp,b≠s2.heap.objs.size:=λb hb=>by
  obtain⟨o,e⟩:=hfp b hb;exact bD (aX e)
 have f3:∀b∈fp,rC X pins (upd H2 s2.heap.objs.size (.lst [])) b:=λb hb=>⟨by rw[jR (neD b hb)];exact(f2 b hb).1,(f2 b hb).2⟩;have hDC:s2.heap.objs.size≠(s2.heap.push {}).objs.size:=by rw[e_];exact bD (c6 _)
 have old:∀b o,(s2.heap.push {}).get? b=some o->h₁.get? b=some o:=λb o e=>hsb₁.extBut b o (bD (aX e)) (aO _ e);have I4:=Lz (tk:=s2.toks+([]:List (Str×af)).length) (fp:=fp) S I3 f3 (λb hb=>by
  obtain⟨o,e⟩:=hfp b hb;exact⟨o,aO _ e⟩) hns₁ old
 have st4:tn 0 h₁:=T.keep _ _ _ st2 λb hb o e=>old b o (aO _ e);have hc:=hok (s2.heap.push {}).objs.size { s2 with heap:=s2.heap.push {}} (upd H2 s2.heap.objs.size (.lst [])) fp λa o u e=>by
  have z:=I2.base.frzs a o u e;rw[jR (λq=>by rw[q,I2.fresh]at z;cases z)];exact z
 have stat:∀{H':Hp},(∀b∈fp,H' b=none)->∀b∈fp,rC (kO X scope N (s2.heap.push {}).objs.size { s2 with heap:=s2.heap.push {}} (upd H2 s2.heap.objs.size (.lst [])) fp) [] H' b:=λhn b hb=>by
  have ok:=I4.ok;refine⟨hn b hb,(ok.exf b hb).1,ok.exfs b hb,.inl hb,λx c e=>(ok.exf b hb).2 x c e,λp hp=>nomatch hp⟩
 have loop:∀s4:aC,s4={ s2 with heap:=h₁,toks:=s2.toks+([]:List (Str×af)).length } ->
   codeAny (model X.prog X.w) X.A (.compLoop (.ListComp elt [⟨tg,iter,ifs,0⟩] scope pos) 0 (.ref it) (.ref s2.heap.objs.size) (compEnvC scope (v8 X.env scope.names []) (s2.heap.push {}).objs.size X.env))
    (compPost (model X.prog X.w) X.A X.xe use Q' (.ref s2.heap.objs.size) (s2.heap.push {}).objs.size) s4:=by
  rintro s4 rfl;refine codeAny_loop rfl (λn s'=>∃i σ' H',Inv (kO X scope N (s2.heap.push {}).objs.size { s2 with heap:=s2.heap.push {}} (upd H2 s2.heap.objs.size (.lst [])) fp) [] σ' H' s'/\tn i s'.heap/\(∀b∈fp,H' b=none)/\W i n σ' H') (λn s5 hI=>?_) m0 ⟨0,_,_,I4,st4,λb hb=>(f3 b hb).1,w0⟩;obtain⟨i,σ5,H5,I5,st5,fr5,w5⟩:=hI
  skip
  refine wpAny_noted ?_;rw[compTurn_list];refine aG (eL (aG ?_))
  rcases turn i n σ5 H5 w5 with⟨stop,q⟩|⟨go,step⟩
  ·refine kR (T.done (kO X scope N (s2.heap.push {}).objs.size { s2 with heap:=s2.heap.push {}} (upd H2 s2.heap.objs.size (.lst [])) fp) rfl rfl rfl hc i [] s5 σ5 H5 _ I5 (stat fr5) st5 stop) λr s6 h9=>?_;obtain⟨hr,I6⟩:=h9;subst hr;obtain⟨m6,hn6,_⟩:=I6.loc;refine aJ (hfin s6 _ _ H5 m6 hn6 (I3.GF (aP _) I6.free) (λh' sb=>?_) q _);have u6:=I6.base;have nC:∀b o,(s2.heap.push {}).get? b=some o->b≠(s2.heap.push {}).objs.size:=λb o e=>bD (aX e);refine I3.Jf (ch:=fp) I6.os ⟨λb o e n hb hx=>?_,λb o e n hb hx=>?_,λb o e n hx=>?_,λb o e hx=>?_,u6.tups,u6.frzs,u6.tbls⟩ ?_ I6.bare ?_
   ·exact sb.extBut b o (nC b o e) (u6.keep b o e n hb hx)
   ·obtain⟨sl,z⟩:=u6.slot b o e n hb hx;exact⟨sl,sb.extBut b _ (nC b o e) z⟩
   ·exact u6.free b o e n hx
   ·obtain⟨o',z⟩:=u6.there b o e hx;exact⟨o',sb.extBut b _ (nC b o e) z⟩
   ·intro b o e;have hb:∀c v,H5 c=some v->c≠(s2.heap.push {}).objs.size:=λc v e z=>by
     rw[z]at e;have:=I6.free;rw[show H5 (s2.heap.push {}).objs.size=none from this]at e
     cases e
    refine(I6.hok b o e).stay (λc v hc q=>sb.extBut c v ?_ q) (λ_ q=>q) λ_ _ q=>q
    rcases hc with z|z
    ·rw[z];exact hb b o e
    ·exact hb c _ z
   ·intro b hb;obtain⟨_,z1,_,z3,z4,z5⟩:=f3 b hb;exact⟨z3,z1,z4,z5⟩
  ·refine kR (T.item (kO X scope N (s2.heap.push {}).objs.size { s2 with heap:=s2.heap.push {}} (upd H2 s2.heap.objs.size (.lst [])) fp) rfl rfl rfl hc i [] s5 σ5 H5 _ I5 (stat fr5) st5 go) λr s6 h9=>?_;obtain⟨u,hr,h6⟩:=h9;subst hr;refine aG (kR h6 λ_ s7 ⟨x,H7,I7,r7,y7,st7,fr7⟩=>?_);have I7':=I7.pinned (stat fr7) (T.obj _ _ st7);refine aG (Ag (hg _ _ _ fp _ s7 σ5 H7 x u _ I7' r7 (step x H7 y7)) λ_ s8 ⟨σ8,H8,I8,q8⟩=>?_);refine aG (Ag (ht _ _ _ fp _ s8 σ8 H8 _ I8 q8) λok s9 ⟨H9,I9,q9⟩=>?_);have again:∀{s10:aC} {H10:Hp},Inv (kO X scope N (s2.heap.push {}).objs.size { s2 with heap:=s2.heap.push {}} (upd H2 s2.heap.objs.size (.lst [])) fp) ([]++tU fp s7.heap) σ8 H10 s10->(∃m',m'<n/\W (i+1) m' σ8 H10) ->
     ∃m,m<n/\∃i σ' H',Inv (kO X scope N (s2.heap.push {}).objs.size { s2 with heap:=s2.heap.push {}} (upd H2 s2.heap.objs.size (.lst [])) fp) [] σ' H' s10/\tn i s10.heap/\(∀b∈fp,H' b=none)/\W i m σ' H':=λ{s10 H10} I10 h9=>by
    obtain⟨m',hm,w10⟩:=h9;refine⟨m',hm,i+1,σ8,H10,I10.oJ,T.keep _ _ _ st7 λb hb o e=>(I10.pin (b,o) (a_ _ (a_ _ (lC hb e)))).1,λb hb=>?_,w10⟩;obtain⟨o,e,d⟩:=T.obj _ _ st7 b hb;exact(I10.pin (b,o) (a_ _ (a_ _ (lC hb e)))).2.1
   cases ok with
   | false=>
    rw[aM aY]at q9;exact aJ ⟨rfl,again I9 q9⟩
   | true=>
    rw[aN rfl]at q9;refine aG (aG (Ag (he _ _ _ fp _ s9 σ8 H9 _ I9 q9) λy s10 ⟨v10,H10,I10,r10,ys,hD,hz,w10⟩=>?_));refine aG (Ag (vC _ s10 σ8 H10 (.ref s2.heap.objs.size) [v10] _ [y] (λ_ H'=>H'=upd H10 s2.heap.objs.size (.lst (ys++[v10]))) I10 rfl (.cons r10 .nil) ⟨_,ys,v10,rfl,rfl,hD,hz,rfl⟩) λ_ s11 ⟨_,H11,I11,_,e11⟩=>?_);subst e11;exact aJ (aJ ⟨rfl,again I11 w10⟩)
 exact codeAny_compStart_list (loop _ rfl) (T.self _ 0 _ _ _ st4 (loop _ rfl))
def Sa{ok:Cx->Prop}{X:Cx}{iter:aE}{N:am}{wi:TI}{g:TG}{tc:TT}{te:TE}(S:CpScope X scope N cap)(hok:∀C s₀ H₀ ex,(∀a o u,X.H₀ a=some (.frz o u)->H₀ a=some (.frz o u))->ok (kO X scope N C s₀ H₀ ex))(hi:Vq ok X tg iter wi)
  (hg:∀C s₀ H₀ ex,PG (kO X scope N C s₀ H₀ ex) tg g) (ht:∀C s₀ H₀ ex,Mb (kO X scope N C s₀ H₀ ex) ifs tc) (he:∀C s₀ H₀ ex,PE (kO X scope N C s₀ H₀ ex) elt te)
  (hs:∀x,foldedSetIterable iter X.env x=pure x:=by intro _;rfl):PE X (.ListComp elt [⟨tg,iter,ifs,0⟩] scope pos) (SG cap wi g tc te):=by
 x_go;rw[eval_ListComp];exact FA (use:=none) (Q':=EP X pins σ Q) S hok hi hg ht he hs pins s σ H Q I h λs6 C D H5 m hn fk inv q v=>⟨m,hn,λh' sb=>⟨.ref D,H5,inv h' sb,rfl,q⟩⟩
def SJ{X:Cx}{iter:aE}{N:am}{wi:TI}{g:TG}{tc:TT}{te:TE}(hc:X.calm=true)(S:CpScope X scope N cap)(hi:PI X tg iter wi)
  (hg:∀C s₀ H₀ ex,PG (kO X scope N C s₀ H₀ ex) tg g) (ht:∀C s₀ H₀ ex,Mb (kO X scope N C s₀ H₀ ex) ifs tc) (he:∀C s₀ H₀ ex,PE (kO X scope N C s₀ H₀ ex) elt te)
  (hs:∀x,foldedSetIterable iter X.env x=pure x:=by intro _;rfl):PE X (.ListComp elt [⟨tg,iter,ifs,0⟩] scope pos) (SG cap wi g tc te):=
 Sa S (λ_ _ _ _ _=>hc) hi.g hg ht he hs
section
variable {X:Cx}
def AZ{bs:List Bool}:∀{us:ap},Vals (bs.map V.bl) us->LSm.BoolsAre us bs:=by
 induction bs with
 | nil=>intro us r;cases r;exact .nil
 | cons b bs ih=>
  intro us r
  cases r with
  | cons h t=>
   have e:_=Value.bool b:=h;subst e;exact .cons b (ih t)
def G_(hc:X.calm=true):j5 X (.builtin "all") (λxs H Q=>∃(p:ak) (bs:List Bool),xs=[.ref p]/\nB X.K H p (bs.map V.bl)/\Q (.bl (bs.all id)) H):=by
 w_up;obtain⟨p,bs,rfl,hq,q⟩:=h;kcf_m
 cases rx
 obtain⟨its,rv,pl,hz⟩:=I.list hq;have hb:=AZ rv;have hl:=pl.isList;have hlt:p<s.heap.objs.size:=by obtain⟨_,e,_⟩:=hl;exact aX e
 refine call_all_walk (i9 hl ?_);refine⟨s.heap.objs.size,[s.heap.objs.size,p],[s.heap.objs.size],its.toArray.size,_,_,λi=>(bs[i]?).getD true,rfl,Walks.list (A:=X.A.in1) (I.ok.hd hc) _ p (bD hlt) its.toArray,
  ⟨⟨_,bg _ rfl,rfl,rfl⟩,hl.push _⟩,λi v s' Q' E' hP hQ=>?_,λh' tk hk=>?_⟩
 ·obtain⟨b,e,rfl⟩:=hb.get i v (by simpa using hP);dsimp[e,eZ]at hQ;exact dz hQ
 ·have e:((List.range its.toArray.size).all λi=>(bs[i]?).getD true)=bs.all id:=by
   rw[aS,hb.length];exact LSm.range_all bs
  rw[e];exact⟨.bl _,H,I.kept (LSm.kept_iter hk),rfl,q⟩
def Hf(hc:X.calm=true):j5 X (.builtin "any") (λxs H Q=>∃(p:ak) (bs:List Bool),xs=[.ref p]/\nB X.K H p (bs.map V.bl)/\Q (.bl (bs.any id)) H):=by
 w_up;obtain⟨p,bs,rfl,hq,q⟩:=h;kcf_m
 cases rx
 obtain⟨its,rv,pl,hz⟩:=I.list hq;have hb:=AZ rv;have hl:=pl.isList;have hlt:p<s.heap.objs.size:=by obtain⟨_,e,_⟩:=hl;exact aX e
 refine call_any_walk (i9 hl ?_);refine⟨s.heap.objs.size,[s.heap.objs.size,p],[s.heap.objs.size],its.toArray.size,_,_,λi=>(bs[i]?).getD false,rfl,Walks.list (A:=X.A.in1) (I.ok.hd hc) _ p (bD hlt) its.toArray,
  ⟨⟨_,bg _ rfl,rfl,rfl⟩,hl.push _⟩,λi v s' Q' E' hP hQ=>?_,λh' tk hk=>?_⟩
 ·obtain⟨b,e,rfl⟩:=hb.get i v (by simpa using hP);dsimp[e,eZ]at hQ;exact dz hQ
 ·have e:((List.range its.toArray.size).any λi=>(bs[i]?).getD false)=bs.any id:=by
   rw[aS,hb.length];exact LSm.range_any bs
  rw[e];exact⟨.bl _,H,I.kept (LSm.kept_iter hk),rfl,q⟩
def Aj:j5 X (.builtin "sorted") (λxs H Q=>∃(p:ak) (ns:ae),xs=[.ref p]/\(nB X.K H p (ns.map V.int)\/m9 X.K H p (ns.map V.int))/\ns.length<64 /\
  ∀l (ns':ae),H l=none->ns'.Perm ns->ns'.Pairwise (·<=·)->Q (.ref l) (upd H l (.lst (ns'.map V.int)))):=by
 w_up;obtain⟨p,ns,rfl,hq,h64,q⟩:=h;kcf_m
 cases rx
 have go:∀(its:ap) (T:String) (o:Obj) (n:Nat),(T = "list" \/ T = "tuple")->s.heap.get? p=some o->o.cls=.type T->o.data=.seq its.toArray n->Vals (ns.map V.int) its ->
   wpAny (model X.prog X.w) X.A (call (.builtin "sorted") [.ref p]) (EP X pins σ Q) X.xe s:=by
  intro its T o n hT ho hcl hd rv;have hI:=intsAre_of rv;have hlen:its.length=ns.length:=by have:=rv.length;rw[aL]at this;exact this.symm
  refine Calls.call_function_entry kind_sorted plain_sorted entry_sorted (args_sorted1 _) ?_;unfold Builtin.«sorted»;refine aG (m:=checkCount "sorted" 1 1 _) (aJ ?_);refine aG (wpAny_collect_seq p hT ho hcl hd (λh' hk=>?_) (by rw[aS,hlen,c5];lia));refine aG (wpAny_newList ?_);have hoL:(h'.push (seqObj "list" its.toArray 0)).get? h'.objs.size=some (seqObj "list" its.toArray 0):=bg _ rfl
  skip
  refine aG (dg (bT slot_list_sort ⟨_,hoL,rfl⟩ entry_list_sort (list_sort_tree hoL hI () λout ns' a1 a2 a3=>⟨_,rfl,?_⟩) (args_list_sort _)));obtain⟨e,he⟩:=sortedHeap_at (out:=out) hoL;have hl':ns'.length=ns.length:=a2.length_eq;have I1:Inv X pins σ H { s with heap:=h' }:=I.kept (t':=s.toks) hk;have old:∀b ob,h'.get? b=some ob->(sortedHeap (h'.push (seqObj "list" its.toArray 0)) h'.objs.size its out).get? b=some ob:=λb ob eb=>by
   rw[sortedHeap_old (bD (aX eb)) (by rw[e_];exact fK (aX eb))];exact aO _ eb
  refine aJ ⟨_,rfl,.ref h'.objs.size,_,I1.laid (t':=s.toks) (o:=.lst (ns'.map V.int)) old (aP _) ?_,rfl,q _ ns' (I1.hok.fresh (aP _)) a2 a3⟩;refine⟨by rw[aL,hl',c5];lia,out.toList,e,vI a1,?_⟩;rw[he]
 rcases hq with hq|hq
 ·obtain⟨its,rv,pl,hz⟩:=I.list hq;obtain⟨o,ho,hcl,n,hd⟩:=pl.isList;exact go its "list" o n (.inl rfl) ho hcl hd rv
 ·obtain⟨its,rv,pl,hz⟩:=I.tuple hq;obtain⟨o,ho,hcl,n,hd⟩:=pl;exact go its "tuple" o n (.inr rfl) ho hcl hd rv
def Qe:n8 X (compareOp .Is) (λx y H Q=>∃a b,x=.bl a/\y=.bl b/\Q (.bl (a == b)) H):=by
 gn_on;obtain⟨a,b,rfl,rfl,q⟩:=h
 cases rx;cases ry
 exact is_bool ⟨.bl _,H,I,rfl,q⟩
def zW:j5 X (.type "range") (λxs H Q=>∃i j,xs=[.int i,.int j]/\∀p,H p=none->Q (.ref p) (upd H p (.rng i j))):=by
 w_up;obtain⟨i,j,rfl,q⟩:=h;obtain⟨u,w',rfl,⟨t,rfl⟩,⟨t',rfl⟩⟩:=vals2 r;refine call_range_2 ⟨.ref s.heap.objs.size,_,I.laid (o:=.rng i j) (λb o e=>aO _ e) (aP _) ?_,rfl,q _ I.fresh⟩;exact⟨t,t',s.toks,bg _ rfl⟩
abbrev jV (i j:Int):ae:=(List.range (j-i).toNat).map λk:Nat=>i+(k:Int)
def kF(i j:Int):(jV i j).length=(j-i).toNat:=by unfold jV;rw[aL,cO]
def xJ{i:Int}{n:Nat}{acc:Array af}(h:ItemsOf (λk v=>∃t,v=Value.int (i+(k:Int) * 1) t) acc n):Vals (((List.range n).map λk:Nat=>i+(k:Int)).map V.int) acc.toList:=by
 obtain⟨hs,hv⟩:=h;have gen:∀(l:ap) (b:Nat),(∀j v,l[j]?=some v->∃t,v=Value.int (i+((b+j:Nat):Int)) t)->Vals (((List.range' b l.length).map λk:Nat=>i+(k:Int)).map V.int) l:=by
  intro l
  induction l with
  | nil=>intro b _;exact .nil
  | cons v l ih=>
   intro b hb;rw[bE,d9,b9,b9];refine .cons ?_ ?_
   ·obtain⟨t,e⟩:=hb 0 v rfl;exact⟨t,by rw[e];simp⟩
   ·refine ih (b+1) λj w hw=>?_;obtain⟨t,e⟩:=hb (j+1) w hw;exact⟨t,by rw[e,show b+(j+1)=b+1+j by lia]⟩
 have:=gen acc.toList 0 λj v hj=>by
  obtain⟨t,e⟩:=hv j v (by simpa using hj);exact⟨t,by rw[e,fj,Int.mul_one]⟩
 rw[cX,hs,<- cC]at this;exact this
def JE{i j:Int}:Builtin.Range.rangeSize i j 1=(((j-i).toNat:Nat):Int):=by rw[rangeSize_one];split<;>omega
def yE(hc:X.calm=true):j5 X (.type "list") (λxs H Q=>∃p i j,xs=[.ref p]/\H p=some (.rng i j)/\(-(2 ^ 62)<=i/\i<2 ^ 62/\-(2 ^ 62)<=j/\j<2 ^ 62)/\(j-i).toNat<=1000/\∀l,H l=none->Q (.ref l) (upd H l (.lst ((jV i j).map V.int)))):=by
 w_up;obtain⟨p,i,j,rfl,hp,⟨b1,b2,b3,b4⟩,hn,q⟩:=h;kcf_m
 cases rx
 obtain⟨t,u',v,e⟩:=I.hok p _ hp;refine call_list_range (n:=(j-i).toNat) (I.ok.hd hc) e (small_one b1 b2 b3 b4) JE () λh' tk acc' c' hk hS hacc=>?_;refine⟨.ref s.heap.objs.size,_,I.laid (o:=.lst ((jV i j).map V.int)) hk (aP _) ⟨?_,acc'.toList,c',xJ hacc,by rw[hS]⟩,rfl,q _ I.fresh⟩;rw[aL,kF,c5];lia
end
section
variable {X:Cx}
def B6{prog:aj}{w:ah}{A:aA}{E:af->aC->Prop}{s:aC}{Q:ap->aC->Prop}{r:ak}{a b c:Int}{t v:Tok}{n:Nat}(hh:A.handled=none)(hr:IsRange s.heap r a b c t u v)(hsmall:Builtin.Range.small a b c=true)
  (hn:Builtin.Range.rangeSize a b c=n) (hlen:n<=2 ^ 24)
  (hQ:∀h' tk (acc':Array af),(∀b o,s.heap.get? b=some o->h'.get? b=some o)->ItemsOf (λi v=>∃t,v=.int (a+i * c) t) acc' n->Q acc'.toList { s with heap:=h',toks:=tk }) :
  wpAny (model prog w) A (collect (.ref r)) Q E s:=by
 unfold collect;refine aG (wpAny_runValue (codeAny_builtin F.entry_proto_collect ?_));rw[Around.under_plainId F.plain_proto_collect _]
 skip
 refine aG (bC ?_);refine aJ ⟨plainId_quiet F.plain_list_iadd _,codeAny_builtin F.entry_list_iadd ?_⟩;rw[Around.under_plainId F.plain_list_iadd _]
 skip
 have hS:(s.heap.push {}).get? s.heap.objs.size=some { cls:=.type "list",data:=.seq #[] 0 }:=bg _ rfl;have fin':∀(h':aq) (tk:Nat) (acc':Array af) (c':Nat),(∀b o,b≠s.heap.objs.size->(s.heap.push {}).get? b=some o->h'.get? b=some o) ->
   h'.get? s.heap.objs.size=some { cls:=.type "list",dict:=none,data:=.seq acc' c',slots:=#[]}->ItemsOf (λi v=>∃t,v=.int (a+i * c) t) acc' n ->
   wpAny (model prog w) A (match Value.ref s.heap.objs.size with
   | Value.ref a=>do
    match (<- load a).data with
     | Data.seq xs _=>pure xs.toList
     | _=>unsupported "internal:collect"
   | _=>unsupported "internal:collect") Q E { s with heap:=h',toks:=tk }:=by
  intro h' tk acc' c' hk hS' hacc
  skip
  refine aG (wpAny_load hS' ?_);refine aJ ?_;exact hQ h' tk acc' (λb o e=>hk b o (bD (aX e)) (aO _ e)) hacc
 refine fh (wpAny_extend_range (A:=A) (R:=λrr s'=>rr=.ok (.ret (.ref s.heap.objs.size))/\∃h' tk acc' c',s'={ s with heap:=h',toks:=tk }/\(∀b o,b≠s.heap.objs.size->(s.heap.push {}).get? b=some o->h'.get? b=some o) /\
   h'.get? s.heap.objs.size=some { cls:=.type "list",dict:=none,data:=.seq acc' c',slots:=#[]}/\ItemsOf (λi v=>∃t,v=.int (a+i * c) t) acc' n)
  (s:={ s with heap:=s.heap.push {}}) hh (aO _ hr) hsmall hn hlen s.heap.objs.size (.ref s.heap.objs.size) 0 hS
  (λh' tk acc' c' hk hS' hacc=>⟨rfl,h',tk,acc',c',rfl,hk,hS',hacc⟩)) (λfin s' h=>?_) (λe s' h=>?_)
 ·cases fin with
  | done f=>
   obtain⟨e,h',tk,acc',c',rfl,hk,hS',hacc⟩:=h
   cases e
   exact fin' h' tk acc' c' hk hS' hacc
  | again c'=>exact⟨h.1,iS h.2 λr s'' hr=>by
    obtain⟨rfl,h',tk,acc',c',rfl,hk,hS',hacc⟩:=hr;exact fin' h' tk acc' c' hk hS' hacc⟩
 ·exact absurd h.1 (by simp)
def sG(l:ak){a b:Int}{t v:Tok}{n:Nat}(hsmall:Builtin.Range.small a b 1=true)
  (hn:Builtin.Range.rangeSize a b 1=n) (hlen:n<=1000) :
  Meets (Builtin.«tuple.__new__» ⟨[.type "tuple",.ref l],[]⟩)
   (λA R s=>A.handled=none/\IsRange s.heap l a b 1 t u v/\∀(h':aq) (tk:Nat) (acc':Array af),(∀b o',s.heap.get? b=some o'->h'.get? b=some o')->ItemsOf (λi v=>∃t,v=.int (a+i * 1) t) acc' n->R (.ok (.ret (.ref h'.objs.size))) { s with heap:=h'.push { cls:=.type "tuple",data:=.seq acc' },toks:=tk }):=
 .of_wp λprog w A R s h=>by
  obtain⟨hp,g,d,tk,os⟩:=s;obtain⟨hh,ht,h⟩:=h;have hsub:=sub_tuple_self;have hinit:=init_tuple_lookup;have hmh:=madeHere_tuple;have hT:Shared.TypeIs ⟨hp,g,d,tk,os⟩ (.ref l) "range" := ⟨_,ht,rfl⟩;have hh':A.in1.handled=none:=hh
  wp_walk using AutoSeq1.wpAny_loadPart' ht,jl hT,B6 (A:=A.in1) hh' ht hsmall hn (by omega)
  intro h' tk' acc' hk hacc;show wpAny _ _ (Builtin.Tuple.tupleExact acc'.toList.toArray >>= λv=>ret v) _ _ _;unfold Builtin.Tuple.tupleExact;have e:acc'.toList.toArray=acc':=by simp
  refine aG (bC ?_ (by show acc'.toList.toArray.size<=sizeLine;rw[e,hacc.1,c5];omega));refine aJ ⟨_,rfl,?_⟩;rw[e];exact h h' tk' acc' hk hacc
def x_(hc:X.calm=true):j5 X (.type "tuple") (λxs H Q=>∃p i j,xs=[.ref p]/\H p=some (.rng i j)/\(-(2 ^ 62)<=i/\i<2 ^ 62/\-(2 ^ 62)<=j/\j<2 ^ 62)/\(j-i).toNat<=1000/\∀l,H l=none->Q (.ref l) (upd H l (.tup ((jV i j).map V.int)))):=by
 w_up;obtain⟨p,i,j,rfl,hp,⟨b1,b2,b3,b4⟩,hn,q⟩:=h;kcf_m
 cases rx
 obtain⟨t,u',v,e⟩:=I.hok p _ hp;refine callType_new F.called_tuple ⋯ (F.typeCall_tuple_1 _) (F.newCall_tuple_1 _) (λobj=>F.args_object_init_2 obj _) F.entry_tuple_new
  (sG (n:=(j-i).toNat) p (small_one b1 b2 b3 b4) JE hn) ⟨I.ok.hd hc,e,λh' tk acc' hk hacc=>⟨⟨_,bg _ rfl,rfl⟩,?_⟩⟩
 have I1:Inv X pins σ H { s with heap:=h',toks:=tk }:=I.kept hk;refine⟨.ref h'.objs.size,_,I1.laid (t':=tk) (o:=.tup ((jV i j).map V.int)) (λb o e=>aO _ e) (aP _) ⟨?_,acc'.toList,xJ hacc,?_⟩,rfl,q _ (I1.hok.fresh (aP _))⟩
 ·rw[aL,kF,c5];lia
 ·have e:acc'.toList.toArray=acc':=by simp
  rw[e];exact nN.new _ _
abbrev VM (K:au)(te:TE):TE:=λσ H Q=>te σ H λx H1=>∃a xs,x=.ref a/\nB K H1 a xs/\∀p,H1 p=none->Q (.ref p) (upd H1 p (.lst xs.reverse))
def Ml{e:aE}{te:TE}{up cp:Pos}{kk:Nat}(he:PE X e te):PE X (.Subscript e (.Slice none none (some (.UnaryOp .USub (.Constant (.int 1) kk cp) up)) p2) pos) (VM X.K te):=by
 x_go;refine Subscript_ (kR (he pins s σ H _ I h) λv s1 ⟨x,H1,I1,r1,a,xs,ex,hq,q⟩=>?_);subst ex
 cases r1
 refine wpAny_Slice ?_;rw[jc];refine aJ ?_;refine aJ ?_;rw[evalPart_some];refine kR ((J7 (a:=.Constant (.int 1) kk cp) CT CZ) pins s1 σ H1 (λv H'=>v=.int (-1)/\H'=H1) I1 ⟨1,rfl,rfl,rfl⟩) λvs s3 h9=>?_;obtain⟨y,H3,I3,r3,ey,eH⟩:=h9;subst ey eH;obtain⟨t,rfl⟩:=r3;have I4:Inv X pins σ H3 { s3 with heap:=s3.heap.push { cls:=.type "slice",data:=.fields #[.none,.none,.int (-1) t]}}:=I3.kept (t':=s3.toks) λb ob q=>aO _ q;obtain⟨its,rv,pl,hz⟩:=I4.list hq
 skip
 refine tail_any (ops:=[.ref a,.ref s3.heap.objs.size]) pl.isList.typeIs i_.lookup ?_ (by with_unfolding_all rfl);have hlen:=rv.length;refine wpAny_getItem_list_slice pl.isList (iW ..) .none .none (.int (-1) t) ⋯ ?_ (by rw[aS]<;>lia);rw[PySem.W.krv_pick];refine⟨.ref _,_,I4.LG (t':=s3.toks) (ys:=xs.reverse) (its:=its.reverse) rv.reverse (by rw[dX];exact hz),rfl,q _ I4.fresh⟩
def A5{c:String}:j5 X (.builtin "isinstance") (λxs H Q=>∃x t b,xs=[x,.ty c]/\TyOf X.K H x t/\PySem.W.kitOne X.K t (.type c)=some b/\Q (.bl b) H):=by
 w_up;obtain⟨x,t,b,rfl,ty,e,q⟩:=h;obtain⟨u,w',rfl,rx,rc⟩:=vals2 r
 cases rc
 exact GI I rx ty e λtk=>⟨.bl b,H,I.tok tk,rfl,q⟩
abbrev Rz (K:au):R2:=λx y H Q=>∃a b ys,x=.ref a/\y=.ref b/\m9 K H a []/\m9 K H b ys/\Q (.ref b) H
def KQ:n8 X (binaryOp .Add) (Rz X.K):=by
 gn_on;obtain⟨a,b,ys,rfl,rfl,h1,h2,q⟩:=h
 cases rx
 cases ry
 obtain⟨us,r1,p1,_⟩:=I.tuple h1;obtain⟨ws,r2,p2,_⟩:=I.tuple h2
 cases r1
 obtain⟨⟨cls,dd,data,sl⟩,ho,hc,n,hd⟩:=id p1;obtain⟨⟨cls2,dd2,data2,sl2⟩,ho2,hc2,n2,hd2⟩:=id p2;simp only at hc hd hc2 hd2;subst hc hd hc2 hd2;exact concat_meets ⟨_,ho,rfl⟩ ⟨_,ho2,rfl⟩ noFill_tuple_add seq_tuple_add gF gB (f9 _ _)
   (tuple_addW0 a b _ ws.toArray n n2 dd dd2 sl sl2 (by simp)) ⟨ho,ho2,⟨.ref b,H,I,rfl,q⟩⟩
end
def lB:bootBuiltins "len" = some (.builtin "len"):=by decide +kernel
def PC:bootBuiltins "abs" = some (.builtin "abs"):=by decide +kernel
def Sd:bootBuiltins "all" = some (.builtin "all"):=by decide +kernel
def O6:bootBuiltins "any" = some (.builtin "any"):=by decide +kernel
def Io:bootBuiltins "max" = some (.builtin "max"):=by decide +kernel
def RM:bootBuiltins "min" = some (.builtin "min"):=by decide +kernel
def yP:bootBuiltins "sorted" = some (.builtin "sorted"):=by decide +kernel
def pH:bootBuiltins "isinstance" = some (.builtin "isinstance"):=by decide +kernel
def RW:bootBuiltins "int" = some (.type "int"):=by decide +kernel
def NN:bootBuiltins "bool" = some (.type "bool"):=by decide +kernel
def uy:bootBuiltins "list" = some (.type "list"):=by decide +kernel
def qU:bootBuiltins "tuple" = some (.type "tuple"):=by decide +kernel
def xZ:bootBuiltins "range" = some (.type "range"):=by decide +kernel
structure Blt (mg:Str->ba):Prop where
 len:mg "len" = none
 abs:mg "abs" = none
 all:mg "all" = none
 any:mg "any" = none
 max:mg "max" = none
 min:mg "min" = none
 sorted:mg "sorted" = none
 isinstance:mg "isinstance" = none
 int:mg "int" = none
 bool:mg "bool" = none
 str:mg "str" = none
 list:mg "list" = none
 tuple:mg "tuple" = none
 range:mg "range" = none
def NR:∀{a b:ae},a.Perm b->a.Pairwise (·<=·)->b.Pairwise (·<=·)->a=b:=λp ha hb=>
 f_ (λx y _ _ h1 h2=>jv h1 h2) ha hb p
def DY(i j:Int):(jV i j).Pairwise (·<=·):=by
 unfold jV;rw[eF];exact gG.imp λh=>()
def oS(i j:Int):(jV i j).Nodup:=by
 unfold jV;rw[List.Nodup,eF];exact gG.imp λh=>()
def kG{i j k:Int}:k∈jV i j ↔ i<=k/\k<j:=by
 unfold jV;rw[bH];constructor
 ·rintro⟨a,ha,rfl⟩;have:=cU.mp ha
  lia
 ·rintro⟨h1,h2⟩;exact⟨(k-i).toNat,cU.mpr (),()⟩
theorem vY:∀{l m:ae},l.Nodup->(∀x∈l,x∈m)->m.length<=l.length->l.Perm m
 | [],m,_,_,h=>by
  have:m=[]:=dj.mp (Nat.le_zero.mp h);rw[this]
 | a::l,m,nd,hs,hl=>by
  have ha:a∈m:=hs a aR;have nd':=fC.mp nd;have pm:m.Perm (a::m.erase a):=List.perm_cons_erase ha;have ih:=vY (l:=l) (m:=m.erase a) nd'.2 (λx hx=>by
   have hxa:x≠a:=λe=>nd'.1 (e ▸ hx);exact(List.mem_erase_of_ne hxa).mpr (hs x (aT _ hx))) (by
   rw[List.length_erase_of_mem ha];dsimp[bE]at hl
   lia)
  exact(List.Perm.cons a ih).trans pm.symm
abbrev Kn (P:aj)(w:ah)(K:au)(mg:Str->ba)(base:aq)(k:Nat)(x:Str)(ps:am)(sp:Sp):Prop:=
 ∃(f:ak) (fd:FuncData),FnOk P w K mg base qy k f fd ps sp/\mg x=some (.ref f)/\PySem.W.keepIn K (.ref f)=true/\Binds K fd ps []
def UE{X:Cx}{k:Nat}{x:Str}{sp:Sp}{e:aE}{t:TA}{p:Pos}(G:Kn X.prog X.w X.K X.mg X.base k x ps sp)(hr:Room k X.A)(ha:PA X (e::es) t)(hg:Gl X x:=by rfl)
  (hdb:(x == ("__debug__" : Str))=false:=by decide) (hs:starEach (e::es) X.env=(false,eval e X.env)::starEach es X.env:=by rfl) (hplain:(backTo pos (starEach es X.env)).any (·.1)=false:=by rfl) :
  PE X (.Call (.Name x p) (e::es) [] pos) (OS sp [] E0 t):=by
 obtain⟨f,fd,F,hm,hk,hb⟩:=G;exact Nd F hr hg hm hk hb .nil Uk ha hdb hs hplain
abbrev yj (XN fs:am):am->List (bi)->Prop
 | [],[]=>True
 | _::N,none::c=>yj XN fs N c
 | x::N,some j::c=>XN[j]?=some x/\x∈fs/\yj XN fs N c
 | _,_=>False
theorem yj.len{fs:am}:∀{N:am}{c:List (bi)},yj XN fs N c->c.length=N.length
 | [],[],_=>rfl
 | _::N,none::c,h=>dJ (·+1) (yj.len (N:=N) (c:=c) h)
 | _::N,some j::c,h=>dJ (·+1) (yj.len (N:=N) (c:=c) h.2.2)
 | [],_::_,h=>h.elim
 | _::_,[],h=>h.elim
theorem yj.cp{fs:am}:∀{N:am}{c:List (bi)},yj XN fs N c->∀(i j:Nat) (x:Str),N[i]?=some x->c[i]?=some (some j)->XN[j]?=some x/\x∈fs
 | [],[],_,i,j,x,h1,_=>by simp at h1
 | y::N,none::c,h,i,j,x,h1,h2=>by
  cases i with
  | zero=>simp at h2
  | succ i=>exact yj.cp (N:=N) (c:=c) h i j x (by simpa using h1) (by simpa using h2)
 | y::N,some k::c,h,i,j,x,h1,h2=>by
  cases i with
  | zero=>
   simp at h1 h2;subst h1 h2;exact⟨h.1,h.2.1⟩
  | succ i=>exact yj.cp (N:=N) (c:=c) h.2.2 i j x (by simpa using h1) (by simpa using h2)
 | [],_::_,h,_,_,_,_,_=>h.elim
 | _::_,[],h,_,_,_,_,_=>h.elim
def qH{X:Cx}{scope:Scope}{N:am}(fs:am)(kind:scope.kind=.function)(nocell:∀y∈scope.names,y.2≠.cell)(nm:∀y∈scope.names,y.2=.local->scope.names.lookup y.1=some .local)
  (nolf:∀y∈scope.names,y.2=.free->scope.names.lookup y.1≠some .local) (hf:∀y∈scope.names,y.2=.free->y.1∈fs) (hfs:∀x∈fs,(x,NameKind.free)∈scope.names) (hk:∀x∈fs,X.env.kindOf x=some .cell\/X.env.kindOf x=some .free) (cp:yj X.N fs N cap):CpScope X scope N cap where
 kind:=kind
 nocell:=nocell
 nm:=nm
 fr:=λy hy e=>hk _ (hf y hy e)
 rl:=λy h=>by
  have go:∀k,(k=NameKind.cell\/k=NameKind.free)->(relabel scope X.env).names.lookup y=some k->(y,NameKind.free)∈scope.names:=λk hk e=>by
   obtain⟨⟨n',k'⟩,hm1,hm2⟩:=bH.mp (wW e);dsimp only at hm2;split at hm2
   ·rename_i hc
    cases hm2
    have:k'=.free:=by
     dsimp[dM]at hc;simpa using hc.1.1
    subst this;exact hm1
   ·cases hm2
    rcases hk with rfl|rfl
    ·exact absurd rfl (nocell _ hm1)
    ·exact hm1
  rcases h with h|h
  ·exact go _ (.inl rfl) h
  ·exact go _ (.inr rfl) h
 len:=cp.len
 nolf:=λx hx=>nolf (x,.free) hx rfl
 cp:=λi j x h1 h2=>by
  obtain⟨a,b⟩:=cp.cp i j x h1 h2;exact⟨a,hfs x b⟩
inductive Kd where
 | non|bl|int|str|lst|tup
 deriving DecidableEq
abbrev Kd.ty:Kd->af
 | .non=>.type "NoneType" | .bl=>.type "bool" | .int=>.type "int" | .str=>.type "str" | .lst=>.type "list" | .tup=>.type "tuple"
abbrev Rt (H:Hp)(x:V):Kd->Prop
 | .non=>x=.non
 | .bl=>∃b,x=.bl b
 | .int=>∃i,x=.int i
 | .str=>∃s,x=.str s
 | .lst=>∃a xs,x=.ref a/\H a=some (.lst xs)
 | .tup=>∃a xs,x=.ref a/\H a=some (.tup xs)
def Rt.Vi{K:au}{H:Hp}{x:V}{k:Kd}(h:Rt H x k):TyOf K H x k.ty:=by
 cases k with
 | non=>cases h;exact .non
 | bl=>obtain⟨b,rfl⟩:=h;exact .bl b
 | int=>obtain⟨b,rfl⟩:=h;exact .int b
 | str=>obtain⟨b,rfl⟩:=h;exact .str b
 | lst=>obtain⟨a,xs,rfl,e⟩:=h;exact .lst e
 | tup=>obtain⟨a,xs,rfl,e⟩:=h;exact .tup e
def NQ{K:au}(k:Kd):PySem.W.kitOne K k.ty (.type "int")=some (decide (k=.int\/k=.bl)):=by cases k<;>rfl
def HP{K:au}(k:Kd):PySem.W.kitOne K k.ty (.type "bool")=some (decide (k=.bl)):=by cases k<;>rfl
def kit_tuple{K:au}(k:Kd):PySem.W.kitOne K k.ty (.type "tuple")=some (decide (k=.tup)):=by cases k<;>rfl
def HN{K:au}(k:Kd):PySem.W.kitOne K k.ty (.type "list")=some (decide (k=.lst)):=by cases k<;>rfl
section
variable {X:Cx}
def G0(hc:X.calm=true):j5 X (.builtin "max") (λxs H Q=>∃(p:ak) (ns:ae),xs=[.ref p]/\nB X.K H p (ns.map V.int)/\0<ns.length/\∀M,M∈ns->(∀a∈ns,a<=M)->Q (.int M) H):=by
 w_up;obtain⟨p,ns,rfl,hq,hne,q⟩:=h;kcf_m
 cases rx
 obtain⟨its,rv,pl,hz⟩:=I.list hq;have hi:=intsAre_of rv;have hl:=pl.isList;obtain⟨ys,e⟩:=hi.allInts.items;have hns:ns=ys.toList.map (·.1):=by
  rw[<- hi.numsOf,<- nums_intItems,<- e]
 have hsz:0<ys.size:=by
  have h3:=hne;rw[hns,aL,cX]at h3;exact h3
 rw[e]at hl;refine max_intList (I.ok.hd hc) hl hsz λv h' tk hv hk=>?_;obtain⟨t,rfl⟩:=intItems_at hv;obtain⟨h1,h2⟩:=argBest_gt (numAt ys) (ys.size-1);refine⟨.int _,H,I.kept hk,⟨t,rfl⟩,q _ ?_ λa ha=>?_⟩
 ·rw[hns,numAt_eq];exact getD_mem (by rw[aL,cX];lia)
 ·rw[hns]at ha;obtain⟨j,hj,rfl⟩:=mem_getD ha;rw[aL,cX]at hj;rw[<- numAt_eq];exact h2 j ()
end
section
variable {prog:aj}{w:ah}{A:aA}{E:af->aC->Prop}{s:aC}
def Cu(n:Nat):Builtin.Slice.sliceAdjust none none (-1) (n:Int)=((n:Int)-1,-1):=by
 unfold Builtin.Slice.sliceAdjust;rfl
def Cv(n:Nat):Builtin.Slice.slicePlaces ((n:Int)-1) (-1) (-1)=n:=by
 unfold Builtin.Slice.slicePlaces;have h1:¬((-1:Int)>0):=by decide
 dsimp[h1,bZ];by_cases h:n=0
 ·subst h;simp
 ·rw[aN ()];rw[show(- -1:Int)=1 by decide,Int.ediv_one]
  lia
def vf{t:Tok}{n:Nat}{Q:Int×Int×Nat->aC->Prop}(hs:s.heap.IsSliceOf sl .none .none (.int (-1) t))
  (h:Q ((n:Int)-1,-1,n) s):wpAny (model prog w) A (Builtin.Slice.sliceApplied (.ref sl) (pure (n:Int))) Q E s:=by
 obtain⟨os,hos,hcs,hds⟩:=id hs;unfold Builtin.Slice.sliceApplied Builtin.Slice.sliceFields;refine aG (aG (dZ hos hds (x:=.none) rfl (aG (dZ hos hds (x:=.none) rfl (aG (dZ hos hds (x:=.int (-1) t) rfl (aJ ?_)))))));refine aG (slicePart_int ?_)
 skip
 rw[aM ⋯];refine aG (slicePart_none (aG (slicePart_none (aG (aJ ?_)))));show wpAny _ _ (match Builtin.Slice.sliceAdjust none none (-1) (n:Int)with|(lo,hi)=>pure (lo,(-1:Int),Builtin.Slice.slicePlaces lo hi (-1))) _ _ s;rw[Cu n];show wpAny _ _ (pure ((n:Int)-1,(-1:Int),Builtin.Slice.slicePlaces ((n:Int)-1) (-1) (-1))) _ _ s;rw[Cv];exact aJ h
def I_(xs:Array af):((List.range xs.size).filterMap λ(m:Nat)=>xs[((xs.size:Int)-1+(m:Int) * (-1)).toNat]?).toArray=xs.toList.reverse.toArray:=by
 have e:(λ(m:Nat)=>xs[((xs.size:Int)-1+(m:Int) * (-1)).toNat]?)=(λx=>xs[x]?) ∘ λk=>xs.size-1-k:=by
  funext m
  have:((xs.size:Int)-1+(m:Int) * (-1)).toNat=xs.size-1-m:=()
  show xs[((xs.size:Int)-1+(m:Int) * (-1)).toNat]?=xs[xs.size-1-m]?;rw[this]
 rw[e,<- iV,PySem.W.krv_range,List.filterMap_reverse,PySem.W.krv_all]
def uX{t:ak}{items:Array af}{Q:af->aC->Prop}(ht:IsTup s.heap t items)(hs:s.heap.IsSliceOf sl .none .none (.int (-1) tk))
  (h:Q (.ref s.heap.objs.size) { s with heap:=s.heap.push { cls:=.type "tuple",data:=.seq items.toList.reverse.toArray }})
  (hsz:items.size<=sizeLine):wpAny (model prog w) A (getItem (.ref t) (.ref sl)) Q E s:=by
 have htake:sizeOk (.seq items.toList.reverse.toArray):=by
  show items.toList.reverse.toArray.size<=sizeLine;rw[aS,dX,cX];exact hsz
 obtain⟨os,hos,hcs,hds⟩:=id hs;have hTs:s.TypeIs (.ref sl) "slice" := ⟨os,hos,hcs⟩;unfold getItem
 try with_reducible refine dg ?_
 first|refine aG (aJ ?_)|skip
 refine aG (wpAny_sequenceKey ht.typeIs ⋯ ?_);refine aG (cN (name:=Str.ofString "__getitem__") ht.typeIs cG
  (bT cG ht.typeIs entry_tuple_getitem ?_ (args_tuple_getitem _ _)))
 show wpAny _ _ (Builtin.Tuple.tupleItemsOf (.ref t) >>= _) _ _ s;refine aG (tupleItemsOf_ ht ?_);refine aG (jl hTs ?_);rw[aN ⋯];refine aG (vf hs ?_);have hno:¬((((items.size:Int)-1) == 0 && (-1:Int) == 1 && items.size == items.size)=true):=by
  intro q;rw[dM,dM]at q;exact absurd q.1.2 ⋯
 show wpAny _ _ (if (((items.size:Int)-1) == 0 && (-1:Int) == 1 && items.size == items.size)=true then _ else _) _ _ s;rw[aM hno,I_]
 first
  | exact aG (m:=Builtin.Tuple.tupleExact _) (bC (aJ ⟨_,rfl,aJ h⟩) htake)
  | exact aG (m:=Builtin.Tuple.tupleExact _) (bC (aG (aJ (aJ ⟨_,rfl,aJ h⟩))) htake)
  | exact aG (aG (m:=Builtin.Tuple.tupleExact _) (bC (aJ (aJ ⟨_,rfl,aJ h⟩)) htake))
  | exact aG (aG (m:=Builtin.Tuple.tupleExact _) (bC (aJ ⟨_,rfl,aJ h⟩) htake))
end
section
variable {X:Cx}
abbrev T9 (K:au)(te:TE):TE:=λσ H Q=>te σ H λx H1=>∃a xs,x=.ref a/\m9 K H1 a xs/\∀p,H1 p=none->Q (.ref p) (upd H1 p (.tup xs.reverse))
def El{e:aE}{te:TE}{up cp:Pos}{kk:Nat}(he:PE X e te):PE X (.Subscript e (.Slice none none (some (.UnaryOp .USub (.Constant (.int 1) kk cp) up)) p2) pos) (T9 X.K te):=by
 x_go;refine Subscript_ (kR (he pins s σ H _ I h) λv s1 ⟨x,H1,I1,r1,a,xs,ex,hq,q⟩=>?_);subst ex
 cases r1
 refine wpAny_Slice ?_;rw[jc];refine aJ ?_;refine aJ ?_;rw[evalPart_some];refine kR ((J7 (a:=.Constant (.int 1) kk cp) CT CZ) pins s1 σ H1 (λv H'=>v=.int (-1)/\H'=H1) I1 ⟨1,rfl,rfl,rfl⟩) λvs s3 h9=>?_;obtain⟨y,H3,I3,r3,ey,eH⟩:=h9;subst ey eH;obtain⟨t,rfl⟩:=r3;have I4:Inv X pins σ H3 { s3 with heap:=s3.heap.push { cls:=.type "slice",data:=.fields #[.none,.none,.int (-1) t]}}:=I3.kept (t':=s3.toks) λb ob q=>aO _ q;obtain⟨its,rv,pl,hz⟩:=I4.tuple hq
 skip
 refine tail_any (ops:=[.ref a,.ref s3.heap.objs.size]) pl.typeIs cG.lookup ?_ (by with_unfolding_all rfl);have hlen:=rv.length;refine uX pl (iW ..) ?_ (by rw[aS]<;>lia);refine⟨.ref _,_,I4.laid (t':=s3.toks) (o:=.tup xs.reverse) (λb o e=>aO _ e) (aP _) ⟨by rw[dX];exact hz,its.reverse,rv.reverse,?_⟩,rfl,q _ I4.fresh⟩;exact nN.new _ _
abbrev Tz (K:au):V->V->Hp->VK->Prop:=λo i H Q=>∃p xs k v,o=.ref p/\i=.int k/\nB K H p xs/\0<=k/\xs[k.toNat]?=some v/\Q v H
def HD:Qh X (Tz X.K):=by
 intro pins s σ H o i ov iv Q I ro ri h;obtain⟨p,xs,k,v,rfl,rfl,hq,h0,hv,q⟩:=h
 cases ro
 obtain⟨t,rfl⟩:=ri;obtain⟨its,r,pl,hz⟩:=I.list hq;obtain⟨u,eu,ru⟩:=r.get hv;have hl:=r.length;have hn:=q_;have hk:k.toNat<xs.length:=(aK.mp hv).1;exact wpAny_getItem_list pl.isList h0 () (by simpa using eu) ⟨v,H,I,ru,q⟩
end
def Ad(elt t1 i1 t2 i2:aE)(f1 f2:List aE)(scope:Scope)(pos:Pos)(it acc:af)(env:Env) :
  compTurn (.ListComp elt [⟨t1,i1,f1,0⟩,⟨t2,i2,f2,0⟩] scope pos) 0 it acc env=(do
   standAt i1.pos
   match <- pyNext it with
   | none=>pure (.done .next)
   | some v=>
    letOwnedTupleGo t1 it v
    assign t1 env v
    let mut ok:=true
    for c in f1 do
     if ok then ok <- isTrue c env (eval c env)
    if ok then
     let x <- eval i2 env
     standAt i2.pos
     let x <- foldedSetIterable i2 env x
     let _ <- runOwn (.compStart (.ListComp elt [⟨t1,i1,f1,0⟩,⟨t2,i2,f2,0⟩] scope pos) 1 (<- holding [x] (pyIter x)) acc env) env
    again (.compLoop (.ListComp elt [⟨t1,i1,f1,0⟩,⟨t2,i2,f2,0⟩] scope pos) 0 it acc env)):=by rfl
def zJ(elt t1 i1 t2 i2:aE)(f1 f2:List aE)(scope:Scope)(pos:Pos)(it acc:af)(env:Env) :
  compTurn (.ListComp elt [⟨t1,i1,f1,0⟩,⟨t2,i2,f2,0⟩] scope pos) 1 it acc env=(do
   standAt i2.pos
   match <- pyNext it with
   | none=>pure (.done .next)
   | some v=>
    letOwnedTupleGo t2 it v
    assign t2 env v
    let mut ok:=true
    for c in f2 do
     if ok then ok <- isTrue c env (eval c env)
    if ok then
     (do let _ <- call (.builtin "list.append") [acc,<- eval elt env])
    again (.compLoop (.ListComp elt [⟨t1,i1,f1,0⟩,⟨t2,i2,f2,0⟩] scope pos) 1 it acc env)):=by rfl
section
variable {prog:aj}{w:ah}{A:aA}{R:Result->aC->Prop}{s:aC}
def qL{f1 f2:List aE}{acc:af}{env:Env}
  (h0:codeAny (model prog w) A (.compLoop (.ListComp elt [⟨t1,i1,f1,0⟩,⟨t2,i2,f2,0⟩] scope pos) 1 it acc env) R s)
  (h:wpAny (model prog w) A (pyIter it) (λit' s'=>codeAny (model prog w) A (.compLoop (.ListComp elt [⟨t1,i1,f1,0⟩,⟨t2,i2,f2,0⟩] scope pos) 1 it' acc env) R s')
   (notedBy (model prog w) A env λx s'=>R (.error x) s') s) :
  codeAny (model prog w) A (.compStart (.ListComp elt [⟨t1,i1,f1,0⟩,⟨t2,i2,f2,0⟩] scope pos) 1 it acc env) R s:=by
 refine codeAny_of_tree ?_
 skip
 refine wpAny_notedAt ?_;unfold compStart
 skip
 refine aG (wpAny_askSetting (wpAny_ite ?_));split
 ·first
   | exact aG (aJ (aJ (anI rfl h0)))
   | exact aJ (anI rfl h0)
 ·first
   | exact aG (fN (aG (eL (aG (fh h (λit' s' h'=>aJ (anI rfl h')) λ_ _ x=>x)))))
   | (refine aG (fN ?_);show wpAny _ _ (standAt i2.pos >>= _) _ _ s;exact aG (eL (aG (fh h (λit' s' h'=>aJ (anI rfl h')) λ_ _ x=>x))))
end
abbrev J_ (g:TG)(tc:TT)(te:TE)(D:ak)(Nn:L2.St->Hp->Prop)(σ:L2.St)(J:It)(H1:Hp):Prop:=
 ∃V:Nat->Nat->L2.St->Hp->Prop,(∃m,V 0 m σ H1)/\∀i m σ' H',V i m σ' H' ->
  (J.stop i H'/\Nn σ' H')\/(J.go i H'/\∀x H2,J.yld i H' x H2->g x σ' H2 λσ3 H3=>tc σ3 H3 λb H4=>
   if b=true then te σ3 H4 λy H5=>∃ys,H5 D=some (.lst ys)/\ys.length<sizeLine/\∃m',m'<m/\V (i+1) m' σ3 (upd H5 D (.lst (ys++[y])))
   else ∃m',m'<m/\V (i+1) m' σ3 H4)
def Dp{Z:Cx}{f1:List aE}{fp:ar}{D:ak}{tn:Nat->aq->Prop}{H:Hp}{s:aC}{g:TG}{tc:TT}{te:TE}{Nn:L2.St->Hp->Prop}
  (hc:Z.calm=true) (hxe:Z.xe=λ_ _=>False) (T:Turn Z.prog Z.w Z.K tg J fp it tn) (I:Inv Z pins σ H s) (st:tn 0 s.heap) (hf:∀b∈fp,rC Z pins H b) (hg:PG Z tg g) (ht:Mb Z ifs tc) (he:PE Z elt te) (goal:J_ g tc te D Nn σ J H) :
  codeAny (model Z.prog Z.w) Z.A (.compLoop (.ListComp elt [⟨t1,i1,f1,0⟩,⟨tg,i2,ifs,0⟩] scope pos) 1 (.ref it) (.ref D) Z.env) (λr s'=>r=.ok .next/\∃σ' H',Inv Z pins σ' H' s'/\Nn σ' H') s:=by
 obtain⟨V,⟨m0,v0⟩,turn⟩:=goal;have stat:∀{H':Hp},(∀b∈fp,H' b=none)->∀b∈fp,rC Z pins H' b:=λhn b hb=>⟨hn b hb,(hf b hb).2⟩;refine codeAny_loop rfl (λn s'=>∃i σ' H',Inv Z pins σ' H' s'/\tn i s'.heap/\(∀b∈fp,H' b=none)/\V i n σ' H') (λn s5 hI=>?_) m0 ⟨0,σ,H,I,st,λb hb=>(hf b hb).1,v0⟩;obtain⟨i,σ5,H5,I5,st5,fr5,w5⟩:=hI
 skip
 refine wpAny_noted ?_;rw[zJ];refine aG (eL (aG ?_))
 rcases turn i n σ5 H5 w5 with⟨stop,q⟩|⟨go,step⟩
 ·refine kR (T.done Z rfl rfl rfl hc i pins s5 σ5 H5 _ I5 (stat fr5) st5 stop) λr s6 h9=>?_;obtain⟨hr,I6⟩:=h9;subst hr;exact aJ ⟨rfl,σ5,H5,I6,q⟩
 ·refine kR (T.item Z rfl rfl rfl hc i pins s5 σ5 H5 _ I5 (stat fr5) st5 go) λr s6 h9=>?_;obtain⟨u,hr,h6⟩:=h9;subst hr;refine aG (kR h6 λ_ s7 ⟨x,H7,I7,r7,y7,st7,fr7⟩=>?_);have I7':=I7.pinned (stat fr7) (T.obj _ _ st7);have toF:∀{α:Type} {t:Sem α} {Q Q':α->aC->Prop} {E:af->aC->Prop} {s:aC},wpAny (model Z.prog Z.w) Z.A t Q Z.xe s->(∀a s,Q a s->Q' a s)->wpAny (model Z.prog Z.w) Z.A t Q' E s:=λh hQ=>by
   rw[hxe]at h;exact Ag h hQ
  refine aG (toF (hg _ s7 σ5 H7 x u _ I7' r7 (step x H7 y7)) λ_ s8 ⟨σ8,H8,I8,q8⟩=>?_);refine aG (toF (ht _ s8 σ8 H8 _ I8 q8) λok s9 ⟨H9,I9,q9⟩=>?_);have again:∀{s10:aC} {H10:Hp},Inv Z (pins++tU fp s7.heap) σ8 H10 s10->(∃m',m'<n/\V (i+1) m' σ8 H10) ->
    ∃m,m<n/\∃i σ' H',Inv Z pins σ' H' s10/\tn i s10.heap/\(∀b∈fp,H' b=none)/\V i m σ' H':=λ{s10 H10} I10 h9=>by
   obtain⟨m',hm,w10⟩:=h9;refine⟨m',hm,i+1,σ8,H10,I10.oJ,T.keep _ _ _ st7 λb hb o e=>(I10.pin (b,o) (a_ _ (a_ _ (lC hb e)))).1,λb hb=>?_,w10⟩;obtain⟨o,e,d⟩:=T.obj _ _ st7 b hb;exact(I10.pin (b,o) (a_ _ (a_ _ (lC hb e)))).2.1
  cases ok with
  | false=>
   rw[aM aY]at q9;exact aJ ⟨rfl,again I9 q9⟩
  | true=>
   rw[aN rfl]at q9;refine aG (aG (toF (he _ s9 σ8 H9 _ I9 q9) λy s10 ⟨v10,H10,I10,r10,ys,hD,hz,w10⟩=>?_));refine aG (toF (vC _ s10 σ8 H10 (.ref D) [v10] _ [y] (λ_ H'=>H'=upd H10 D (.lst (ys++[v10]))) I10 rfl (.cons r10 .nil) ⟨_,ys,v10,rfl,rfl,hD,hz,rfl⟩) λ_ s11 ⟨_,H11,I11,_,e11⟩=>?_);subst e11;exact aJ (aJ ⟨rfl,again I11 w10⟩)
abbrev M6 (cap:List (bi))(g:TG)(tc:TT)(wi2:TI)(g2:TG)(tc2:TT)(te:TE)(σ:L2.St)(Q:VK)(J:It)(H1:Hp):Prop:=∀D,H1 D=none ->
 ∃W:Nat->Nat->L2.St->Hp->Prop,(∃m,W 0 m (cap.map (MS σ)) (upd H1 D (.lst [])))/\∀i m σ' H',W i m σ' H' ->
  (J.stop i H'/\Q (.ref D) H')\/(J.go i H'/\∀x H2,J.yld i H' x H2->g x σ' H2 λσ3 H3=>tc σ3 H3 λb H4=>
   if b=true then wi2 σ3 H4 (J_ g2 tc2 te D (λσ5 H5=>∃m',m'<m/\W (i+1) m' σ5 H5) σ3)
   else ∃m',m'<m/\W (i+1) m' σ3 H4)
abbrev VE (cap:List (bi))(wi:TI)(g:TG)(tc:TT)(wi2:TI)(g2:TG)(tc2:TT)(te:TE):TE:=λσ H Q=>wi σ H (M6 cap g tc wi2 g2 tc2 te σ Q)
def QA{X:Cx}{iter:aE}{N:am}{wi wi2:TI}{g g2:TG}{tc tc2:TT}{te:TE}(hc:X.calm=true)(S:CpScope X scope N cap)(hi:PI X tg iter wi)
  (hg:∀C s₀ H₀ ex,PG (kO X scope N C s₀ H₀ ex) tg g) (ht:∀C s₀ H₀ ex,Mb (kO X scope N C s₀ H₀ ex) ifs tc) (hi2:∀C s₀ H₀ ex,PI (kO X scope N C s₀ H₀ ex) tg2 iter2 wi2)
  (hg2:∀C s₀ H₀ ex,PG (kO X scope N C s₀ H₀ ex) tg2 g2) (ht2:∀C s₀ H₀ ex,Mb (kO X scope N C s₀ H₀ ex) ifs2 tc2) (he:∀C s₀ H₀ ex,PE (kO X scope N C s₀ H₀ ex) elt te)
  (hs:∀x,foldedSetIterable iter X.env x=pure x:=by intro _;rfl) (hs2:∀env x,foldedSetIterable iter2 env x=pure x:=by intro _ _;rfl):PE X (.ListComp elt [⟨tg,iter,ifs,0⟩,⟨tg2,iter2,ifs2,0⟩] scope pos) (VE cap wi g tc wi2 g2 tc2 te):=by
 x_go;kpf_c;rw[eval_ListComp];refine wpAny_comprehension_free (use:=none) rfl hs (yp hfree) S.kind S.nm (kR (hi pins s σ H _ I h) λxv s1 h1=>kR h1 λitv s2 h2=>?_);obtain⟨it,fp,tn,J,H2,rfl,I2,T,st2,f2,h2⟩:=h2;refine bC (wpAny_newFunctionEnv S.nocell (by intro y hy;simp at hy) (λh₁ hns₁ hsb₁=>?_) S.kind);obtain⟨W,⟨m0,w0⟩,turn⟩:=h2 s2.heap.objs.size I2.fresh;dsimp only at hns₁ hsb₁ ⊢;have I3:Inv X pins σ (upd H2 s2.heap.objs.size (.lst [])) { s2 with heap:=s2.heap.push {}}:=I2.LG (t':=s2.toks) (its:=[]) .nil (cY _);have hfp:∀b∈fp,∃o,s2.heap.get? b=some o:=λb hb=>by
  obtain⟨o,e,_⟩:=T.obj 0 _ st2 b hb;exact⟨o,e⟩
 have neD:∀b∈fp,b≠s2.heap.objs.size:=λb hb=>by
  obtain⟨o,e⟩:=hfp b hb;exact bD (aX e)
 have f3:∀b∈fp,rC X pins (upd H2 s2.heap.objs.size (.lst [])) b:=λb hb=>⟨by rw[jR (neD b hb)];exact(f2 b hb).1,(f2 b hb).2⟩;have hDC:s2.heap.objs.size≠(s2.heap.push {}).objs.size:=by rw[e_];exact bD (c6 _)
 have old:∀b o,(s2.heap.push {}).get? b=some o->h₁.get? b=some o:=λb o e=>hsb₁.extBut b o (bD (aX e)) (aO _ e);have I4:=Lz (tk:=s2.toks+([]:List (Str×af)).length) (fp:=fp) S I3 f3 (λb hb=>by
  obtain⟨o,e⟩:=hfp b hb;exact⟨o,aO _ e⟩) hns₁ old
 have st4:tn 0 h₁:=T.keep _ _ _ st2 λb hb o e=>old b o (aO _ e);have stat:∀{H':Hp},(∀b∈fp,H' b=none)->∀b∈fp,rC (kO X scope N (s2.heap.push {}).objs.size { s2 with heap:=s2.heap.push {}} (upd H2 s2.heap.objs.size (.lst [])) fp) [] H' b:=λhn b hb=>by
  have ok:=I4.ok;refine⟨hn b hb,(ok.exf b hb).1,ok.exfs b hb,.inl hb,λx c e=>(ok.exf b hb).2 x c e,λp hp=>nomatch hp⟩
 have loop:∀s4:aC,s4={ s2 with heap:=h₁,toks:=s2.toks+([]:List (Str×af)).length } ->
   codeAny (model X.prog X.w) X.A (.compLoop (.ListComp elt [⟨tg,iter,ifs,0⟩,⟨tg2,iter2,ifs2,0⟩] scope pos) 0 (.ref it) (.ref s2.heap.objs.size) (compEnvC scope (v8 X.env scope.names []) (s2.heap.push {}).objs.size X.env))
    (compPost (model X.prog X.w) X.A X.xe none (EP X pins σ Q) (.ref s2.heap.objs.size) (s2.heap.push {}).objs.size) s4:=by
  rintro s4 rfl;refine codeAny_loop rfl (λn s'=>∃i σ' H',Inv (kO X scope N (s2.heap.push {}).objs.size { s2 with heap:=s2.heap.push {}} (upd H2 s2.heap.objs.size (.lst [])) fp) [] σ' H' s'/\tn i s'.heap/\(∀b∈fp,H' b=none)/\W i n σ' H') (λn s5 hI=>?_) m0 ⟨0,_,_,I4,st4,λb hb=>(f3 b hb).1,w0⟩;obtain⟨i,σ5,H5,I5,st5,fr5,w5⟩:=hI
  skip
  refine wpAny_noted ?_;rw[Ad];refine aG (eL (aG ?_))
  rcases turn i n σ5 H5 w5 with⟨stop,q⟩|⟨go,step⟩
  ·refine kR (T.done (kO X scope N (s2.heap.push {}).objs.size { s2 with heap:=s2.heap.push {}} (upd H2 s2.heap.objs.size (.lst [])) fp) rfl rfl rfl hc i [] s5 σ5 H5 _ I5 (stat fr5) st5 stop) λr s6 h9=>?_;obtain⟨hr,I6⟩:=h9;subst hr;obtain⟨m6,hn6,_⟩:=I6.loc;refine aJ ⟨m6,hn6,λh' sb=>?_⟩;have u6:=I6.base;have nC:∀b o,(s2.heap.push {}).get? b=some o->b≠(s2.heap.push {}).objs.size:=λb o e=>bD (aX e);refine⟨.ref s2.heap.objs.size,H5,?_,rfl,q⟩;refine I3.Jf (ch:=fp) I6.os ⟨λb o e n hb hx=>?_,λb o e n hb hx=>?_,λb o e n hx=>?_,λb o e hx=>?_,u6.tups,u6.frzs,u6.tbls⟩ ?_ I6.bare ?_
   ·exact sb.extBut b o (nC b o e) (u6.keep b o e n hb hx)
   ·obtain⟨sl,z⟩:=u6.slot b o e n hb hx;exact⟨sl,sb.extBut b _ (nC b o e) z⟩
   ·exact u6.free b o e n hx
   ·obtain⟨o',z⟩:=u6.there b o e hx;exact⟨o',sb.extBut b _ (nC b o e) z⟩
   ·intro b o e;have hb:∀c v,H5 c=some v->c≠(s2.heap.push {}).objs.size:=λc v e z=>by
     rw[z]at e;have:=I6.free;rw[show H5 (s2.heap.push {}).objs.size=none from this]at e
     cases e
    refine(I6.hok b o e).stay (λc v hc q=>sb.extBut c v ?_ q) (λ_ q=>q) λ_ _ q=>q
    rcases hc with z|z
    ·rw[z];exact hb b o e
    ·exact hb c _ z
   ·intro b hb;obtain⟨_,z1,_,z3,z4,z5⟩:=f3 b hb;exact⟨z3,z1,z4,z5⟩
  ·refine kR (T.item (kO X scope N (s2.heap.push {}).objs.size { s2 with heap:=s2.heap.push {}} (upd H2 s2.heap.objs.size (.lst [])) fp) rfl rfl rfl hc i [] s5 σ5 H5 _ I5 (stat fr5) st5 go) λr s6 h9=>?_;obtain⟨u,hr,h6⟩:=h9;subst hr;refine aG (kR h6 λ_ s7 ⟨x,H7,I7,r7,y7,st7,fr7⟩=>?_);have I7':=I7.pinned (stat fr7) (T.obj _ _ st7);refine aG (Ag (hg _ _ _ fp _ s7 σ5 H7 x u _ I7' r7 (step x H7 y7)) λ_ s8 ⟨σ8,H8,I8,q8⟩=>?_);refine aG (Ag (ht _ _ _ fp _ s8 σ8 H8 _ I8 q8) λok s9 ⟨H9,I9,q9⟩=>?_);have again:∀{s10:aC} {H10:Hp} {σ10:L2.St},Inv (kO X scope N (s2.heap.push {}).objs.size { s2 with heap:=s2.heap.push {}} (upd H2 s2.heap.objs.size (.lst [])) fp) ([]++tU fp s7.heap) σ10 H10 s10->(∃m',m'<n/\W (i+1) m' σ10 H10) ->
     ∃m,m<n/\∃i σ' H',Inv (kO X scope N (s2.heap.push {}).objs.size { s2 with heap:=s2.heap.push {}} (upd H2 s2.heap.objs.size (.lst [])) fp) [] σ' H' s10/\tn i s10.heap/\(∀b∈fp,H' b=none)/\W i m σ' H':=λ{s10 H10 σ10} I10 h9=>by
    obtain⟨m',hm,w10⟩:=h9;refine⟨m',hm,i+1,σ10,H10,I10.oJ,T.keep _ _ _ st7 λb hb o e=>(I10.pin (b,o) (a_ _ (a_ _ (lC hb e)))).1,λb hb=>?_,w10⟩;obtain⟨o,e,d⟩:=T.obj _ _ st7 b hb;exact(I10.pin (b,o) (a_ _ (a_ _ (lC hb e)))).2.1
   cases ok with
   | false=>
    rw[aM aY]at q9;exact aJ ⟨rfl,again I9 q9⟩
   | true=>
    rw[aN rfl]at q9;refine aG (Ag (hi2 _ _ _ fp _ s9 σ8 H9 _ I9 q9) λxv s10 h10=>aG (eL ?_));rw[hs2];refine aG (aJ (aG (dg (Ag h10 λitv s11 h11=>?_))));obtain⟨it2,fp2,tn2,J2,H11,rfl,I11,T2,st11,f11,goal⟩:=h11;have hcz:=hc;have loop2:=(λ(Z:Cx) (h1:Z.calm=true) (h2:Z.xe=λ_ _=>False) T2 I11=>Dp (Z:=Z) (t1:=tg) (i1:=iter) (f1:=ifs) (i2:=iter2) (scope:=scope) (pos:=pos) h1 h2 T2 I11) _ (show(kO X scope N _ _ _ fp).calm=true from hcz) rfl T2 I11 st11 f11 (hg2 _ _ _ fp) (ht2 _ _ _ fp) (he _ _ _ fp) goal;refine aG (wpAny_runOwn (iS (qL loop2 (T2.self _ 0 _ _ _ st11 loop2)) λr s12 hr12=>?_));obtain⟨hr,σ12,H12,I12,n12⟩:=hr12;subst hr;exact aJ ⟨rfl,again I12 n12⟩
 exact codeAny_compStart_list (loop _ rfl) (T.self _ 0 _ _ _ st4 (loop _ rfl))
end L2
namespace L2
open PySem PySem.Spec PyProof.Rows
open PySem.SeqAt
open PySem.AutoSeq1 (wpAny_loadPart')
open PySem.MeetsSeq PySem.MeetsSeq2 PySem.MeetsSeq3 PySem.SeqAt
section
variable {X:Cx}
def Lq:n8 X (binaryOp .FloorDiv) (rI (λ_ j=>0<j/\j<18446744073709551616) λi j=>.int (i / j)):=UM λi j _ _ _ _ _ hc q=>by
 have h1:(0:Int)<j:=hc.1;have h2:j<18446744073709551616:=hc.2;refine floordiv_int (by omega) (by rw[Int.fdiv_eq_ediv_of_nonneg i (by omega)];exact q) (.inl (PyProof.noPylong_of_log2 ?_));exact bM ((Nat.log2_lt (by omega)).mpr (show j.natAbs<2 ^ 64 by omega)) ⋯
end
end L2
namespace L2
open PySem PySem.Spec PyProof.Rows
abbrev VW (x:Str):It:=⟨λi _=>i<x.cps.size,λi H v H'=>H'=H/\∃c,x.cps[i]?=some c/\v=.str ⟨#[c]⟩,λi _=>i=x.cps.size⟩
def J6{P:aj}{w:ah}{K:au}(x:Str)(t:Tok)(it:ak):Turn P w K tg (VW x) [it] it (λi h=>h.IsStrIter it "str_ascii_iterator" x t i) where
 mem:=by simp
 obj:=λi h st b hb=>by
  have e:b=it:=by simpa using hb
  subst e;obtain⟨o,e,c,d⟩:=st;exact⟨o,e,λv z=>by rw[d]at z;cases z⟩
 keep:=λi h h' st k=>let⟨o,ho,r⟩:=st;⟨o,k it (by simp) o ho,r⟩
 item:=by
  k_ne;subst hP hw hK;gp_on;have W:=Walks.strAscii (prog:=X.prog) (w:=X.w) (I.ok.hd hc) it x t;refine W.item i s _ _ hg st λv h' tk hv st' kk=>?_;obtain⟨c,u,hcx,rfl⟩:=hv;have I1:Inv X pins σ H { s with heap:=h',toks:=tk }:=I.turned (λb o hb e=>kk b o (by simpa using hb) e) f0 f1 f3 f4 f5;obtain⟨o,e,cc,d⟩:=id st';exact⟨_,rfl,EJ (s:={ s with heap:=h',toks:=tk }) e cc d ⋯ ⟨.str ⟨#[c]⟩,H,I1,⟨u,rfl⟩,⟨rfl,c,hcx,rfl⟩,st',λb hb=>(hf b hb).1⟩⟩
 done:=by
  k_ne;subst hP hw hK;gp_on;have hg:i=x.cps.size:=hg;subst hg;have W:=Walks.strAscii (prog:=X.prog) (w:=X.w) (I.ok.hd hc) it x t;exact W.done s _ _ st λh' tk kk=>⟨rfl,I.turned (λb o hb e=>kk b o (by simpa using hb) e) f0 f1 f3 f4 f5⟩
 self:=λ_ _ _ _ _ st h=>wpAny_pyIter_striter_ascii st h
section
variable {X:Cx}{tg:aE}
abbrev Vj (tl:TE):TI:=λσ H R=>tl σ H λx H1=>∃y:Str,x=.str y/\y.cps.all (· < 128)=true/\R (VW y) H1
def Q6{tl:TE}(hl:PE X l tl):PI X tg l (Vj tl):=by
 intro pins s σ H R I h;refine kR (hl pins s σ H _ I h) λv s1 h9=>?_;obtain⟨x,H1,I1,r1,q1⟩:=h9;obtain⟨y,e,ha,q⟩:=q1;subst e;obtain⟨t,rfl⟩:=r1;refine wpAny_pyIter_ascii ha ?_;refine⟨s1.heap.objs.size,[s1.heap.objs.size],_,_,H1,rfl,I1.kept (t':=s1.toks) λb o e=>aO _ e,J6 y t _,⟨_,bg _ rfl,rfl,rfl⟩,λb hb=>?_,q⟩;have e:b=s1.heap.objs.size:=by simpa using hb
 subst e;exact I1.GF (aP _) (I1.hok.fresh (aP _))
end
section
variable {κ:Type}[DecidableEq κ]
abbrev uN (kvs:List (κ×V))(k:κ):Option V:=(kvs.find? λkv=>decide (kv.1=k)).map (·.2)
abbrev putK (kvs:List (κ×V))(k:κ)(v:V):List (κ×V):=
 if (kvs.any λkv=>decide (kv.1=k))=true then kvs.map (λkv=>if kv.1=k then(kv.1,v)else kv)else kvs++[(k,v)]
def uC{p:κ×V}{r:List (κ×V)}{k:κ}(e:p.1=k):uN (p::r) k=some p.2:=by simp[uN,dW,e]
def uz{p:κ×V}{r:List (κ×V)}{k:κ}(e:¬p.1=k):uN (p::r) k=uN r k:=by simp[uN,dW,e]
theorem xj(k:κ):∀kvs:List (κ×V),(kvs.any λkv=>decide (kv.1=k))=(uN kvs k).isSome
 | []=>rfl
 | p::r=>by
  rw[any_cons];by_cases e:p.1=k
  ·dsimp[uC e,br e,Bool.true_or,Option.isSome_some]
  ·rw[uz e,bu e,Bool.false_or];exact xj k r
def vP(kvs:List (κ×V))(k:κ)(v:V):(putK kvs k v).length<=kvs.length+1:=by
 unfold putK;split
 ·rw[aL];lia
 ·rw[aU,bE,fD];lia
def xO.u_{o:Option V}{u:ba}(r:xO o u):o.isSome=u.isSome:=by
 cases o with
 | none=>cases u with
  | none=>rfl
  | some _=>exact(show False from r).elim
 | some _=>cases u with
  | none=>exact(show False from r).elim
  | some _=>rfl
def KV.val(r:KV kvs vs)(k:κ):xO (uN kvs k) (valueAt vs k):=by
 unfold KV at r
 induction r with
 | nil=>exact True.intro
 | @cons p q ps qs h t ih=>
  obtain⟨h1,h2⟩:=h;by_cases e:p.1=k
  ·have e':q.1=k:=h1.symm.trans e;have b:valueAt (q::qs) k=some q.2:=by simp[valueAt,dW,e']
   rw[uC e,b];exact h2
  ·have e':¬q.1=k:=λz=>e (h1.trans z);have b:valueAt (q::qs) k=valueAt qs k:=by simp[valueAt,dW,e']
   rw[uz e,b];exact ih
def KV.any{kvs:List (κ×V)}{vs:List (κ×af)}(r:KV kvs vs)(k:κ):(kvs.any λkv=>decide (kv.1=k))=vs.any λkv=>decide (kv.1=k):=by
 unfold KV at r
 induction r with
 | nil=>rfl
 | cons h t ih=>rw[any_cons,any_cons,ih,h.1]
def KV.repl{kvs:List (κ×V)}{vs:List (κ×af)}(r:KV kvs vs)(k:κ)(ry:RelV y u) :
  KV (kvs.map λkv=>if kv.1=k then(kv.1,y)else kv) (vs.map λkv=>if kv.1=k then(kv.1,u)else kv):=by
 unfold KV at r ⊢
 induction r with
 | nil=>exact .nil
 | @cons p q ps qs h t ih=>
  rw[b9,b9];refine .cons ?_ ih;obtain⟨h1,h2⟩:=h;by_cases e:p.1=k
  ·rw[aN e,aN (h1.symm.trans e)];exact⟨h1,ry⟩
  ·rw[aM e,aM (λz=>e (h1.trans z))];exact⟨h1,h2⟩
def KV.put(r:KV kvs vs)(k:κ)(ry:RelV y u):KV (putK kvs k y) (stored vs k u):=by
 unfold putK stored;rw[r.any k];by_cases e:(vs.any λkv=>decide (kv.1=k))=true
 ·rw[aN e,aN e];exact r.repl k ry
 ·rw[aM e,aM e];exact Paired.snoc r ⟨rfl,ry⟩
def KV.length{kvs:List (κ×V)}{vs:List (κ×af)}(r:KV kvs vs):kvs.length=vs.length:=jb r
end
def DN{P:aj}{w:ah}{k:Key}(r:RelV (kV k) u):(kZ P w).is k u=true:=by
 cases k with
 | inl i=>obtain⟨t,e⟩:=(show ∃t,u=Value.int i t from r);subst e;exact Co P w i t
 | inr x=>obtain⟨t,e⟩:=(show ∃t,u=Value.str x t from r);subst e;exact A_ P w x t
theorem zk{P:aj}{w:ah}:∀{ks:List Key}{us:ap},Vals (ks.map kV) us->ItemsAre (kZ P w) ks us
 | [],_,r=>by rw[map_nil]at r;cases r;exact .nil
 | k::ks,_,r=>by
  rw[b9]at r
  cases r with
  | cons h t=>exact .cons (DN h) (zk t)
meta abbrev KT (H:Hp):List (List Key×V)->List (List Key×ak×af)->Prop:=Paired λp q=>p.1=q.1/\H q.2.1=some (.tup (p.1.map kV))/\RelV p.2 q.2.2
def KT.val{H:Hp}(r:KT H kvs xs)(k:List Key):xO (uN kvs k) ((atKey xs k).map (·.2)):=by
 induction r with
 | nil=>exact True.intro
 | @cons p q ps qs h t ih=>
  obtain⟨h1,_,h2⟩:=h;by_cases e:p.1=k
  ·have e':q.1=k:=h1.symm.trans e;have b:atKey (q::qs) k=some q.2:=by simp[atKey,dW,e']
   rw[uC e,b];exact h2
  ·have e':¬q.1=k:=λz=>e (h1.trans z);have b:atKey (q::qs) k=atKey qs k:=by simp[atKey,dW,e']
   rw[uz e,b];exact ih
def KT.repl{H:Hp}{kvs:List (List Key×V)}{xs:List (List Key×ak×af)}(r:KT H kvs xs)(k:List Key)(ry:RelV y u) :
  KT H (kvs.map λkv=>if kv.1=k then(kv.1,y)else kv) (xs.map (putAt k u)):=by
 induction r with
 | nil=>exact .nil
 | @cons p q ps qs h t ih=>
  rw[b9,b9];refine .cons ?_ ih;obtain⟨h1,h2,h3⟩:=h;unfold putAt;by_cases e:p.1=k
  ·rw[aN e,aN (h1.symm.trans e)];exact⟨h1,h2,ry⟩
  ·rw[aM e,aM (λz=>e (h1.trans z))];exact⟨h1,h2,h3⟩
def KT.put{H:Hp}(r:KT H kvs xs)(k:List Key)(hb:H b=some (.tup (k.map kV)))(ry:RelV y u) :
  KT H (putK kvs k y) (storedH xs k b u):=by
 have e:(kvs.any λkv=>decide (kv.1=k))=(atKey xs k).isSome:=by
  rw[xj,(r.val k).u_,isSome_map]
 unfold putK storedH;rw[e];by_cases q:(atKey xs k).isSome=true
 ·rw[aN q,aN q];exact r.repl k ry
 ·rw[aM q,aM q];exact Paired.snoc r ⟨rfl,hb,ry⟩
def KT.keeps{H H':Hp}(r:KT H kvs xs)(ht:∀b ys,H b=some (.tup ys)->H' b=some (.tup ys)):KT H' kvs xs:=
 Paired.QN r λ_ _ z=>⟨z.1,ht _ _ z.2.1,z.2.2⟩
section
variable {P:aj}{w:ah}{H:Hp}{h:aq}{a:ak}
def OZ(ok:tZ P w H h)(e:Rd H a u):kP P w H h a u:=e.ok ok
def EW{kvs:List (Key×V)}(ok:tZ P w H h)(e:Rd H a (.dK kvs)):kvs.length<=sizeLine/\(a == sysModules)=false/\∃vs,KV kvs vs/\h.DictOf (kZ P w) a vs:=
 show kP P w H h a (.dK kvs)from OZ ok e
def TU{kvs:List (Key×V)}(ok:tZ P w H h)(e:H a=some (.dK kvs)):kvs.length<=sizeLine/\(a == sysModules)=false/\∃vs,KV kvs vs/\h.DictOf (kZ P w) a vs:=EW ok (.inl e)
def xC{ks:List Key}(ok:tZ P w H h)(e:H a=some (.tup (ks.map kV))):(tupleKind (kZ P w)).is h ks a:=by
 obtain⟨_,its,r,o,h1,h2,_,n,h3⟩:=(show kP P w H h a (.tup (ks.map kV))from ok a _ e);exact⟨o,its.toArray,n,h1,h2,h3,by simpa using zk r⟩
def FL{kvs:List (List Key×V)}(ok:tZ P w H h)(e:Rd H a (.dT kvs)):kvs.length<=sizeLine/\(a == sysModules)=false /\
  ∃xs,KT H kvs xs/\h.DictOfH (tupleKind (kZ P w)) a xs:=by
 obtain⟨z,y,xs,r,o,es,ep,h1,h2,h3,h4,h5⟩:=(show kP P w H h a (.dT kvs)from OZ ok e);refine⟨z,y,xs,r,o,es,ep,h1,h2,h3,h4,λx hx=>?_,h5⟩;have all:∀{l:List (List Key×V)} {m:List (List Key×ak×af)},KT H l m->∀x∈m,(tupleKind (kZ P w)).is h x.1 x.2.1:=by
  intro l m q
  induction q with
  | nil=>intro x hx;exact nomatch hx
  | @cons p q ps qs hq t ih=>
   intro x hx
   rcases bL.mp hx with e|hx
   ·subst e;exact xC ok (by rw[<- hq.1];exact hq.2.1)
   ·exact ih x hx
 exact all r x hx
def Ce{kvs:List (List Key×V)}(ok:tZ P w H h)(e:H a=some (.dT kvs)):kvs.length<=sizeLine/\(a == sysModules)=false /\
  ∃xs,KT H kvs xs/\h.DictOfH (tupleKind (kZ P w)) a xs:=FL ok (.inl e)
end
abbrev zQ (H:Hp)(a:ak)(y:V)(r:Option V):Prop:=
 (∃kvs k,Rd H a (.dK kvs)/\y=kV k/\r=uN kvs k)\/∃kvs k b,Rd H a (.dT kvs)/\y=.ref b/\H b=some (.tup (k.map kV))/\r=uN kvs k
abbrev K1 (H:Hp)(a:ak)(y v:V)(H':Hp):Prop:=
 (∃kvs k,H a=some (.dK kvs)/\y=kV k/\kvs.length<sizeLine/\H'=upd H a (.dK (putK kvs k v))) \/
 ∃kvs k b,H a=some (.dT kvs)/\y=.ref b/\H b=some (.tup (k.map kV))/\kvs.length<sizeLine/\H'=upd H a (.dT (putK kvs k v))
def zQ.t{H:Hp}{a:ak}{k:List Key}(e:H a=some (.dT kvs))(eb:H b=some (.tup (k.map kV))):zQ H a (.ref b) (uN kvs k):=.inr ⟨kvs,k,b,.inl e,rfl,eb,rfl⟩
def K1.t{H:Hp}{a:ak}{kvs:List (List Key×V)}{k:List Key}{v:V}(e:H a=some (.dT kvs))(eb:H b=some (.tup (k.map kV)))(hl:kvs.length<sizeLine) :
  K1 H a (.ref b) v (upd H a (.dT (putK kvs k v))):=.inr ⟨kvs,k,b,e,rfl,eb,hl,rfl⟩
section
variable {X:Cx}{pins:bj}{σ:St}{H:Hp}{s:aC}{a:ak}{y v:V}{u r:af}{o:Option V}{A:aA}{E:af->aC->Prop}
def Inv.big(I:Inv X pins σ H s):sysModules<s.heap.objs.size:=by
 have h:mainGlobals<s.heap.objs.size:=(I.mod.glob.keeps I.bk).lt;exact Nat.lt_trans ⋯ h
def G1{Q:af->aC->Prop}(hu:A.units+1<cLine)(I:Inv X pins σ H s)(g:zQ H a y (some v))(ry:RelV y u)(h:∀w' s',Inv X pins σ H s'->RelV v w'->Q w' s') :
  wpAny (model X.prog X.w) A (getItem (.ref a) u) Q E s:=by
 rcases g with⟨kvs,k,e,ey,l⟩|⟨kvs,k,b,e,ey,eb,l⟩
 ·subst ey;obtain⟨z,hd,vs,rel,dd⟩:=EW I.hok e;obtain⟨w',hw,rw'⟩:=xO.some_of (v:=v) (o:=valueAt vs k) (by rw[l];exact rel.val k);exact wpAny_getItem_of (DN ry) dd.mapOf hw (h w' _ (I.tok _) rw')
 ·subst ey
  cases(show u=Value.ref b from ry)
  obtain⟨z,hd,xs,rel,dd⟩:=FL I.hok e;obtain⟨w',hw,rw'⟩:=xO.some_of (v:=v) (o:=(atKey xs k).map (·.2)) (by rw[l];exact rel.val k);obtain⟨p,hp,hp2⟩:=bw.mp hw;refine wpAny_getItem_heap (iX hu) (xC I.hok eb) dd hp ?_;rw[hp2];exact h w' _ (I.tok _) rw'
def NJ{Q:af->aC->Prop}(hu:A.units+1<cLine)(I:Inv X pins σ H s)(g:zQ H a y o)(ry:RelV y u)(h:∀s',Inv X pins σ H s'->Q (.bool (!o.isSome)) s') :
  wpAny (model X.prog X.w) A (compareOp .NotIn u (.ref a)) Q E s:=by
 rcases g with⟨kvs,k,e,ey,l⟩|⟨kvs,k,b,e,ey,eb,l⟩
 ·subst ey;obtain⟨z,hd,vs,rel,dd⟩:=EW I.hok e;refine wpAny_notIn_of (DN ry) hd dd.mapOf ?_;rw[<- (rel.val k).u_,<- l];exact h _ (I.tok _)
 ·subst ey
  cases(show u=Value.ref b from ry)
  obtain⟨z,hd,xs,rel,dd⟩:=FL I.hok e;refine wpAny_notIn_heap (iX hu) (xC I.hok eb) hd dd ?_;have q:=(rel.val k).u_;rw[isSome_map]at q;rw[<- q,<- l];exact h _ (I.tok _)
def wm{h':aq}{t':Nat}{ob:HO}(I:Inv X pins σ H s)(mu:SV (H a))(hs:Heap.SameBut a s.heap h')(he:∃q,h'.get? a=some q)(new:kP X.prog X.w (upd H a ob) h' a ob) :
  Inv X pins σ (upd H a ob) { s with heap:=h',toks:=t' }:=
 I.write (x:=a) (e:=a) mu (.inl rfl) (λb q hb z=>(hs.2 b hb).trans z) he new
def Pc{P:aj}{w:ah}{H':Hp}{h':aq}{kvs:List (Key×V)}(z:kvs.length<=sizeLine)(hd:(a == sysModules)=false)(rel:KV kvs vs)(dd:h'.DictOf (kZ P w) a vs) :
  kP P w H' h' a (.dK kvs):=⟨z,hd,vs,rel,dd⟩
def Hi{H':Hp}{Q:Unit->aC->Prop}(hu:A.units+1<cLine)(I:Inv X pins σ H s)(g:K1 H a y v H')(ry:RelV y u)(rv:RelV v r)(h:∀s',Inv X pins σ H' s'->Q Unit.unit s') :
  wpAny (model X.prog X.w) A (setItem (.ref a) u r) Q E s:=by
 rcases g with⟨kvs,k,e,ey,l,eH⟩|⟨kvs,k,b,e,ey,eb,l,eH⟩
 ·subst ey eH;obtain⟨z,hd,vs,rel,dd⟩:=TU I.hok e;have hz:vs.length<=sizeLine:=by rw[<- rel.length];exact z
  have hl:(putK kvs k v).length<=sizeLine:=by have:=vP kvs k v;lia
  refine wpAny_setItem_pairs (hsz:=hz) (DN ry) dd λh' dd' hs=>h _ ?_;have he:∃q,h'.get? a=some q:=let⟨q,_,_,hq,_⟩:=dd';⟨q,hq⟩
  exact wm I (by rw[e];exact True.intro) hs he (Pc hl hd (rel.put k rv) dd')
 ·subst ey eH
  cases(show u=Value.ref b from ry)
  obtain⟨z,hd,xs,rel,dd⟩:=Ce I.hok e;have hz:xs.length<=sizeLine:=by rw[<- jb rel];exact z
  have hl:(putK kvs k v).length<=sizeLine:=by have:=vP kvs k v;lia
  refine wpAny_setItem_heap (hsz:=hz) (iX hu) (xC I.hok eb) dd λh' dd' hs=>h _ ?_;obtain⟨q,es,ep,hq,h2,h3,h4,_,h5⟩:=dd';refine wm I (by rw[e];exact True.intro) hs ⟨q,hq⟩ ⟨hl,hd,_,(rel.put k eb rv).keeps λc ys ec=>?_,q,es,ep,hq,h2,h3,h4,h5⟩;rw[jR (Lf ec e (λz=>nomatch z))];exact ec
end
def Bd{X:Cx}{H:Hp}{s:aC}{a:ak}(I:Inv X pins σ H s)(g:zQ H a y o):s.TypeIs (.ref a) "dict" := by
 rcases g with⟨kvs,k,e,_,_⟩|⟨kvs,k,b,e,_,_,_⟩
 ·obtain⟨_,_,vs,_,dd⟩:=EW I.hok e;exact dd.typeIs
 ·obtain⟨_,_,xs,_,dd⟩:=FL I.hok e;exact dd.typeIs
def L7{P:aj}{w:ah}{H:Hp}(h:aq)(hb:sysModules<h.objs.size):kP P w H (h.push { cls:=.type "dict",data:=.dict #[]}) h.objs.size (.dT []):=
 ⟨cY _,beq_eq_false_iff_ne.mpr (gp (bD hb)),[],.nil,_,#[],0,bg _ rfl,⟨rfl,rfl,rfl⟩,rfl,rfl,List.nodup_nil⟩
structure M1 (X:Cx)(o:aE)(m:Str)(apos:Pos)(e:aE)(cpos:Pos):Prop where
 base:attributeBase o m X.env (eval o X.env)=eval o X.env
 few:((backTo cpos (starEach [e] X.env)).all (λx=>!x.1) && (backToKw cpos (keywordEach [] X.env)).all (λx=>x.1.isSome)
  && decide (([e]:List aE).length+([]:List Keyword).length+(if ([]:List Keyword).isEmpty then 0 else 1)<30))=true
 line:(apos.endLine == cpos.line)=true
 trees:backTo cpos (starEach [e] X.env)=[(false,eval e X.env)]
structure M2 (X:Cx)(o:aE)(m:Str)(apos:Pos)(e f:aE)(cpos:Pos):Prop where
 base:attributeBase o m X.env (eval o X.env)=eval o X.env
 few:((backTo cpos (starEach [e,f] X.env)).all (λx=>!x.1) && (backToKw cpos (keywordEach [] X.env)).all (λx=>x.1.isSome)
  && decide (([e,f]:List aE).length+([]:List Keyword).length+(if ([]:List Keyword).isEmpty then 0 else 1)<30))=true
 line:(apos.endLine == cpos.line)=true
 trees:backTo cpos (starEach [e,f] X.env)=[(false,eval e X.env),(false,eval f X.env)]
section
variable {X:Cx}
def MH(hu:X.A.units+1<cLine):PN X (λx y H Q=>∃a v,x=.ref a/\zQ H a y (some v)/\Q v H):=by
 mg_lt;obtain⟨a,z,rfl,g,q⟩:=h
 cases rx
 have hT:=Bd I g;unfold subscriptTail;refine aG ?_;rw[getitemInPython_of_ne hT.not_modules];refine aG (wpAny_specialOf hT PySem.F.slot_dict_getitem.lookup ?_);have fin:wpAny (model X.prog X.w) X.A (subscripted slice false (.ref a) u) (λr s₃=>wpAny (model X.prog X.w) X.A (letTemporaryGo value (.ref a) r >>= λ_=>pure r) (EP X pins σ Q) X.xe s₃) X.xe s:=by
  rw[hs];exact wpAny_operating (G1 hu I g ry λw' s3 I3 rw'=>aG (wpAny_letTemporaryGo (aJ ⟨z,H,I3,rw',q⟩)))
 first
  | exact aJ (aG fin)
  | exact aG (aJ (aG fin))
  | exact aG fin
def GB(hu:X.A.units+1<cLine):n8 X (compareOp .NotIn) (λy x H Q=>∃a o,x=.ref a/\zQ H a y o/\Q (.bl (!o.isSome)) H):=by
 intro pins s σ H y x v u Q I ry rx h;obtain⟨a,o,rfl,g,q⟩:=h
 cases rx
 exact NJ hu I g ry λs3 I3=>⟨.bl (!o.isSome),H,I3,rfl,q⟩
def set_dict(hu:X.A.units+1<cLine):GL X (λo i v H Q=>∃a H',o=.ref a/\K1 H a i v H'/\Q H'):=by
 intro pins s σ H o i v ov iv u Q I ro ri rv h;obtain⟨a,H',rfl,g,q⟩:=h
 cases ro
 exact Hi hu I g ri rv λs4 I4=>⟨H',I4,q⟩
abbrev Q0 (tk tv:TE):TE:=λσ H Q=>∀p,H p=none->tk σ (upd H p (.dT [])) λx H1=>tv σ H1 λy H2=>H2 p=some (.dT [])/\∃b ks,x=.ref b/\H2 b=some (.tup (ks.map kV))/\Q (.ref p) (upd H2 p (.dT [(ks,y)]))
def JO{k v:aE}{tk tv:TE}(hu:X.A.units+1<cLine)(hk:PE X k tk)(hv:PE X v tv):PE X (.Dict [some k] [v] pos) (Q0 tk tv):=by
 intro pins s σ H Q I q;have hn:=I.hok.fresh (aP s.heap.objs.size);have I1:=I.laid (a:=s.heap.objs.size) (o:=.dT []) (h':=s.heap.push { cls:=.type "dict",data:=.dict #[]}) (t':=s.toks) (λ_ _ q=>aO _ q) (aP _) (L7 s.heap I.big);refine wpAny_Dict_any rfl rfl (by simp) (show 1<=15 by decide) ?_;refine pairTrees_cons_walk (kR (hk pins _ σ _ _ I1 (q _ hn)) λkv s1 ⟨x,H1,I2,rx,q1⟩=>kR (hv pins s1 σ H1 _ I2 q1) λvv s2 ⟨y,H2,I3,ry,e,b,ks,ex,eb,q2⟩=>pairTrees_nil_walk ?_);subst ex
 cases rx
 obtain⟨z,hd,xs,rel,dd⟩:=Ce I3.hok e
 cases rel
 unfold storeAll;rw[ju];refine aG (aG (wpAny_dictSet_heap (hsz:=by simp) (show X.A.units<cLine by lia) (xC I3.hok eb) dd λh' dd' hs=>aJ ?_));dsimp only;rw[jy];refine aJ ⟨.ref s.heap.objs.size,_,?_,rfl,q2⟩;obtain⟨q',es,ep,hq,h2,h3,h4,_,h5⟩:=dd';refine wm I3 (by rw[e];exact True.intro) hs ⟨q',hq⟩ ⟨by show 1<=sizeLine;decide,hd,_,(KT.put (kvs:=[]) .nil ks eb ry).keeps λc ys ec=>?_,q',es,ep,hq,h2,h3,h4,h5⟩;rw[jR (Lf ec e (λz=>nomatch z))];exact ec
end
section
variable {P:aj}{w:ah}{A:aA}{E:af->aC->Prop}{s:aC}{it d:ak}{i ep:Nat}{es:Array DictEntry}{o:Obj}{k0 v0:af}
def Nh{Q:ba->aC->Prop}(hi:IsItemIter s.heap it d i es.size ep k0 v0)(ho:s.heap.get? d=some o)(hd:o.data=.dict es ep)(lt:i<es.size)
  (q:∀h',IsItemIterOut h' it d (i+1) es.size ep es[i].key es[i].val s.heap.objs.size->h'.get? s.heap.objs.size=some { cls:=.type "tuple",data:=.seq #[es[i].key,es[i].val]}->h'.objs.size=s.heap.objs.size+1 ->
   (∀b ob,b≠it->s.heap.get? b=some ob->h'.get? b=some ob)->Q (some (.ref s.heap.objs.size)) { s with heap:=h' }) :
  wpAny (model P w) A (pyNext (.ref it)) Q E s:=by
 obtain⟨hp,gn,dr,tk,os⟩:=s;have ty:Shared.TypeIs ⟨hp,gn,dr,tk,os⟩ (.ref it) "dict_itemiterator" := ⟨_,hi,rfl⟩;have own:Builtin.Dict_items.ownsTuple "dict_itemiterator" = true:=by decide
 kpc_g;have n0:¬((i:Int)<0):=()
 unfold pyNext;refine aG (fG (cN (name:=Str.ofString "__next__") ty b_ (bT b_ ty fZ ?_ (fU _))));refine aG (aJ (aG (aG ?_)))
 first
  | refine aG (dN ty (aJ (aG (dD hi rfl ?_))))
  | refine aG (eB ty (aJ (aG (dD hi rfl ?_))))
 dsimp[own,di];show wpAny (model P w) _ (if (Value.ref d == Value.none)=true then _ else _) _ _ ⟨hp,gn,dr,tk,os⟩;rw[aM nn];cb_eq;kcj_m;o_rec;kcj_m;refine aJ ?_;dsimp[n0,bZ,cu,cQ lt];refine aG ?_
 first
  | refine aG (dN ty (aJ (aG (fm ty ?_))))
  | refine aG (eB ty (aJ (aG (fm ty ?_))))
 show wpAny (model P w) _ (setField (.ref it) 3 (rawInt ((i:Int)+1)) >>= _) _ _ _;refine aG (fq hi (show _ by simp) λh1 e1 b1=>?_);have b1:Heap.SameBut it hp h1:=b1;have e1:IsItemIter h1 it d (i+1) es.size ep k0 v0:=by
  have z:((i+1:Nat):Int)=(i:Int)+1:=()
  unfold IsItemIter;rw[z];simpa[rawInt]using e1
 have ty1:Shared.TypeIs ⟨h1,gn,dr,tk,os⟩ (.ref it) "dict_itemiterator" := ⟨_,e1,rfl⟩;refine aG (dg (aG (fm ty1 (aG (fm ty1 ?_)))))
 skip
 delta Builtin.Dict_items.pairFromOwner;refine aG (wpAny_newTuple (?_));have il:it<hp.objs.size:=aX hi;have sz1:h1.objs.size=hp.objs.size:=b1.1;obtain⟨h2,hh2⟩:∃h2,h2=h1.push { cls:=.type "tuple",data:=.seq #[es[i].key,es[i].val]}:=⟨_,rfl⟩;have e2:IsItemIter h2 it d (i+1) es.size ep k0 v0:=by rw[hh2];exact aO _ e1
 have t2:h2.get? hp.objs.size=some { cls:=.type "tuple",data:=.seq #[es[i].key,es[i].val]}:=by rw[hh2,<- sz1];exact bg _ rfl
 have sz2:h2.objs.size=hp.objs.size+1:=by rw[hh2,e_,sz1]
 have kp2:∀b ob,b≠it->hp.get? b=some ob->h2.get? b=some ob:=λb ob nb eb=>by rw[hh2];exact aO _ (b1.extBut b ob nb eb)
 skip
 rw[<- hh2,sz1];refine aG ?_;delta Builtin.Dict_items.ownedTupleIsFree;refine aG (dZ e2 rfl (x:=.none) rfl (aJ ?_));dsimp[di];refine aG (dZ e2 rfl (x:=k0) rfl (aG (dZ e2 rfl (x:=v0) rfl ?_)));refine aG (fq e2 (show _ by simp) λh3 e3 b3=>?_);have b3:Heap.SameBut it h2 h3:=b3;have e3:IsItemIter h3 it d (i+1) es.size ep es[i].key v0:=e3;refine aG (fq e3 (show _ by simp) λh4 e4 b4=>?_);have b4:Heap.SameBut it h3 h4:=b4;have e4:IsItemIter h4 it d (i+1) es.size ep es[i].key es[i].val:=e4;refine aG (fq e4 (show _ by simp) λh5 e5 b5=>?_);have b5:Heap.SameBut it h4 h5:=b5;have e5:IsItemIterOut h5 it d (i+1) es.size ep es[i].key es[i].val hp.objs.size:=e5;refine aG (fq e5 (show _ by simp) λh6 e6 b6=>?_);have b6:Heap.SameBut it h5 h6:=b6;have e6:IsItemIterOut h6 it d (i+1) es.size ep es[i].key es[i].val hp.objs.size:=e6;have kp6:∀b ob,b≠it->h2.get? b=some ob->h6.get? b=some ob:=λb ob nb eb=>b6.extBut b ob nb (b5.extBut b ob nb (b4.extBut b ob nb (b3.extBut b ob nb eb)));refine aG (wpAny_letGo (aJ (aJ ⟨_,rfl,aJ (q h6 e6 (kp6 _ _ (ne_of_gt il) t2) ?_ λb ob nb eb=>kp6 b ob nb (kp2 b ob nb eb))⟩)))
 skip
 rw[b6.1,b5.1,b4.1,b3.1,sz2]
def Qj{Q:ba->aC->Prop}(hh:A.handled=none)(hi:IsItemIter s.heap it d i es.size ep k0 v0)(ho:s.heap.get? d=some o)(hd:o.data=.dict es ep)(ge:es.size<=i)
  (q:∀h',Heap.ExtBut it s.heap h'->Q none { s with heap:=h' }):wpAny (model P w) A (pyNext (.ref it)) Q E s:=by
 have ty:s.TypeIs (.ref it) "dict_itemiterator" := ⟨_,hi,rfl⟩;have own:Builtin.Dict_items.ownsTuple "dict_itemiterator" = true:=by decide
 kpc_g;have n0:¬((i:Int)<0):=()
 unfold pyNext;refine aG (fG (cN (name:=Str.ofString "__next__") ty b_ (bT b_ ty fZ ?_ (fU _))));refine aG (aJ (aG (aG ?_)))
 first
  | refine aG (dN ty (aJ (aG (dD hi rfl ?_))))
  | refine aG (eB ty (aJ (aG (dD hi rfl ?_))))
 dsimp[own,di];show wpAny (model P w) _ (if (Value.ref d == Value.none)=true then _ else _) _ _ s;rw[aM nn];cb_eq;kcj_m;o_rec;kcj_m;refine aJ ?_;dsimp[n0,bZ,cu,dF ge];refine aG ?_
 first
  | refine aG (dN ty (aJ ?_))
  | refine aG (eB ty (aJ ?_))
 show wpAny (model P w) _ (setField (.ref it) 2 .none >>= _) _ _ s;refine aG (gH hi rfl (show _ by simp) ?_)
 skip
 refine aG ?_;dsimp[newExc,newTuple];refine aG (bC (aG (m:=firstArgMember _ _) (wpAny_of_eq (a:=Value.none) (by first|rfl|(dsimp[firstArgMember];rfl)) (bC ?_ (by size_fits)))) (by size_fits));dsimp[raiseNew];have hn:A.in1.handled=none:=hh;refine aG (wpAny_handled (?_));rw[hn];refine aG (aJ (wpAny_throw (?_)));kj_on
end
def MC:entryFor table "dict_itemiterator.__iter__" = some Builtin.«dict_keyiterator.__iter__»:=entryFor_alias (by kernel_rfl) rfl (id' := "dict_keyiterator.__iter__") ∅ (by kernel_rfl)
abbrev Vx (d:ak)(o:Obj)(u:HO)(ps:List (ak×V)):It:=
 ⟨λi H=>∃a v,ps[i]?=some (a,v)/\H d=some (.frz o u),λi H x H'=>∃T,H T=none/\x=.ref T/\∀a v,ps[i]?=some (a,v)->H'=upd H T (.tup [.ref a,v]),λi H=>i=ps.length/\H d=some (.frz o u)⟩
def CY{P:aj}{w:ah}{K:au}(d it:ak){o:Obj}{es:Array DictEntry}{ps:List (ak×V)}(hd:o.data=.dict es ep)(hl:ps.length=es.size)
  (hp:∀i a v,ps[i]?=some (a,v)->∀h:i<es.size,es[i].key=.ref a/\RelV v es[i].val):Turn P w K (.Tuple elts x1 tpos) (Vx d o u ps) [it] it (λi h=>∃k0 v0,IsItemIter h it d i es.size ep k0 v0) where
 mem:=by simp
 obj:=λi h st b hb=>by
  obtain⟨k0,v0,st⟩:=st;have:b=it:=by simpa using hb
  subst this;exact⟨_,st,λv z=>by cases z⟩
 keep:=λi h h' ⟨k0,v0,st⟩ k=>⟨k0,v0,k it (by simp) _ st⟩
 item:=by
  k_ne;subst hP hw hK;obtain⟨k0,v0,st⟩:=st;obtain⟨a,v,hx,hq⟩:=hg;have ho:s.heap.get? d=some o:=(show kP _ _ H s.heap d (.frz o u)from I.hok d _ hq).1;have lt:i<es.size:=by rw[<- hl];exact(aK.mp hx).1
  obtain⟨ek,rv⟩:=hp i a v hx lt;refine Nh st ho hd lt λh' hout hT hsz hk=>⟨_,rfl,wpAny_letOwnedTupleGo_items hout λh2 he2 hs2=>?_⟩;have fT:H s.heap.objs.size=none:=I.hok.fresh (aP _);have hil:it<s.heap.objs.size:=aX st;have k2:∀b ob,b≠it->s.heap.get? b=some ob->h2.get? b=some ob:=λb ob h1 qb=>hs2.extBut b ob h1 (hk b ob h1 qb);have hT2:h2.get? s.heap.objs.size=some { cls:=.type "tuple",data:=.seq #[es[i].key,es[i].val]}:=hs2.extBut _ _ (ne_of_gt hil) hT;obtain⟨i0,i1,i2,i3,i4,i5⟩:=hf it (by simp);have nT:∀b ob,s.heap.get? b=some ob->b≠s.heap.objs.size:=λb ob qb=>bD (aX qb);have ne_tr:∀c y,H c=some y->c≠it:=λc y qc z=>by rw[z,i0]at qc;cases qc
  have I2:Inv X pins σ (upd H s.heap.objs.size (.tup [.ref a,v])) { s with heap:=h2 }:=by
   refine I.step (g':=s.gens) (d':=s.drawn) (ch:=[it]) (λb hb=>?_) (λb ob _ _ hch qb _=>?_) (λb ob _ _ hch qb _=>?_) (λb ob hch qb n=>?_) (λb ob hch qb=>?_) (λb ys qb=>?_) (λb ob u' qb=>?_) (λb ps' qb=>?_) (λm hm=>?_) (λb u' qb=>?_) I.bare
   ·have:b=it:=by simpa using hb
    subst this;exact⟨i3,i1,i4,i5⟩
   ·exact k2 b ob (λz=>hch (by simp[z])) qb
   ·exact⟨ob.slots,k2 b ob (λz=>hch (by simp[z])) qb⟩
   ·rw[jR (nT b ob qb)];exact n
   ·exact⟨ob,k2 b ob (λz=>hch (by simp[z])) qb⟩
   ·rw[jR (j3 qb fT)];exact qb
   ·rw[jR (j3 qb fT)];exact qb
   ·exact⟨#[],by rw[jR (j3 qb fT),qb];simp⟩
   ·obtain⟨ob,es',ep',hob,r⟩:=hm;exact⟨ob,es',ep',k2 _ ob (gp i1) hob,r⟩
   ·by_cases z:b=s.heap.objs.size
    ·subst z;rw[kq]at qb
     cases qb
     exact⟨by show 2<=sizeLine;decide,[es[i].key,es[i].val],.cons ek (.cons rv .nil),⟨_,hT2,rfl,rfl,0,rfl⟩⟩
    ·rw[jR z]at qb;refine(I.hok b u' qb).stay (λc y hc q'=>k2 c y ?_ q') (λc q'=>?_) λc ys q'=>?_
     ·rcases hc with z|z
      ·rw[z];exact ne_tr b u' qb
      ·exact ne_tr c _ z
     ·rw[jR (j3 q' fT)];exact q'
     ·rw[jR (j3 q' fT)];exact q'
  refine⟨.ref s.heap.objs.size,_,I2,rfl,⟨s.heap.objs.size,fT,rfl,λa' v' hy=>?_⟩,⟨_,_,he2⟩,λb hb=>?_⟩
  ·rw[hx]at hy
   cases hy
   rfl
  ·have:b=it:=by simpa using hb
   subst this;rw[jR (bD hil)];exact i0
 done:=by
  k_ne;subst hP hw hK;obtain⟨k0,v0,st⟩:=st;obtain⟨hi,hq⟩:=hg;have ho:s.heap.get? d=some o:=(show kP _ _ H s.heap d (.frz o u)from I.hok d _ hq).1;refine Qj (I.ok.hd hc) st ho hd (by rw[<- hl];lia) λh' hx=>⟨rfl,?_⟩;obtain⟨i0,i1,i2,i3,i4,i5⟩:=hf it (by simp);exact I.turned (t':=s.toks) (λb ob hb qb=>hx b ob hb qb) i0 i1 i3 i4 i5
 self:=by
  intro A i s Q E st q;obtain⟨k0,v0,st⟩:=st;have ty:s.TypeIs (.ref it) "dict_itemiterator" := ⟨_,st,rfl⟩;exact gI ty gb (bT gb ty MC (aJ ⟨_,rfl, "dict_itemiterator",_,ty,b_.lookup,q⟩) (PySem.F.args_dict_itemiterator_iter_1 _))
section
variable {X:Cx}
def BV{A:aA}{E:af->aC->Prop}{s:aC}{Q:af->aC->Prop}(ty:s.TypeIs (.ref d) "dict")(hd:(d == sysModules)=false)
  (q:Q (.ref s.heap.objs.size) { s with heap:=s.heap.push { cls:=.type "dict_items",data:=.fields #[.ref d]}}):wpAny (model X.prog X.w) A (call (.builtin "dict.items") [.ref d]) Q E s:=by
 refine bT PySem.F.slot_dict_items ty PySem.F.entry_dict_items ?_ (PySem.F.args_dict_items_1 _);delta Builtin.«dict.items»;refine aG ?_;delta Builtin.Dict.noArgs;refine aG (gX ty ?_)
 skip
 refine aJ ?_
 skip
 delta Builtin.Dict.showsAll;have nd:¬((d == sysModules)=true):=by rw[hd];exact aY
 rw[aM nd];exact aG (aJ (aG (bC (aJ ⟨_,rfl,q⟩))))
def B0{A:aA}{E:af->aC->Prop}{s:aC}{v:ak}{o:Obj}{es:Array DictEntry}{Q:af->aC->Prop}(hv:s.heap.IsItemsView v d)(ho:s.heap.get? d=some o)(hd:o.data=.dict es ep)
  (q:Q (.ref s.heap.objs.size) { s with heap:=s.heap.push { cls:=.type "dict_itemiterator",data:=.fields #[.none,.bool false,.ref d,.int 0 0,.int es.size 0,.int ep 0,.none,.none]}}) :
  wpAny (model X.prog X.w) A (pyIter (.ref v)) Q E s:=by
 obtain⟨ov,hov,hcv,hdv⟩:=id hv;have own:Builtin.Dict_items.ownsTuple "dict_itemiterator" = true:=by decide
 refine gI hv.typeIs iH (bT iH hv.typeIs PySem.F.entry_dict_items_iter ?_ (PySem.F.args_dict_items_iter_1 _));delta Builtin.«dict_items.__iter__»;refine aG (aJ (aG ?_));delta Builtin.Dict_items.dictOf;refine aG (dZ hov hdv (x:=.ref d) rfl (aJ (aG ?_)));delta Builtin.Dict_items.newIterator;refine aG (c9 ho hd (aG (dH ho hd ?_)));dsimp[own,di];refine bC (aJ ⟨_,rfl, "dict_itemiterator",_,⟨_,bg _ rfl,rfl⟩,b_.lookup,?_⟩) (by dsimp[sizeOk,Builtin.Dict_items.ownedTupleFields,aS,aU,bE,fD,c5];lia);simpa[rawInt,Builtin.Dict_items.ownedTupleFields]using q
end
section
variable {X:Cx}
theorem kt_at{H:Hp}:∀{kvs:List (List Key×V)}{xs:List (List Key×ak×af)},KT H kvs xs->kvs.length=xs.length/\∀(i:Nat) (p:List Key×V),kvs[i]?=some p->∃y:List Key×ak×af,xs[i]?=some y/\p.1=y.1/\H y.2.1=some (.tup (p.1.map kV))/\RelV p.2 y.2.2
 | [],[],_=>⟨rfl,λi p h=>by simp at h⟩
 | [],_::_,r=>nomatch r
 | _::_,[],r=>nomatch r
 | a::kvs,b::xs,.cons z r=>by
  obtain⟨l,q⟩:=kt_at r;refine⟨by simp[l],λi p h=>?_⟩
  cases i with
  | zero=>
   have:a=p:=by simpa using h
   subst this;exact⟨b,rfl,z⟩
  | succ i=>exact q i p (by simpa using h)
abbrev Qg (to:TE):TI:=λσ H R=>to σ H λx H1=>∃d kvs,x=.ref d/\H1 d=some (.dT kvs)/\∀(o:Obj) (ps:List (ak×V)),ps.length=kvs.length->(∀(i:Nat) a v,ps[i]?=some (a,v)->∃ks:List Key,kvs[i]?=some (ks,v)/\H1 a=some (.tup (ks.map kV)))->R (Vx d o (.dT kvs) ps) (upd H1 d (.frz o (.dT kvs)))
def Ly{apos cpos:Pos}{e:aE}{to:TE}(he:PE X e to)(hbase:attributeBase e "items" X.env (eval e X.env)=eval e X.env:=by rfl)(hline:(apos.endLine == cpos.line)=true:=by rfl) :
  PI X (.Tuple elts x1 tpos) (.Call (.Attribute e "items" apos) [] [] cpos) (Qg to):=by
 intro pins s σ H R I h;refine gC hbase hline (kR (he pins s σ H _ I h) λv s1 ⟨x,H1,I1,r1,d,kvs,ex,ed,q1⟩=>?_);subst ex
 cases r1
 obtain⟨z,hd,xs,rel,dd⟩:=Ce I1.hok ed;have ty:=dd.typeIs (s:=s1);obtain⟨ob,es,ep,g1,g2,g3,g4,g5,g6⟩:=id dd;obtain⟨kl,kt⟩:=kt_at rel;refine⟨"dict", "dict.items",PySem.F.plainAttrs_dict,PySem.F.slot_dict_items,PySem.F.type_dict_items,ty,λa ea=>?_,dB rfl (iP (BV ty hd ?_))⟩
 ·cases ea
  exact⟨ob,g1,g2.2.1⟩
 have g1':(s1.heap.push { cls:=.type "dict_items",data:=.fields #[.ref d]}).get? d=some ob:=aO _ g1;refine B0 (o:=ob) (es:=es) (ep:=ep) ⟨_,bg _ rfl,rfl,rfl⟩ g1' g3 ?_;have I2:Inv X pins σ H1 { s1 with heap:=(s1.heap.push { cls:=.type "dict_items",data:=.fields #[.ref d]}).push { cls:=.type "dict_itemiterator",data:=.fields #[.none,.bool false,.ref d,.int 0 0,.int es.size 0,.int ep 0,.none,.none]}}:=
  I1.kept (t':=s1.toks) λb o eb=>aO _ (aO _ eb)
 have hnd:∀b ys,H1 b=some (.tup ys)->upd H1 d (.frz ob (.dT kvs)) b=some (.tup ys):=λb ys eb=>by
  rw[jR (Lf eb ed (λz=>nomatch z))];exact eb
 have I3:Inv X pins σ (upd H1 d (.frz ob (.dT kvs))) _:=wm (t':=s1.toks) (ob:=.frz ob (.dT kvs)) I2 (by rw[ed];exact True.intro) ⟨rfl,λ_ _=>rfl⟩ ⟨ob,aO _ g1'⟩ ⟨aO _ g1',z,hd,xs,rel.keeps hnd,ob,es,ep,aO _ g1',g2,g3,g4,g6⟩;have hes:es.size=xs.length:=by have:=dJ List.length g4;simpa using this
 obtain⟨ps,hps⟩:∃ps:List (ak×V),ps=(List.range kvs.length).map λi=>((xs.getD i ([],0,.none)).2.1,(kvs.getD i ([],.non)).2):=⟨_,rfl⟩;have pl:ps.length=kvs.length:=by rw[hps];simp
 have pat:∀(i:Nat) a v,ps[i]?=some (a,v)->∃(ks:List Key) (y:List Key×ak×af),kvs[i]?=some (ks,v)/\xs[i]?=some y/\y.2.1=a/\H1 a=some (.tup (ks.map kV))/\RelV v y.2.2:=λi a v e=>by
  have hi:i<kvs.length:=by rw[<- pl];exact(aK.mp e).1
  obtain⟨y,h1,h2,h3,h4⟩:=kt i kvs[i] (aH hi);rw[hps,aQ,b7 hi]at e;have e':((xs.getD i ([],0,.none)).2.1,(kvs.getD i ([],.non)).2)=(a,v):=aW e;rw[aI,aI,h1,aH hi]at e';have ea:y.2.1=a:=dJ Prod.fst e';have ev:kvs[i].2=v:=dJ Prod.snd e';exact⟨kvs[i].1,y,by rw[aH hi,<- ev],h1,ea,by rw[<- ea];exact h3,by rw[<- ev];exact h4⟩
 refine⟨(s1.heap.push { cls:=.type "dict_items",data:=.fields #[.ref d]}).objs.size,[(s1.heap.push { cls:=.type "dict_items",data:=.fields #[.ref d]}).objs.size],_,Vx d ob (.dT kvs) ps,_,rfl,I3,CY d _ g3 (by rw[pl,kl,hes]) (λi a v e hlt=>?_),⟨.none,.none,bg _ rfl⟩,λb hb=>?_,q1 ob ps pl λi a v e=>?_⟩
 ·obtain⟨ks,y,h1,h2,h3,h4,h5⟩:=pat i a v e;have:es.toList[i]?=some (entryOfKey (tupleKind (kZ X.prog X.w)) y):=by rw[g4,aQ,h2];rfl
  have e2:es[i]=entryOfKey (tupleKind (kZ X.prog X.w)) y:=by
   rw[cZ,cQ hlt]at this;exact aW this
  rw[e2,<- h3];exact⟨rfl,h5⟩
 ·have eb:b=(s1.heap.push { cls:=.type "dict_items",data:=.fields #[.ref d]}).objs.size:=by simpa using hb
  have le:s1.heap.objs.size<=b:=by rw[eb,e_];exact Nat.le_succ _
  refine I1.GF le ?_;have nd:b≠d:=λw=>absurd (aX g1) (by rw[<- w];exact Nat.not_lt.mpr le);rw[jR nd];exact I1.hok.fresh le
 ·obtain⟨ks,y,h1,_,_,h4,_⟩:=pat i a v e;exact⟨ks,h1,h4⟩
end
abbrev C0 (e:ak)(h:aq):Prop:=∃o vs,h.get? e=some o/\o.data=.fields vs/\vs[2]?=some .none/\o.dict=none
structure Fly (l:List Env)(g:aq)(pn:bj)(H:Hp)(e:ak)(cls:af)(h:aq):Prop where
 ex:∃(B:aq) (a0:af),Heap.FlyingW B l e cls a0 h/\(∀a u,H a=some u->∃o,B.get? a=some o)/\(∀b o,g.get? b=some o->b∉frs l->∃o',B.get? b=some o')/\(∀p∈pn,∃o',B.get? p.1=some o')/\C0 e h
structure Made (X:Cx)(H:Hp)(e:ak)(cls:af)(g:aq)(h:aq):Prop where
 ex:∃(g':aq) (vs:ap),Heap.MadeExcOf g' h e cls vs/\g'.FunFrames X.base X.stack/\(∀a u,H a=some u->∃o,g'.get? a=some o)/\(∀b o,g.get? b=some o->∃o',g'.get? b=some o')/\(∀p∈X.pn,∃o',g'.get? p.1=some o')
abbrev PF (X:Cx)(H:Hp)(e:ak)(cls:af)(s':aC):Prop:=Made X H e cls X.s₀.heap s'.heap\/Fly X.stack X.s₀.heap X.pn H e cls s'.heap
section
abbrev EX (X:Cx):XK:=λcls _ H'=>X.ex=[]/\∀pins σ' s' e,Inv X pins σ' H' s'->PF X H' e cls s'->X.xe (.ref e) s'
end
inductive FParts (X:Cx):List aE->List (Str ⊕ TE)->Prop
 | nil:FParts X [] []
 | txt {x:Str} {j pos} {es:List aE} {ps:List (Str ⊕ TE)} (h:FParts X es ps):FParts X (.Constant (.str x) j pos::es) (.inl x::ps)
 | val {e:aE} {pos:Pos} {t:TE} {es:List aE} {ps:List (Str ⊕ TE)} (he:PE X e t) (h:FParts X es ps):FParts X (.FormattedValue e (-1) none pos::es) (.inr t::ps)
abbrev xu:HO:=.ext λ_=>True
structure XO (C:ak)(o:Obj):Prop where
 cls:o.cls=.ref C
 dict:o.dict=none
 ctx:∃vs,o.data=.fields vs/\vs[2]?=some .none
structure Fr0 (X:Cx)(e:ak):Prop where
 no:∀o,X.s₀.heap.get? e≠some o
 tup:∀xs,X.H₀ e≠some (.tup xs)
 frz:∀o u,X.H₀ e≠some (.frz o u)
 tbl:∀ps,X.H₀ e≠some (.tbl ps)
abbrev mroIn (K:au)(C:ak):Option (ap):=match K.lookup C with
 | some ⟨.type "type",_,.cls cd,sl⟩=>(match cd.mro,sl.toList with
  | .ref C'::bm,[_,_,_,_,some (.builtin _),_]=>if C'=C/\cd.hasDel=false then some bm else none
  | _,_=>none)
 | _=>none
structure ClsAt (h:aq)(C:ak)(bm:ap):Prop where
 ex:∃nm q N bs hdct sn sub ab col dd k0 k1 k2 k3 k5 newId,h.get? C=some (excClassObj nm q C N bs bm hdct sn sub ab col dd k0 k1 k2 k3 k5 newId)
open PySem.W in
structure XCls (K:au)(C:ak):Prop where
 ga:findIn K (.ref C) "__getattribute__" = some (some (.builtin "BaseException.__getattribute__"))
 gt:findIn K (.ref C) "__getattr__" = some none
 fc:findObj K C none "__class__" = some (.bind (.builtin "getset_descriptor.__get__") (.builtin "object.__class__"))
 ob:PySem.W.mroIn K C (.type "object")=some true
 bs:subIn K (.ref C) (.type "BaseException")=some true
abbrev Ru (A:aA):aA:={ A with handled:=none }
abbrev Sw (k:Nat)(A:aA):Prop:=Room k (Ru A)
structure Hnd (A:aA)(H:Hp)(e:ak)(oe:Obj)(C:ak):Prop where
 hh:A.handled=some (.ref e)
 h0:H e=some (.frz oe xu)
 xo:XO C oe
structure FnOkH (P:aj)(w:ah)(K:au)(mg:Str->ba)(base:aq)(k:Nat)(f:ak)(fd:FuncData)(ps:am)(sp:Sp):Prop where
 len:∀vs H Q E,sp vs H Q E->vs.length=ps.length
 run:∀(A:aA) (outer:List Env) (s:aC) (H:Hp) (args:Args) (us:ap) (vs:List V) (Q:VK) (e:ak) (oe:Obj) (C:ak),Sw k A->Hnd A H e oe C->Env0 P w K mg base A outer s H->BindsTo s fd args (ps.zip us)->Vals vs us->sp vs H Q E0 ->
  codeAny (model P w) A (.call (.ref f) args) (CR qy outer P w H s Q E0) s
end L2
namespace L2
open PySem PySem.Spec PyProof.Rows PySem.SeqAt
def wQ{prog:aj}{w:ah}{A:aA}{E:af->aC->Prop}{β:Type}{f:Nat->β->Sem (ForInStep β)}(I:Nat->β->aC->Prop)(Q:β->aC->Prop)
  (turn:∀i c s,i<b->I i c s->wpAny (model prog w) A (f i c) (λr s'=>match r with | .done c'=>Q c' s' | .yield c'=>I (i+1) c' s') E s)
  (fin:∀c s,I b c s->Q c s) {c:β} {s:aC} (h:I 0 c s):wpAny (model prog w) A (forIn [0:b] c f) Q E s:=by
 rw[Std.Legacy.Range.forIn_eq_forIn_range'];dsimp[Std.Legacy.Range.size,jm,Nat.add_sub_cancel,Nat.div_one];refine wpAny_forIn_list f (λl c s=>∃i,i<=b/\l=List.range' i (b-i) 1/\I i c s) Q ?_ ?_ _ _ ⟨0,cY _,rfl,h⟩
 ·rintro x rest c s ⟨i,hib,hl,hI⟩;have hlt:i<b:=by
   rcases iT i b with h'|h'
   ·exact h'
   ·rw[show b-i=0 by lia]at hl;simp at hl
  obtain⟨n,hn⟩:∃n,b-i=n+1:=⟨b-i-1,()⟩;rw[hn,d9]at hl;obtain⟨rfl,rfl⟩:=List.cons.inj hl;refine fh (turn x c s hlt hI) (λr s' h'=>?_) λ_ _ q=>q
  cases r with
  | done c'=>exact h'
  | yield c'=>exact⟨x+1,hlt,by congr 1;lia,h'⟩
 ·rintro c s ⟨i,hib,hl,hI⟩;have:b-i=0:=by
   rcases Nat.eq_zero_or_pos (b-i)with z|z
   ·exact z
   ·obtain⟨n,hn⟩:∃n,b-i=n+1:=⟨b-i-1,()⟩;rw[hn,d9]at hl;cases hl
  have:i=b:=()
  subst this;exact fin c s hI
def yC(l:ak)(items:Array af)(n:Nat)(dd:Option ak)(sl:Array (ba))(x:af)(e:af->Bool)(j:Nat)(hj:j<items.size)(hit:e items[j]=true)(hno:∀m (hm:m<items.size),m<j->e items[m]=false) :
  Meets (Builtin.«tuple.index» ⟨[.ref l,x],[]⟩)
   (λA R s=>s.heap.get? l=some { cls:=.type "tuple",dict:=dd,data:=.seq items n,slots:=sl }/\(∀y,y∈items->EqAt A.in1 s y x (e y))/\R (.ok (.ret (.int j s.toks))) { s with toks:=s.toks+1 }):=
 .of_wp λprog w A R s h=>by
  obtain⟨hp,g,d,tk,os⟩:=s;obtain⟨hl,he,h⟩:=h
  wp_walk using wpAny_loadPart' hl,wQ (λi b s'=>b.1=none/\s'=⟨hp,g,d,tk,os⟩/\i<=j) _
  case turn=>
   rintro i b s' hi ⟨hb,rfl,hij⟩;have hi':i<items.size:=()
   rw[cQ hi'];refine aG (he _ (Array.getElem_mem hi') prog w _ _ ?_)
   rcases iT i j with q|q
   ·rw[hno i hi' q]
    wp_walk
    exact⟨rfl,rfl,q⟩
   ·have:i=j:=()
    subst this;rw[hit]
    wp_walk
    exact⟨_,rfl,h⟩
  case fin=>
   rintro⟨b1,b2⟩ s' ⟨hb,rfl,hij⟩
   lia
  case h=>exact⟨rfl,rfl,cY _⟩
abbrev O8 (K:au)(tup:Bool):V->List V->Hp->VK->Prop:=λx vs H Q=>∃(p:ak) (y:V) (xs:List V) (k:Nat) (z:V),x=.ref p/\vs=[y]/\(if tup=true then m9 K H p xs else nB K H p xs)/\qG y=true/\xs.all qG=true/\xs[k]?=some z/\Dm z y=true/\(∀(m:Nat) (z':V),m<k->xs[m]?=some z'->Dm z' y=false)/\Q (.int k) H
section
variable {X:Cx}
def LK{xs:List V}{its:ap}{k:Nat}(r:Vals xs its)(f:xs.all qG=true)(hk:xs[k]?=some z)(hz:Dm z y=true)(hno:∀m z',m<k->xs[m]?=some z'->Dm z' y=false) :
  ∃hj:k<its.toArray.size,Sf y its.toArray[k]=true/\∀m (hm:m<its.toArray.size),m<k->Sf y its.toArray[m]=false:=by
 have fl:∀m z',xs[m]?=some z'->qG z'=true:=λm z' h=>ig.mp f z' (aZ h);obtain⟨u,hu,ru⟩:=r.get hk;obtain⟨hj,e⟩:=aK.mp hu;refine⟨by simpa using hj,?_,λm hm hmk=>?_⟩
 ·rw[List.getElem_toArray,e,Du ru (fl k z hk)];exact hz
 ·have hm':m<xs.length:=by have:=(aK.mp hk).1;lia
  obtain⟨u',hu',ru'⟩:=r.get (aH hm');obtain⟨_,e'⟩:=aK.mp hu';rw[List.getElem_toArray,e',Du ru' (fl m _ (aH hm'))];exact hno m _ hmk (aH hm')
def M3:II X "tuple.index" (O8 X.K true):=by
 intro pins s σ H x vs v us Q I rx rv ⟨p,y,xs,k,z,hx,hvs,hq,fy,fs,hk,hz,hno,q⟩;subst hx hvs
 cases rx
 obtain⟨u,rfl,ru⟩:=rv.one;obtain⟨its,r,pl,hsz⟩:=I.tuple hq;obtain⟨hj,h1,h2⟩:=LK r fs hk hz hno;obtain⟨⟨cls,dd,data,sl⟩,ho,hc,n,hd⟩:=id pl;simp only at hc hd;subst hc hd;exact fM F.slot_tuple_index ⟨_,ho,rfl⟩ F.entry_tuple_index (F.args_tuple_index_2 _ _) (yC p its.toArray n dd sl u (Sf y) k hj h1 h2) ⟨ho,λw hw=>xB ru fy r fs w (by simpa using hw),.int k,H,I.tok _,⟨_,rfl⟩,q⟩
def Mx:II X "list.index" (O8 X.K false):=by
 intro pins s σ H x vs v us Q I rx rv ⟨p,y,xs,k,z,hx,hvs,hq,fy,fs,hk,hz,hno,q⟩;subst hx hvs
 cases rx
 obtain⟨u,rfl,ru⟩:=rv.one;obtain⟨its,r,pl,hsz⟩:=I.list hq;obtain⟨hj,h1,h2⟩:=LK r fs hk hz hno;obtain⟨⟨cls,dd,data,sl⟩,ho,hc,n,hd⟩:=id pl.isList;simp only at hc hd;subst hc hd;have:=q_;have hz':k<xs.length:=(aK.mp hk).1;exact fM F.slot_list_index ⟨_,ho,rfl⟩ F.entry_list_index (F.args_list_index_2 _ _) (SeqAt.list_indexAt p its.toArray n dd sl u (Sf y) k hj () h1 h2) ⟨ho,λw hw=>xB ru fy r fs w (by simpa using hw),.int k,H,I.tok _,⟨_,rfl⟩,q⟩
abbrev VD (K:au)(to:TE)(t:TA):TE:=λσ H Q=>to σ H λx H1=>∃(b:Bool) (p:ak) (xs:List V),x=.ref p/\(if b=true then m9 K H1 p xs else nB K H1 p xs)/\t σ H1 λvs H2=>O8 K b x vs H2 Q
def Rg{e:aE}{to:TE}{t:TA}{apos cpos:Pos}(ho:PE X o to)(ha:PA X (e::es) t)
  (hbase:attributeBase o "index" X.env (eval o X.env)=eval o X.env:=by rfl)
  (hfew:((backTo cpos (starEach (e::es) X.env)).all (λx=>!x.1) && (backToKw cpos (keywordEach [] X.env)).all (λx=>x.1.isSome)
   && decide ((e::es).length+([]:List Keyword).length+(if ([]:List Keyword).isEmpty then 0 else 1)<30))=true:=by rfl)
  (hline:(apos.endLine == cpos.line)=true:=by rfl) (hs:starEach (e::es) X.env=(false,eval e X.env)::starEach es X.env:=by rfl) (hplain:(backTo cpos (starEach es X.env)).any (·.1)=false:=by rfl) :
  PE X (.Call (.Attribute o "index" apos) (e::es) [] cpos) (VD X.K to t):=by
 x_go;refine wpAny_Call_method_late hbase hfew hline rfl (kR (ho pins s σ H _ I h) λv s1 ⟨x,H1,I1,r1,b,p,xs,hx,hq,q1⟩=>?_);subst hx
 cases r1
 cases b with
 | true=>
  obtain⟨ob,g1,g2,g3⟩:=I1.RO hq;refine⟨"tuple", "tuple.index",PySem.F.plainAttrs_tuple,PySem.F.slot_tuple_index,PySem.F.type_tuple_index,⟨ob,g1,g2⟩,λa e=>by cases e;exact⟨ob,g1,g3⟩,?_⟩;have hA:=ha cpos pins s1 σ H1 _ I1 q1;rw[hs]at hA ⊢;refine dB (by show(false || (backTo cpos (starEach es X.env)).any (·.1))=false;rw[hplain]<;>rfl) (iB ?_);exact kR hA λus s2 ⟨vs,H2,I2,r2,q2⟩=>M3 pins s2 σ H2 (.ref p) vs _ us Q I2 rfl r2 q2
 | false=>
  obtain⟨its,r,⟨ob,n,g1,g2,g3,g4⟩,hz⟩:=I1.list hq;refine⟨"list", "list.index",gD,PySem.F.slot_list_index,PySem.F.type_list_index,⟨ob,g1,g2⟩,λa e=>by cases e;exact⟨ob,g1,g3⟩,?_⟩;have hA:=ha cpos pins s1 σ H1 _ I1 q1;rw[hs]at hA ⊢;refine dB (by show(false || (backTo cpos (starEach es X.env)).any (·.1))=false;rw[hplain]<;>rfl) (iB ?_);exact kR hA λus s2 ⟨vs,H2,I2,r2,q2⟩=>Mx pins s2 σ H2 (.ref p) vs _ us Q I2 rfl r2 q2
end
end L2
namespace L2
open PySem PySem.Spec PyProof.Rows
def Il{X:Cx}{i:Nat}{spos:Pos}{iter:aE}{N:am}{wi:TI}{g:TG}{tc:TT}{te:TE}
  (hN:X.N.Nodup) (hi':X.N[i]?=some y) (hx:Loc X.env.scope y) (hc:X.calm=true) (S:CpScope X scope N cap) (hi:PI X tg iter wi)
  (hg:∀C s₀ H₀ ex,PG (kO X scope N C s₀ H₀ ex) tg g) (ht:∀C s₀ H₀ ex,Mb (kO X scope N C s₀ H₀ ex) ifs tc) (he:∀C s₀ H₀ ex,PE (kO X scope N C s₀ H₀ ex) elt te)
  (hsw:swapsWith (.ListComp elt [⟨tg,iter,ifs,0⟩] scope pos) (some (.Name y py)) spos.line X.env=pure true)
  (hf:X.fn y=true\/X.env.scope.names.lookup y=some .local) (hs:∀x,foldedSetIterable iter X.env x=pure x:=by intro _;rfl) :
  PS X (.Assign [.Name y py] (.ListComp elt [⟨tg,iter,ifs,0⟩] scope pos) spos) (MB (SG cap wi g tc te) (J3 i)):=by
 ksr_p;rw[exec_Assign_Name_used _ _ _ _ hsw];refine aG (eL (aG ?_))
 skip
 refine aG (fh (FA (ok:=λY=>Y.calm=true) (Q':=λ_ s'=>SP X pins D .next s') S (λ_ _ _ _ _=>hc) (PI.g hi) hg ht he hs pins s σ H _ I h ?_) (λ_ s' hq=>aJ (aJ hq)) λ_ _ e=>e);intro s6 C Dd H5 m hn fk inv q v;have Ia:=inv s6.heap (Heap.SameBut.refl _ _);obtain⟨oC,hoC⟩:∃o,s6.heap.get? C=some o/\∀v,o.data≠.cell v:=by
  obtain⟨o,es,ep,e,d,_⟩:=hn;exact⟨o,e,λv z=>by rw[d]at z;cases z⟩
 have Ip:=Ia.pinned (fp:=[C]) (λb hb=>by rw[bh]at hb;rw[hb];exact fk) (λb hb=>by rw[bh]at hb;rw[hb];exact⟨oC,hoC⟩)
 skip
 refine kR (FD hN hi' hx hf _ s6 σ H5 (.ref Dd) (.ref Dd) _ Ip rfl q) λ_ s7 h9=>?_;obtain⟨σ7,H7,I7,q7⟩:=h9;have hp:=I7.pin (C,oC) (a_ _ (a_ _ (lC (bh.mpr rfl) hoC.1)));refine⟨m,hn.at' λo e=>by rw[hoC.1]at e;cases e;exact hp.1,λh' sb=>?_⟩;have nC:∀c v,H7 c=some v->c≠C:=λc v e z=>by rw[z,hp.2.1]at e;cases e
 refine⟨σ7,H7,?_,q7⟩;refine I7.oJ.Jf (ch:=[C]) rfl ⟨λb o e n hb hx=>?_,λb o e n hb hx=>?_,λb o e n hx=>n,λb o e hx=>?_,λ_ _ e=>e,λ_ _ _ e=>e,λ_ _ e=>⟨#[],by rw[Array.append_empty];exact e⟩⟩ ?_ I7.bare ?_
 ·exact sb.extBut b o (by simpa using hx) e
 ·exact⟨o.slots,sb.extBut b o (by simpa using hx) e⟩
 ·exact⟨o,sb.extBut b o (by simpa using hx) e⟩
 ·intro b o e;refine(I7.hok b o e).stay (λc v hc q=>sb.extBut c v ?_ q) (λ_ q=>q) λ_ _ q=>q
  rcases hc with z|z
  ·rw[z];exact nC b o e
  ·exact nC c _ z
 ·intro b hb;rw[bh]at hb;rw[hb];exact⟨fk.2.2.2.1,fk.2.1,fk.2.2.2.2.1,fk.2.2.2.2.2⟩
end L2
namespace Sx
open PySem PyProof.Rows
structure Ord where
 lt:Nat->Nat->Bool
 NZ:∀i,lt i i=false
 tr:∀i j k,lt i j=true->lt j k=true->lt i k=true
 neg:∀i j k,lt i k=true->lt i j=true\/lt j k=true
abbrev P (o:Ord)(i j:Nat):Prop:=o.lt i j=true\/(o.lt j i=false/\i<j)
def Ord.V3(o:Ord)(h:o.lt i j=true):o.lt j i=false:=by
 cases e:o.lt j i with
 | false=>rfl
 | true=>have:=o.tr _ _ _ h e;rw[o.NZ]at this;cases this
def P.NZ(h:P o i i):False:=by
 rcases h with h|⟨_,h⟩
 ·rw[o.NZ]at h;cases h
 ·lia
def P.trans{k:Nat}(a:P o i j)(b:P o j k):P o i k:=by
 rcases a with a|⟨a,a'⟩
 ·rcases b with b|⟨b,b'⟩
  ·exact .inl (o.tr _ _ _ a b)
  ·rcases o.neg i k j a with z|z
   ·exact .inl z
   ·rw[b]at z;cases z
 ·rcases b with b|⟨b,b'⟩
  ·rcases o.neg j i k b with z|z
   ·rw[a]at z;cases z
   ·exact .inl z
  ·refine .inr ⟨?_,()⟩
   cases e:o.lt k i with
   | false=>rfl
   | true=>
    rcases o.neg k j i e with z|z
    ·rw[b]at z;cases z
    ·rw[a]at z;cases z
def P.of_lt{o:Ord}(h:o.lt i j=true):P o i j:=.inl h
def P.vW{o:Ord}(h:o.lt j i=false)(hij:i<j):P o i j:=.inr ⟨h,hij⟩
def P.lt{o:Ord}(h:P o i j)(hij:j<i):o.lt i j=true:=by
 rcases h with h|⟨_,h⟩
 ·exact h
 ·lia
def P.ge{o:Ord}(h:P o i j):o.lt j i=false:=by
 rcases h with h|⟨h,_⟩
 ·exact o.V3 h
 ·exact h
abbrev So (o:Ord)(g:Nat->Nat)(a b:Nat):Prop:=∀i j,a<=i->i<j->j<b->P o (g i) (g j)
abbrev Cl (g:Nat->Nat)(a b:Nat):Prop:=∀i,a<=i->i<b->a<=g i/\g i<b
abbrev rev (g:Nat->Nat)(i j:Nat):Nat->Nat:=λk=>if i<=k/\k<j then g (i+j-1-k)else g k
abbrev mv (g:Nat->Nat)(src dst:Nat):Nat->Nat:=λk=>if k=dst then g src else if dst<k/\k<=src then g (k-1)else g k
def xS{g:Nat->Nat}{k:Nat}(h:i<=k)(h2:k<j):rev g i j k=g (i+j-1-k):=aN ⟨h,h2⟩
def oE{g:Nat->Nat}{k:Nat}(h:k<i\/j<=k):rev g i j k=g k:=aM ()
def Ji{g:Nat->Nat}:mv g s d d=g s:=aN rfl
def Cg{g:Nat->Nat}{k:Nat}(h:d<k)(h2:k<=s):mv g s d k=g (k-1):=by
 unfold mv;rw[aM (),aN ⟨h,h2⟩]
def Ac{g:Nat->Nat}{k:Nat}(hd:d<=s)(h:k<d\/s<k):mv g s d k=g k:=by
 unfold mv;rw[aM (),aM ()]
section
variable {prog:aj}{w:ah}{A:aA}{E:af->aC->Prop}{s:aC}{o:Ord}{N:Nat}{f:Nat->Keyed}{kd:SortKind}{g:Nat->Nat}{p:Array (Nat×Nat×Nat)}{st:SortSt}
abbrev yV (prog:aj)(w:ah)(A:aA)(s:aC)(o:Ord)(N:Nat)(f:Nat->Keyed)(kd:SortKind):Prop:=
 ∀i j,i<N->j<N->∀(E':af->aC->Prop) (Q:Bool->aC->Prop),Q (o.lt i j) s->wpAny (model prog w) A (keyLt' kd (f i).1 (f j).1) Q E' s
structure Sg (N:Nat)(f:Nat->Keyed)(kd:SortKind)(g:Nat->Nat)(p:Array (Nat×Nat×Nat))(st:SortSt):Prop where
 size:(arrOf st).size=N
 get:∀i,i<N->(arrOf st)[i]?=some (f (g i))
 lt:∀i,i<N->g i<N
 kind:kindOf st=kd
 failed:failedOf st=none
 pend:pendingOf st=p
def yc(C:yV prog w A s o N f kd)(hk:kindOf st=kd)(hi:i<N)(hj:j<N){Q:bd->SortSt->Prop}(q:Q (some (o.lt i j)) st):wpS (model prog w) A E s (lt' (f i) (f j)) Q st:=by
 rw[lt'_eq];refine aV (gJ ?_);rw[hk];refine aV (wpS_lift (fG (C i j hi hj _ _ ⟨rfl,?_⟩)));exact bf q
def j7{xs:Array Keyed}{i:Nat}{x:Keyed}(e:xs[i]?=some x){Q:Keyed->SortSt->Prop}(q:Q x st):wpS (model prog w) A E s (elem' xs i) Q st:=by
 rw[elem'_eq,e];exact bf q
def uq(C:yV prog w A s o N f kd)(h:Sg N f kd g p st)(hi:i<N)(hj:j<N){Q:bd->SortSt->Prop}(q:Q (some (o.lt (g i) (g j))) st):wpS (model prog w) A E s (ltAt' i j) Q st:=by
 rw[ltAt'_eq];refine aV (gJ ?_)
 skip
 exact aV (j7 (h.get i hi) (aV (j7 (h.get j hj) (yc C h.kind (h.lt i hi) (h.lt j hj) q))))
def Sg.arr(h:Sg N f kd g p st){xs:Array Keyed}{g':Nat->Nat}(hs:xs.size=N)(hg:∀i,i<N->xs[i]?=some (f (g' i)))(hl:∀i,i<N->g' i<N):Sg N f kd g' p (setArr st xs):=⟨hs,hg,hl,h.kind,h.failed,h.pend⟩
def wH(h:Sg N f kd g p st)(hj:j<=N){Q:Unit->SortSt->Prop}(q:∀st',Sg N f kd (rev g i j) p st'->Q Unit.unit st'):wpS (model prog w) A E s (reverseSlice' i j) Q st:=by
 rw[reverseSlice'_eq];refine fu (q _ (h.arr (by rw[mirror_size];exact h.size) (λk hk=>?_) λk hk=>?_))
 ·rw[getElem?_mirror_all (by rw[h.size];exact hj)];unfold rev;by_cases c:i<=k/\k<j
  ·rw[aN c,aN c];exact h.get _ (by omega)
  ·rw[aM c,aM c];exact h.get _ hk
 ·unfold rev;by_cases c:i<=k/\k<j
  ·rw[aN c];exact h.lt _ (by omega)
  ·rw[aM c];exact h.lt _ hk
def Pf(h:Sg N f kd g p st){a:Nat}(ha:a<N)(hb:b<=a){Q:Unit->SortSt->Prop}(q:∀st',Sg N f kd (mv g a b) p st'->Q Unit.unit st'):wpS (model prog w) A E s (moveDown' a b) Q st:=by
 rw[moveDown'_eq];refine fu (q _ (h.arr (by rw[bubble_size];exact h.size) (λk hk=>?_) λk hk=>?_))
 ·rw[getElem?_bubble (by rw[h.size];exact ha) _ (),show a-(a-b)=b by lia];unfold mv;by_cases c:k=b
  ·rw[aN c,aN c];exact h.get _ ha
  ·rw[aM c,aM c];by_cases c2:b<k/\k<=a
   ·rw[aN c2,aN c2];exact h.get _ ()
   ·rw[aM c2,aM c2];exact h.get _ hk
 ·unfold mv;by_cases c:k=b
  ·rw[aN c];exact h.lt _ ha
  ·rw[aM c];by_cases c2:b<k/\k<=a
   ·rw[aN c2];exact h.lt _ ()
   ·rw[aM c2];exact h.lt _ hk
structure Rn (o:Ord)(g0 g:Nat->Nat)(a b:Nat):Prop where
 out:∀i,i<a\/b<=i->g i=g0 i
 cl:Cl g a b
 so:So o g a b
def Pw{g0:Nat->Nat}{lo k:Nat}(R:Rn o g0 g lo (lo+k))(hk:g (lo+k)=lo+k)(hl:l<=k)(h1:∀i,i<l->P o (g (lo+i)) (lo+k))(h2:∀i,l<=i->i<k->P o (lo+k) (g (lo+i))):Rn o g0 (mv g (lo+k) (lo+l)) lo (lo+(k+1)) where
 out i hi:=by rw[Ac () ()];exact R.out i ()
 cl i a b:=by
  by_cases c:i=lo+l
  ·subst c;rw[Ji,hk];lia
  ·by_cases c2:lo+l<i
   ·rw[Cg c2 ()];have:=R.cl (i-1) () ()
    lia
   ·rw[Ac () ()];have:=R.cl i () ()
    lia
 so i j a b d:=by
  by_cases c:i=lo+l
  ·subst c;rw[Ji,Cg b (),hk];have:=h2 (j-1-lo) () ()
   rwa [show lo+(j-1-lo)=j-1 by lia]at this
  ·by_cases c2:lo+l<i
   ·rw[Cg c2 (),Cg () ()];exact R.so _ _ () () ()
   ·rw[Ac (k:=i) () ()];by_cases c3:j=lo+l
    ·subst c3;rw[Ji,hk];have:=h1 (i-lo) ()
     rwa [show lo+(i-lo)=i by lia]at this
    ·by_cases c4:lo+l<j
     ·rw[Cg c4 ()];exact R.so _ _ () () ()
     ·rw[Ac () ()];exact R.so _ _ () () ()
def QH(C:yV prog w A s o N f kd){g0:Nat->Nat}{lo n ok:Nat}(h:Sg N f kd g p st)(hn:lo+n<=N)(h1:1<=ok)(hok:ok<=n)(R:Rn o g0 g lo (lo+ok))(hid:∀i,lo+ok<=i->i<lo+n->g0 i=i)
  {Q:Bool->SortSt->Prop} (q:∀g' st',Sg N f kd g' p st'->Rn o g0 g' lo (lo+n)->Q true st'):wpS (model prog w) A E s (binarySort' lo n ok) Q st:=by
 rw[binarySort'_eq,show max ok 1=ok by lia];refine aV (dY (cH (I:=λk c st'=>c=(none,Unit.unit)/\∃g',Sg N f kd g' p st'/\Rn o g0 g' lo (lo+min k n))
  (Q:=λc st'=>c=(none,Unit.unit)/\∃g',Sg N f kd g' p st'/\Rn o g0 g' lo (lo+n)) ?step ?fin ?init) ?post)
 case post=>
  rintro c st' ⟨rfl,g',h',R'⟩;exact bf (q g' st' h' R')
 case init=>exact⟨rfl,g,h,by rw[show min ok n=ok by lia];exact R⟩
 case fin=>
  rintro c st' ⟨hc,g',h',R'⟩;exact⟨hc,g',h',by rwa [show min (max ok n) n=n by lia]at R'⟩
 case step=>
  rintro k c st' hak hkn ⟨rfl,g',h',R'⟩;rw[show min k n=k by lia]at R';have gk:g' (lo+k)=lo+k:=by rw[R'.out _ ()];exact hid _ () ()
  refine aV (dY (cH (I:=λx c s2=>s2=st'/\∃u v,c=(none,u,v)/\u<=v/\v<=k/\v-u<=k-x /\
    (∀i,i<u->P o (g' (lo+i)) (lo+k))/\(∀i,v<=i->i<k->P o (lo+k) (g' (lo+i))))
   (Q:=λc s2=>s2=st'/\∃u v,c=(none,u,v)/\u<=k /\
    (∀i,i<u->P o (g' (lo+i)) (lo+k))/\(∀i,u<=i->i<k->P o (lo+k) (g' (lo+i)))) ?istep ?ifin ?iinit) ?ipost)
  case iinit=>exact⟨rfl,0,k,rfl,(),(),(),λi hi=>(),λi h1 h2=>()⟩
  case ifin=>
   rintro c s2 ⟨rfl,u,v,rfl,huv,hvk,hm,low,top⟩;have:u=v:=()
   subst this;exact⟨rfl,u,u,rfl,hvk,low,top⟩
  case istep=>
   rintro x c s2 _ hxk ⟨rfl,u,v,rfl,huv,hvk,hm,low,top⟩;dsimp only;by_cases hge:u>=v
   ·rw[aN hge];have:u=v:=()
    subst this;exact bf ⟨rfl,u,u,rfl,hvk,low,top⟩
   ·rw[aM hge];have hmk:(u+v) / 2<k:=()
    have gm:=R'.cl (lo+(u+v) / 2) () ();refine aV (uq C h' () () ?_);rw[gk]
    cases hless:o.lt (lo+k) (g' (lo+(u+v) / 2))
    case true=>
     dsimp[di];refine bf ⟨rfl,u,(u+v) / 2,rfl,(),(),(),low,λi h1 h2=>?_⟩;by_cases c:i=(u+v) / 2
     ·subst c;exact .inl hless
     ·exact(P.of_lt hless).trans (R'.so _ _ () () ())
    case false=>
     dsimp[bA,bZ];refine bf ⟨rfl,(u+v) / 2+1,v,rfl,(),(),(),λi h1=>?_,top⟩;have last:=P.vW hless gm.2;by_cases c:i=(u+v) / 2
     ·subst c;exact last
     ·exact(R'.so _ _ () () ()).trans last
  case ipost=>
   rintro c s2 ⟨rfl,u,v,rfl,huk,low,top⟩;dsimp only;refine aV (Pf h' () () λst3 h3=>?_);refine bf ⟨rfl,_,h3,?_⟩;rw[show min (k+1) n=k+1 by lia];exact Pw R' gk huk low top
end
meta abbrev As:=Option (bi)×Nat
meta abbrev Ds:=Option (bi)×Nat×Nat
abbrev Kl (lo a nrem:Nat):StateT SortSt Sem As:=
 forIn [a:nrem] ((none,a):As) λ_ c=>do
  let x <- ltAt' (lo+c.2) (lo+c.2-1)
  match x with
  | some b=>if b=true then pure (ForInStep.done (none,c.2))else pure (ForInStep.yield (none,c.2+1))
  | _=>pure (ForInStep.done (some none,c.2))
abbrev AU (lo n nrem:Nat):StateT SortSt Sem (bi):=do
 reverseSlice' lo (lo+n)
 let c <- Kl lo n nrem
 match c.1 with
 | some r=>pure r
 | none=>pure (some c.2)
abbrev NK (lo n nrem:Nat):StateT SortSt Sem Ds:=
 forIn [n:nrem] ((none,n,0):Ds) λ_ c=>do
  let x <- ltAt' (lo+c.2.1) (lo+c.2.1-1)
  match x with
  | some b=>
   if b=true then
    if c.2.2>0 then do
     reverseSlice' (lo+c.2.1-(c.2.2+1)) (lo+c.2.1)
     pure (ForInStep.yield (none,c.2.1+1,0))
    else pure (ForInStep.yield (none,c.2.1+1,0))
   else do
    let x <- ltAt' (lo+c.2.1-1) (lo+c.2.1)
    match x with
    | some b=>
     if b=true then pure (ForInStep.done (none,c.2.1,c.2.2))
     else pure (ForInStep.yield (none,c.2.1+1,c.2.2+1))
    | _=>pure (ForInStep.done (some none,c.2.1,c.2.2))
  | _=>pure (ForInStep.done (some none,c.2.1,c.2.2))
abbrev Lb (lo n nrem:Nat):StateT SortSt Sem (bi):=do
 liftM (rule "list.sort.descending-run")
 let c <- NK lo (n+1) nrem
 match c.1 with
 | some r=>pure r
 | none=>
  if c.2.2>0 then do
   reverseSlice' (lo+c.2.1-(c.2.2+1)) (lo+c.2.1)
   AU lo c.2.1 nrem
  else AU lo c.2.1 nrem
def count_eq(lo nrem:Nat):countRun' lo nrem=(do
  let c <- Kl lo 1 nrem
  match c.1 with
  | some r=>pure r
  | none=>
   if (c.2 == nrem)=true then pure (some c.2)
   else if c.2>1 then do
    let x <- ltAt' lo (lo+c.2-1)
    match x with
    | some b=>if b=true then pure (some c.2)else do
      reverseSlice' lo (lo+c.2)
      Lb lo c.2 nrem
    | _=>pure none
   else Lb lo c.2 nrem):=by
 rw[countRun'_eq];dsimp only;unfold Lb AU NK Kl;congr 1
 funext c
 obtain⟨r,n⟩:=c
 cases r with
 | some r=>rfl
 | none=>
  dsimp only;split
  ·rfl
  ·split
   ·congr 1
    funext x
    cases x with
    | none=>rfl
    | some b=>
     dsimp only;split
     ·rfl
     ·congr 1
      funext _r
      congr 1
      funext _u
      congr 1;congr 1
      funext s2
      obtain⟨r2,n2,q2⟩:=s2
      cases r2 with
      | some r2=>rfl
      | none=>
       dsimp only;split
       ·congr 1
        funext _v
        congr 1
        funext _w
        congr 1
        funext s3
        obtain⟨r3,n3⟩:=s3
        cases r3<;>rfl
       ·congr 1
        funext _w
        congr 1
        funext s3
        obtain⟨r3,n3⟩:=s3
        cases r3<;>rfl
   ·congr 1
    funext _u
    congr 1;congr 1
    funext s2
    obtain⟨r2,n2,q2⟩:=s2
    cases r2 with
    | some r2=>rfl
    | none=>
     dsimp only;split
     ·congr 1
      funext _v
      congr 1
      funext _w
      congr 1
      funext s3
      obtain⟨r3,n3⟩:=s3
      cases r3<;>rfl
     ·congr 1
      funext _w
      congr 1
      funext s3
      obtain⟨r3,n3⟩:=s3
      cases r3<;>rfl
section
variable {prog:aj}{w:ah}{A:aA}{E:af->aC->Prop}{s:aC}{o:Ord}{N:Nat}{f:Nat->Keyed}{kd:SortKind}{g g0:Nat->Nat}{p:Array (Nat×Nat×Nat)}{st:SortSt}
def Rn.snoc{a:Nat}(R:Rn o g0 g a b)(hab:a<b)(hb:g b=b)(h:o.lt b (g (b-1))=false):Rn o g0 g a (b+1) where
 out i hi:=R.out i ()
 cl i h1 h2:=by
  by_cases c:i=b
  ·subst c;lia
  ·have:=R.cl i h1 ();lia
 so i j h1 h2 h3:=by
  by_cases c:j=b
  ·subst c;rw[hb];have l:=R.cl (j-1) () ();have last:P o (g (j-1)) j:=P.vW h l.2;by_cases c2:i=j-1
   ·subst c2;exact last
   ·exact(R.so i (j-1) h1 () ()).trans last
  ·exact R.so i j h1 h2 ()
def Hs(C:yV prog w A s o N f kd){lo a:Nat}(h:Sg N f kd g p st)(hn:lo+nrem<=N)(h1:1<=a)(han:a<=nrem)(R:Rn o g0 g lo (lo+a))(hid:∀i,lo+a<=i->i<lo+nrem->g0 i=i)
  {Q:As->SortSt->Prop} (q:∀n,a<=n->n<=nrem->Rn o g0 g lo (lo+n)->(n=nrem\/o.lt (lo+n) (g (lo+n-1))=true)->Q (none,n) st):wpS (model prog w) A E s (Kl lo a nrem) Q st:=by
 unfold Kl;refine cH (I:=λx c st'=>st'=st/\c=(none,x)/\Rn o g0 g lo (lo+x)) ?step ?fin ⟨rfl,rfl,R⟩
 case fin=>
  rintro c st' ⟨rfl,rfl,R'⟩;rw[show max a nrem=nrem by lia]at R' ⊢;exact q nrem han (aP _) R' (.inl rfl)
 case step=>
  rintro x c st' hax hxn ⟨rfl,rfl,R'⟩;dsimp only;have gx:g (lo+x)=lo+x:=by rw[R'.out _ ()];exact hid _ () ()
  refine aV (uq C h () () ?_);rw[gx]
  cases hl:o.lt (lo+x) (g (lo+x-1))
  case true=>
   dsimp[di];exact bf (q x hax () R' (.inr hl))
  case false=>
   dsimp[bA,bZ];exact bf ⟨rfl,rfl,R'.snoc () gx hl⟩
structure Dc (o:Ord)(g0 g:Nat->Nat)(a b q:Nat):Prop where
 out:∀i,i<a\/b<=i->g i=g0 i
 cl:Cl g a b
 few:a+(q+1)<=b
 dn:∀i j,a<=i->i<j->j<b->i<b-(q+1)->P o (g j) (g i)
 id:∀i,b-(q+1)<=i->i<b->g i=i
 al:∀i j,b-(q+1)<=i->i<b->b-(q+1)<=j->j<b->o.lt i j=false
def Dc.turn{a q:Nat}(D:Dc o g0 g a b q):(∀i,i<a\/b<=i->rev g (b-(q+1)) b i=g0 i)/\Cl (rev g (b-(q+1)) b) a b/\(∀i j,a<=i->i<j->j<b->P o (rev g (b-(q+1)) b j) (rev g (b-(q+1)) b i))/\(∀i,b-(q+1)<=i->i<b->∃k,rev g (b-(q+1)) b i=k/\b-(q+1)<=k/\k<b):=by
 have few:=D.few;have inn:∀i,b-(q+1)<=i->i<b->rev g (b-(q+1)) b i=b-(q+1)+b-1-i:=λi h1 h2=>by
  rw[xS h1 h2];exact D.id _ (by omega) (by omega)
 refine⟨λi hi=>?_,λi h1 h2=>?_,λi j h1 h2 h3=>?_,λi h1 h2=>⟨_,inn i h1 h2,by omega,by omega⟩⟩
 ·rw[oE (by omega)];exact D.out i hi
 ·by_cases c:i<b-(q+1)
  ·rw[oE (by omega)];exact D.cl i h1 h2
  ·rw[inn i (by omega) h2];omega
 ·by_cases c:i<b-(q+1)
  ·rw[oE (k:=i) (by omega)];by_cases c2:j<b-(q+1)
   ·rw[oE (by omega)];exact D.dn i j h1 h2 h3 c
   ·rw[inn j (by omega) h3];have:=D.dn i (b-(q+1)+b-1-j) h1 (by omega) (by omega) c
    rwa [D.id _ (by omega) (by omega)]at this
  ·rw[inn i (by omega) (by omega),inn j (by omega) h3];exact P.vW (D.al _ _ (by omega) (by omega) (by omega) (by omega)) (by omega)
abbrev Fin (o:Ord)(g0 g:Nat->Nat)(a b:Nat):Prop:=(∀i,i<a\/b<=i->g i=g0 i)/\Cl g a b/\(∀i j,a<=i->i<j->j<b->P o (g j) (g i))
def Dc.Bj{a:Nat}(D:Dc o g0 g a b 0):Fin o g0 g a b:=⟨D.out,D.cl,λi j h1 h2 h3=>D.dn i j h1 h2 h3 ()⟩
def Fin.rn{a:Nat}(D:Fin o g0 g a b):Rn o g0 (rev g a b) a b where
 out i hi:=by rw[oE hi];exact D.1 i hi
 cl i h1 h2:=by
  rw[xS h1 h2];exact D.2.1 _ () ()
 so i j h1 h2 h3:=by
  rw[xS h1 (),xS () h3];exact D.2.2 _ _ () () ()
def Fin.add{a:Nat}(D:Fin o g0 g a b)(hb:g b=b)(hab:a<b)(h:∀i,a<=i->i<b->P o b (g i)):Dc o g0 g a (b+1) 0 where
 out i hi:=D.1 i ()
 cl i h1 h2:=by
  by_cases c:i=b
  ·subst c;lia
  ·have:=D.2.1 i h1 ();lia
 few:=()
 dn i j h1 h2 h3 _:=by
  by_cases c:j=b
  ·subst c;rw[hb];exact h i h1 h2
  ·exact D.2.2 i j h1 h2 ()
 id i h1 h2:=by
  have:i=b:=()
  rw[this,hb]
 al i j h1 h2 h3 h4:=by
  have:i=j:=()
  rw[this];exact o.NZ _
def Ej(C:yV prog w A s o N f kd){lo n:Nat}(h:Sg N f kd g p st)(hn:lo+nrem<=N)(h1:1<=n)(han:n<=nrem)(D:Fin o g0 g lo (lo+n))(hid:∀i,lo<=i->i<lo+nrem->g0 i=i)
  {Q:bi->SortSt->Prop} (q:∀m g' st',Sg N f kd g' p st'->1<=m->m<=nrem->Rn o g0 g' lo (lo+m)->Q (some m) st'):wpS (model prog w) A E s (AU lo n nrem) Q st:=by
 unfold AU;refine aV (wH h () λst2 h2=>?_);exact aV (Hs C h2 hn h1 han D.rn (λi a b=>hid i () b) λm hm1 hm2 R _=>bf (q m _ _ h2 () hm2 R))
def Pe(C:yV prog w A s o N f kd){lo n:Nat}(h:Sg N f kd g p st)(hn:lo+nrem<=N)(h1:1<=n)(han:n<=nrem)(D:Dc o g0 g lo (lo+n) 0)(hid:∀i,lo<=i->i<lo+nrem->g0 i=i)
  {Q:Ds->SortSt->Prop} (q:∀m e g' st',Sg N f kd g' p st'->1<=m->m<=nrem->Dc o g0 g' lo (lo+m) e->Q (none,m,e) st'):wpS (model prog w) A E s (NK lo n nrem) Q st:=by
 unfold NK;refine cH (I:=λx c st'=>∃e g',c=(none,x,e)/\Sg N f kd g' p st'/\Dc o g0 g' lo (lo+x) e) ?step ?fin ⟨0,g,rfl,h,D⟩
 case fin=>
  rintro c st' ⟨e,g',rfl,h',D'⟩;rw[show max n nrem=nrem by lia]at D' ⊢;exact q nrem e g' st' h' () (aP _) D'
 case step=>
  rintro x c st' hax hxn ⟨e,g',rfl,h',D'⟩;dsimp only;have few:=D'.few;have gx:g' (lo+x)=lo+x:=by rw[D'.out _ ()];exact hid _ () ()
  have gy:g' (lo+x-1)=lo+x-1:=D'.id _ () ();refine aV (uq C h' () () ?_);rw[gx,gy]
  cases hl:o.lt (lo+x) (lo+x-1)
  case true=>
   dsimp[di];by_cases he:e>0
   ·rw[aN he];obtain⟨t1,t2,t3,t4⟩:=D'.turn;refine aV (wH h' () λst2 h2=>bf ⟨0,_,rfl,h2,?_⟩);refine Fin.add (b:=lo+x) ⟨t1,t2,t3⟩ (by rw[oE ()];exact gx) () λi a b=>?_;by_cases c:lo+x-(e+1)<=i
    ·obtain⟨k,ek,k1,k2⟩:=t4 i c b;rw[ek]
     rcases o.neg _ k _ hl with z|z
     ·exact .inl z
     ·rw[D'.al _ _ k1 k2 () ()]at z;cases z
    ·rw[oE ()];have:=D'.dn i (lo+x-1) a () () ();rw[gy]at this;exact(P.of_lt hl).trans this
   ·rw[aM he];have:e=0:=()
    subst this;refine bf ⟨0,_,rfl,h',Fin.add (b:=lo+x) D'.Bj gx () λi a b=>?_⟩;by_cases c:i=lo+x-1
    ·subst c;rw[gy];exact .inl hl
    ·have:=D'.dn i (lo+x-1) a () () ();rw[gy]at this;exact(P.of_lt hl).trans this
  case false=>
   dsimp[bA,bZ];refine aV (uq C h' () () ?_);rw[gx,gy]
   cases hg:o.lt (lo+x-1) (lo+x)
   case true=>
    dsimp[di];exact bf (q x e g' st' h' () () D')
   case false=>
    dsimp[bA,bZ];refine bf ⟨e+1,g',rfl,h',?_⟩;have eq1:∀i,lo+x-(e+1)<=i->i<lo+x->o.lt i (lo+x)=false/\o.lt (lo+x) i=false:=λi a b=>by
     constructor
     ·cases z:o.lt i (lo+x)with
      | false=>rfl
      | true=>
       rcases o.neg _ (lo+x-1) _ z with y|y
       ·rw[D'.al _ _ a b () ()]at y;cases y
       ·rw[hg]at y;cases y
     ·cases z:o.lt (lo+x) i with
      | false=>rfl
      | true=>
       rcases o.neg _ (lo+x-1) _ z with y|y
       ·rw[hl]at y;cases y
       ·rw[D'.al _ _ () () a b]at y;cases y
    exact {
     out:=λi hi=>D'.out i ()
     cl:=λi a b=>by
      by_cases c:i=lo+x
      ·subst c;lia
      ·have:=D'.cl i a ();lia
     few:=()
     dn:=λi j a b c d=>by
      by_cases z:j=lo+x
      ·subst z;rw[gx];have y:=D'.dn i (lo+x-1) a () () ();rw[gy]at y;have gi:=D'.cl i a ()
       rcases y with y|⟨_,y⟩
       ·rcases o.neg _ (lo+x) _ y with v|v
        ·rw[hg]at v;cases v
        ·exact .inl v
       ·lia
      ·exact D'.dn i j a b () ()
     id:=λi a b=>by
      by_cases z:i=lo+x
      ·subst z;exact gx
      ·exact D'.id i () ()
     al:=λi j a b c d=>by
      by_cases z:i=lo+x
      ·subst z;by_cases y:j=lo+x
       ·subst y;exact o.NZ _
       ·exact(eq1 j () ()).2
      ·by_cases y:j=lo+x
       ·subst y;exact(eq1 i () ()).1
       ·exact D'.al i j () () () ()}
def DL(C:yV prog w A s o N f kd){lo n:Nat}(h:Sg N f kd g p st)(hn:lo+nrem<=N)(han:n+1<=nrem)(D:Dc o g0 g lo (lo+(n+1)) 0)(hid:∀i,lo<=i->i<lo+nrem->g0 i=i)
  {Q:bi->SortSt->Prop} (q:∀m g' st',Sg N f kd g' p st'->1<=m->m<=nrem->Rn o g0 g' lo (lo+m)->Q (some m) st'):wpS (model prog w) A E s (Lb lo n nrem) Q st:=by
 unfold Lb;kst_p;refine aV (Pe C h hn () han D hid λm e g' st' h' m1 m2 D'=>?_);dsimp only;by_cases he:e>0
 ·rw[aN he];obtain⟨t1,t2,t3,_⟩:=D'.turn;exact aV (wH h' () λst2 h2=>Ej C h2 hn m1 m2 ⟨t1,t2,t3⟩ hid q)
 ·rw[aM he];have:e=0:=()
  subst this;exact Ej C h' hn m1 m2 D'.Bj hid q
def xF(C:yV prog w A s o N f kd){lo:Nat}(h:Sg N f kd g p st)(hn:lo+nrem<=N)(h1:1<=nrem)(hid:∀i,lo<=i->i<lo+nrem->g i=i)
  {Q:bi->SortSt->Prop} (q:∀m g' st',Sg N f kd g' p st'->1<=m->m<=nrem->Rn o g g' lo (lo+m)->Q (some m) st'):wpS (model prog w) A E s (countRun' lo nrem) Q st:=by
 rw[count_eq];refine aV (Hs C h hn (aP 1) h1 (g0:=g) ⟨λ_ _=>rfl,λi a b=>?_,λi j a b c=>()⟩ (λi a b=>hid i () b) λn n1 n2 R hor=>?_)
 ·have:i=lo:=()
  subst this;rw[hid i (aP _) ()];lia
 dsimp only;by_cases hnn:n=nrem
 ·rw[aN (by simpa using hnn)];exact bf (q n g st h n1 n2 R)
 ·rw[aM (by simpa using hnn)];have hlt:=hor.resolve_left hnn;rw[hid (lo+n-1) () ()]at hlt;have gn:g (lo+n)=lo+n:=hid _ () ();by_cases hgt:n>1
  ·rw[aN hgt];refine aV (uq C h () () ?_);rw[hid lo () (),hid (lo+n-1) () ()]
   cases hr:o.lt lo (lo+n-1)
   case true=>
    dsimp[di];exact bf (q n g st h n1 n2 R)
   case false=>
    dsimp[bA,bZ];have id':∀i,lo<=i->i<lo+n->g i=i:=λi a b=>hid i a ();have pp:∀i j,lo<=i->i<j->j<lo+n->o.lt i j=false/\o.lt j i=false:=λi j a b c=>by
     have r:=R.so i j a b c;rw[id' i a (),id' j () c]at r;refine⟨?_,r.ge⟩
     cases z:o.lt i j with
     | false=>rfl
     | true=>
      rcases o.neg _ lo _ z with y|y
      ·by_cases x:i=lo
       ·subst x;rw[o.NZ]at y;cases y
       ·have r2:=R.so lo i () () ();rw[id' i a (),id' lo () ()]at r2;rw[r2.ge]at y;cases y
      ·rcases o.neg _ (lo+n-1) _ y with x|x
       ·rw[hr]at x;cases x
       ·by_cases v:j=lo+n-1
        ·subst v;rw[o.NZ]at x;cases x
        ·have r2:=R.so j (lo+n-1) () () ();rw[id' j () c,id' (lo+n-1) () ()]at r2;rw[r2.ge]at x;cases x
    refine aV (wH h () λst2 h2=>DL C h2 hn () ?_ hid q);have rin:∀i,lo<=i->i<lo+n->rev g lo (lo+n) i=lo+(lo+n)-1-i:=λi a b=>by rw[xS a b];exact id' _ () ()
    refine Fin.add (b:=lo+n) ⟨λi hi=>oE hi,λi a b=>by rw[rin i a b];lia,λi j a b c=>?_⟩ (by rw[oE ()];exact gn) () λi a b=>?_
    ·rw[rin i a (),rin j () c];exact P.vW (pp _ _ () () ()).2 ()
    ·rw[rin i a b];by_cases x:lo+(lo+n)-1-i=lo+n-1
     ·rw[x];exact .inl hlt
     ·rcases o.neg _ (lo+(lo+n)-1-i) _ hlt with z|z
      ·exact .inl z
      ·rw[(pp _ _ () () ()).1]at z;cases z
  ·rw[aM hgt];have:n=1:=()
   subst this;refine DL C h hn () ?_ hid q;refine Fin.add (b:=lo+1) ⟨λi hi=>rfl,R.cl,λi j a b c=>()⟩ gn () λi a b=>?_;have:i=lo:=()
   subst this;rw[hid i () ()];rw[show i+1-1=i by lia]at hlt;exact .inl hlt
end
abbrev l6:Bool->Keyed->Array Keyed->Nat->Nat->Nat->StateT SortSt Sem (bi):=sortPriv% PySem.Builtin.gallop
abbrev Q4 (ask:Nat->StateT SortSt Sem (bd))(n at0:Nat):StateT SortSt Sem (bi):=do
 let mut was:=0
 let mut far:=1
 let mut low:=0
 let mut top:=0
 let some yes <- ask at0|return none
 if yes then
  let most:=n-at0
  for _ in [0:n] do
   if far>=most then break
   let some ok <- ask (at0+far)|return none
   if !ok then break
   was:=far
   far:=2 * far+1
  low:=at0+was+1
  top:=at0+min far most
 else
  let most:=at0+1
  for _ in [0:n] do
   if far>=most then break
   let some hit <- ask (at0-far)|return none
   if hit then break
   was:=far
   far:=2 * far+1
  low:=at0+1-min far most
  top:=at0-was
 for _ in [0:n] do
  if low>=top then break
  let m:=low+(top-low) / 2
  let some ok <- ask m|return none
  if ok then low:=m+1 else top:=m
 return some top
def yW(left:Bool)(key:Keyed)(arr:Array Keyed)(base n hint:Nat):l6 left key arr base n hint=Q4 (λi=>do
  let x <- elem' arr (base+i)
  if left then lt' x key else return (<- lt' key x).map (!·)) n hint:=rfl
section
variable {prog:aj}{w:ah}{A:aA}{E:af->aC->Prop}{s:aC}{st:SortSt}
abbrev UP (be:Nat->StateT SortSt Sem (bd))(n l0 h0:Nat):StateT SortSt Sem (bi):=do
 let mut low:=l0
 let mut top:=h0
 for _ in [0:n] do
  if low>=top then break
  let m:=low+(top-low) / 2
  let some ok <- be m|return none
  if ok then low:=m+1 else top:=m
 return some top
def OT{be:Nat->StateT SortSt Sem (bd)}{n h0:Nat}(b:Nat->Bool)(hbe:∀i,i<n->∀Q:bd->SortSt->Prop,Q (some (b i)) st->wpS (model prog w) A E s (be i) Q st)(hb:∀i j,i<=j->j<n->b j=true->b i=true)
  (hlh:l0<=h0) (hn:h0<=n) (hl:∀i,i<l0->b i=true) (hh:∀i,h0<=i->i<n->b i=false)
  {Q:bi->SortSt->Prop} (q:∀k,k<=n->(∀i,i<k->b i=true)->(∀i,k<=i->i<n->b i=false)->Q (some k) st):wpS (model prog w) A E s (UP be n l0 h0) Q st:=by
 unfold UP;refine aV (dY (cH (I:=λx c st'=>st'=st/\∃lo hi,c=(none,lo,hi)/\lo<=hi/\hi<=n/\hi-lo<=n-x/\(∀i,i<lo->b i=true)/\(∀i,hi<=i->i<n->b i=false))
  (Q:=λc st'=>st'=st/\∃k,c=(none,k,k)/\k<=n/\(∀i,i<k->b i=true)/\(∀i,k<=i->i<n->b i=false)) ?step ?fin ⟨rfl,l0,h0,rfl,hlh,hn,(),hl,hh⟩) ?post)
 case post=>
  rintro c st' ⟨rfl,k,rfl,h1,h2,h3⟩;exact bf (q k h1 h2 h3)
 case fin=>
  rintro c st' ⟨rfl,lo,hi,rfl,h1,h2,h3,h4,h5⟩;have:lo=hi:=()
  subst this;exact⟨rfl,lo,rfl,h2,h4,h5⟩
 case step=>
  rintro x c st' _ hx ⟨rfl,lo,hi,rfl,h1,h2,h3,h4,h5⟩;dsimp only;by_cases hge:lo>=hi
  ·rw[aN hge];have:lo=hi:=()
   subst this;exact bf ⟨rfl,lo,rfl,h2,h4,h5⟩
  ·rw[aM hge];have hm:lo+(hi-lo) / 2<hi:=()
   obtain⟨m,hm'⟩:∃m,m=lo+(hi-lo) / 2:=⟨_,rfl⟩;rw[<- hm']at hm ⊢;refine aV (hbe m () _ ?_)
   cases hv:b m
   ·dsimp[bA,bZ];refine bf ⟨rfl,lo,m,rfl,(),(),(),h4,λi a c=>?_⟩
    cases z:b i with
    | false=>rfl
    | true=>rw[hb m i a c z]at hv;cases hv
   ·dsimp[di];exact bf ⟨rfl,m+1,hi,rfl,(),h2,(),λi a=>hb i m () () hv,h5⟩
def Ed{be:Nat->StateT SortSt Sem (bd)}{n:Nat}(b:Nat->Bool)(hbe:∀i,i<n->∀Q:bd->SortSt->Prop,Q (some (b i)) st->wpS (model prog w) A E s (be i) Q st)(hb:∀i j,i<=j->j<n->b j=true->b i=true)(hh:hint<n)
  {Q:bi->SortSt->Prop} (q:∀k,k<=n->(∀i,i<k->b i=true)->(∀i,k<=i->i<n->b i=false)->Q (some k) st):wpS (model prog w) A E s (Q4 be n hint) Q st:=by
 unfold Q4;have hb':∀i j,i<=j->j<n->b i=false->b j=false:=λi j a c d=>by
  cases z:b j with
  | false=>rfl
  | true=>rw[hb i j a c z]at d;cases d
 refine aV (hbe hint hh _ ?_)
 cases hr:b hint
 ·dsimp only;dsimp[bA,bZ];refine aV (dY (cH (I:=λx c st'=>st'=st/\∃l u,c=(none,l,u)/\x+1<=u/\l<u/\l<=hint/\b (hint-l)=false)
   (Q:=λc st'=>st'=st/\∃l u,c=(none,l,u)/\l<u/\l<=hint/\b (hint-l)=false/\(u>=hint+1\/b (hint-u)=true)) ?step ?fin ⟨rfl,0,1,rfl,by omega,by omega,by omega,hr⟩) ?post)
  case post=>
   rintro c st' ⟨rfl,l,u,rfl,h1,h2,h3,h4⟩;dsimp only;refine(OT b hbe hb (l0:=hint+1-min u (hint+1)) (h0:=hint-l) (by omega) (by omega) (λi a=>?_) (λi a c=>hb' _ _ a c h3) q:wpS (model prog w) A E s (UP be n _ _) Q st')
   rcases h4 with h4|h4
   ·omega
   ·exact hb i (hint-u) (by omega) (by omega) h4
  case fin=>
   rintro c st' ⟨rfl,l,u,rfl,h1,h2,h3,h4⟩;exact⟨rfl,l,u,rfl,h2,h3,h4,.inl (by omega)⟩
  case step=>
   rintro x c st' _ hx ⟨rfl,l,u,rfl,h1,h2,h3,h4⟩;dsimp only;by_cases hge:u>=hint+1
   ·rw[aN hge];exact bf ⟨rfl,l,u,rfl,h2,h3,h4,.inl hge⟩
   ·rw[aM hge];refine aV (hbe _ (by omega) _ ?_)
    cases hv:b (hint-u)
    ·dsimp[bA,bZ];exact bf ⟨rfl,u,2 * u+1,rfl,by omega,by omega,by omega,hv⟩
    ·dsimp[di];exact bf ⟨rfl,l,u,rfl,h2,h3,h4,.inr hv⟩
 ·dsimp only;dsimp[di];refine aV (dY (cH (I:=λx c st'=>st'=st/\∃l u,c=(none,l,u)/\x+1<=u/\l<u/\hint+l<n/\b (hint+l)=true)
   (Q:=λc st'=>st'=st/\∃l u,c=(none,l,u)/\l<u/\hint+l<n/\b (hint+l)=true/\(u>=n-hint\/b (hint+u)=false)) ?LN ?fin2 ⟨rfl,0,1,rfl,by omega,by omega,by omega,hr⟩) ?post2)
  case post2=>
   rintro c st' ⟨rfl,l,u,rfl,h1,h2,h3,h4⟩;dsimp only;refine(OT b hbe hb (l0:=hint+l+1) (h0:=hint+min u (n-hint)) (by omega) (by omega) (λi a=>hb i _ (by omega) h2 h3) (λi a c=>?_) q:wpS (model prog w) A E s (UP be n _ _) Q st')
   rcases h4 with h4|h4
   ·omega
   ·exact hb' (hint+u) i (by omega) c h4
  case fin2=>
   rintro c st' ⟨rfl,l,u,rfl,h1,h2,h3,h4⟩;exact⟨rfl,l,u,rfl,h2,h3,h4,.inl (by omega)⟩
  case LN=>
   rintro x c st' _ hx ⟨rfl,l,u,rfl,h1,h2,h3,h4⟩;dsimp only;by_cases hge:u>=n-hint
   ·rw[aN hge];exact bf ⟨rfl,l,u,rfl,h2,h3,h4,.inl hge⟩
   ·rw[aM hge];refine aV (hbe _ (by omega) _ ?_)
    cases hv:b (hint+u)
    ·dsimp[fO,di];exact bf ⟨rfl,l,u,rfl,h2,h3,h4,.inr hv⟩
    ·dsimp[eN,bA,bZ];exact bf ⟨rfl,u,2 * u+1,rfl,by omega,by omega,by omega,hv⟩
end
section
variable {prog:aj}{w:ah}{A:aA}{E:af->aC->Prop}{s:aC}{o:Ord}{N:Nat}{f:Nat->Keyed}{kd:SortKind}{st:SortSt}
def LW(C:yV prog w A s o N f kd)(hk:kindOf st=kd){base n:Nat}{arr:Array Keyed}{h:Nat->Nat}(ha:∀i,i<n->arr[base+i]?=some (f (h i)))(hN:∀i,i<n->h i<key)(hkN:key<N)(so:So o h 0 n)(hh:hint<n)
  {Q:bi->SortSt->Prop} (q:∀k,k<=n->(∀i,i<k->P o (h i) key)->(∀i,k<=i->i<n->P o key (h i))->Q (some k) st):wpS (model prog w) A E s (l6 false (f key) arr base n hint) Q st:=by
 rw[yW];refine Ed (λi=>!o.lt key (h i)) (λi hi Q' q'=>?_) (λi j a b c=>?_) hh λk h1 h2 h3=>q k h1 (λi a=>?_) λi a b=>?_
 ·refine aV (j7 (ha i hi) ?_);dsimp[bA,bZ];exact aV (yc C hk hkN (by have:=hN i hi;lia) (bf q'))
 ·by_cases z:i=j
  ·subst z;exact c
  ·have r:=so i j (cY _) () b;have c':o.lt key (h j)=false:=by simpa using c
   cases e:o.lt key (h i)with
   | false=>rfl
   | true=>
    have:=(P.of_lt e).trans r;rw[this.lt (hN j b)]at c';cases c'
 ·have:=h2 i a;exact P.vW (by simpa using this) (hN i ())
 ·have:=h3 i a b;exact .inl (by simpa using this)
def JM(C:yV prog w A s o N f kd)(hk:kindOf st=kd){base n:Nat}{arr:Array Keyed}{h:Nat->Nat}(ha:∀i,i<n->arr[base+i]?=some (f (h i)))(hN:∀i,i<n->key<h i/\h i<N)(so:So o h 0 n)(hh:hint<n)
  {Q:bi->SortSt->Prop} (q:∀k,k<=n->(∀i,i<k->P o (h i) key)->(∀i,k<=i->i<n->P o key (h i))->Q (some k) st):wpS (model prog w) A E s (l6 true (f key) arr base n hint) Q st:=by
 rw[yW];refine Ed (λi=>o.lt (h i) key) (λi hi Q' q'=>?_) (λi j a b c=>?_) hh λk h1 h2 h3=>q k h1 (λi a=>?_) λi a b=>?_
 ·refine aV (j7 (ha i hi) ?_);dsimp[di];exact yc C hk (hN i hi).2 (by have:=hN i hi;lia) q'
 ·by_cases z:i=j
  ·subst z;exact c
  ·have r:=so i j (cY _) () b;exact(r.trans (P.of_lt c)).lt (hN i ()).1
 ·exact .inl (h2 i a)
 ·exact P.vW (h3 i a b) (hN i b).1
end
abbrev xX:Array Keyed->Array Keyed->StateT SortSt Sem (Array Keyed):=sortPriv% PySem.Builtin.mergeLo
abbrev yq:Array Keyed->Array Keyed->StateT SortSt Sem (Array Keyed):=sortPriv% PySem.Builtin.mergeHi
abbrev vU:Nat->StateT SortSt Sem Unit:=sortPriv% PySem.Builtin.setMinGallop
def Nj(m:Nat):vU m=modify λs=>SortSt.mk' (kindOf s) (arrOf s) (pendingOf s) m (failedOf s):=rfl
def C_(a b:Array Keyed):xX a b=(do
 rule "list.sort.merge-lo"
 let all_:=a.size+b.size
 let end1 (acc:Array Keyed) (p q:Nat):=acc++a.extract p a.size++b.extract q b.size
 let end2 (acc:Array Keyed) (p q:Nat):=acc++b.extract q b.size++a.extract p a.size
 let mut acc:Array Keyed:=#[<- elem' b 0]
 let mut p:=0
 let mut q:=1
 if q == b.size then return end1 acc p q
 if p+1 == a.size then return end2 acc p q
 let mut mg:=gallopOf (<- get)
 for _ in [0:all_] do
  let mut ca:=0
  let mut cb:=0
  for _ in [0:all_] do
   let some won <- lt' (<- elem' b q) (<- elem' a p)|return end1 acc p q
   if won then
    acc:=acc.push (<- elem' b q);q:=q+1;cb:=cb+1;ca:=0
    if q == b.size then return end1 acc p q
    if cb>=mg then break
   else
    acc:=acc.push (<- elem' a p);p:=p+1;ca:=ca+1;cb:=0
    if p+1 == a.size then return end2 acc p q
    if ca>=mg then break
  rule "list.sort.gallop"
  mg:=mg+1
  for _ in [0:all_] do
   if mg>1 then mg:=mg-1
   vU mg
   let some k <- l6 false (<- elem' b q) a p (a.size-p) 0|return end1 acc p q
   ca:=k
   if k>0 then
    acc:=acc++a.extract p (p+k);p:=p+k
    if p+1 == a.size then return end2 acc p q
    if p == a.size then return end1 acc p q
   acc:=acc.push (<- elem' b q);q:=q+1
   if q == b.size then return end1 acc p q
   let some k <- l6 true (<- elem' a p) b q (b.size-q) 0|return end1 acc p q
   cb:=k
   if k>0 then
    acc:=acc++b.extract q (q+k);q:=q+k
    if q == b.size then return end1 acc p q
   acc:=acc.push (<- elem' a p);p:=p+1
   if p+1 == a.size then return end2 acc p q
   if ca<7 && cb<7 then break
  mg:=mg+1
  vU mg
 unsupported "internal:list.sort.merge-bound"):=rfl
section
variable {o:Ord}{N:Nat}{f:Nat->Keyed}{A B hs:ag}{ia ib:Nat}
abbrev fa (f:Nat->Keyed)(l:ag):Array Keyed:=(l.map f).toArray
def mH(l:ag):(fa f l).size=l.length:=by unfold fa;rw[aS,aL]
def HE(l:ag)(i:Nat):(fa f l)[i]?=(l[i]?).map f:=by unfold fa;rw[fH,aQ]
def l8{l:ag}{i x:Nat}(h:l[i]?=some x):(fa f l)[i]?=some (f x):=by rw[HE,h];rfl
def uO(l:ag)(x:Nat):(fa f l).push (f x)=fa f (l++[x]):=by
 unfold fa;rw[List.push_toArray,bP];rfl
def oH(l m:ag):fa f l++fa f m=fa f (l++m):=by
 unfold fa;rw[List.append_toArray,bP]
def vE(l:ag)(i j:Nat):(fa f l).extract i j=fa f ((l.drop i).take (j-i)):=by
 unfold fa;rw[List.extract_toArray,List.extract_eq_take_drop,map_take,map_drop]
def wu(l:ag)(i:Nat):(fa f l).extract i l.length=fa f (l.drop i):=by
 rw[vE,cD (by rw[cM];lia)]
structure Ab (o:Ord)(N:Nat)(A B:ag):Prop where
 sa:A.Pairwise (P o)
 sb:B.Pairwise (P o)
 lt:∀x∈A,∀y∈B,x<y
 nb:∀y∈B,y<N
 na:∀x∈A,x<N
structure Mg (o:Ord)(A B hs:ag)(ia ib:Nat):Prop where
 la:ia<=A.length
 lb:ib<=B.length
 len:hs.length=ia+ib
 so:hs.Pairwise (P o)
 mem:∀x∈hs,x∈A\/x∈B
 ua:∀x∈hs,∀y∈A.drop ia,P o x y
 ub:∀x∈hs,∀y∈B.drop ib,P o x y
abbrev Res (o:Ord)(f:Nat->Keyed)(A B:ag)(out:Array Keyed):Prop:=∃hs:ag,out=fa f hs/\hs.length=A.length+B.length/\hs.Pairwise (P o)/\∀x∈hs,x∈A\/x∈B
def rj{l:ag}(h:l.Pairwise (P o)){i j x:Nat}(hx:l[i]?=some x)(hy:l[j]?=some y)(hij:i<j):P o x y:=by
 obtain⟨h1,e1⟩:=aK.mp hx;obtain⟨h2,e2⟩:=aK.mp hy;rw[<- e1,<- e2];exact dI.mp h i j h1 h2 hij
def uA{l:ag}{y:Nat}(h:y∈l.drop i):∃j,i<=j/\l[j]?=some y:=by
 obtain⟨k,hk⟩:=eG h;rw[fB]at hk;exact⟨i+k,(),hk⟩
def Mg.vX(ab:Ab o N A B)(m:Mg o A B hs ia ib){x:Nat}(hx:A[ia]?=some x)(h:∀y∈B.drop ib,P o x y):Mg o A B (hs++[x]) (ia+1) ib:=by
 obtain⟨h1,e1⟩:=aK.mp hx;have hd:A.drop ia=x::A.drop (ia+1):=by rw[<- e1];exact bS h1
 refine⟨(),m.lb,by rw[aU,m.len];show ia+ib+1=_;lia,?_,λz hz=>?_,λz hz y hy=>?_,λz hz y hy=>?_⟩
 ·rw[cg];exact⟨m.so,dU ..,λa ha b hb=>by rw[bh.mp hb];exact m.ua a ha x (by rw[hd];exact aR ..)⟩
 ·rcases bq.mp hz with z'|z'
  ·exact m.mem z z'
  ·rw[bh.mp z'];exact .inl (aZ hx)
 ·rcases bq.mp hz with z'|z'
  ·exact m.ua z z' y (by rw[hd];exact aT _ hy)
  ·rw[bh.mp z'];obtain⟨j,hj,ej⟩:=uA hy;exact rj ab.sa hx ej ()
 ·rcases bq.mp hz with z'|z'
  ·exact m.ub z z' y hy
  ·rw[bh.mp z'];exact h y hy
def Ab.wJ(ab:Ab o N A B)(m:Mg o A B hs ia ib){x:Nat}(hx:B[ib]?=some x)(h:∀y∈A.drop ia,P o x y):Mg o A B (hs++[x]) ia (ib+1):=by
 obtain⟨h1,e1⟩:=aK.mp hx;have hd:B.drop ib=x::B.drop (ib+1):=by rw[<- e1];exact bS h1
 refine⟨m.la,(),by rw[aU,m.len];rfl,?_,λz hz=>?_,λz hz y hy=>?_,λz hz y hy=>?_⟩
 ·rw[cg];exact⟨m.so,dU ..,λa ha b hb=>by rw[bh.mp hb];exact m.ub a ha x (by rw[hd];exact aR ..)⟩
 ·rcases bq.mp hz with z'|z'
  ·exact m.mem z z'
  ·rw[bh.mp z'];exact .inr (aZ hx)
 ·rcases bq.mp hz with z'|z'
  ·exact m.ua z z' y hy
  ·rw[bh.mp z'];exact h y hy
 ·rcases bq.mp hz with z'|z'
  ·exact m.ub z z' y (by rw[hd];exact aT _ hy)
  ·rw[bh.mp z'];obtain⟨j,hj,ej⟩:=uA hy;exact rj ab.sb hx ej ()
def qe{l:ag}(h:l.Pairwise (P o)){i x:Nat}(hx:l[i]?=some x)(hxy:P o y x):∀z∈l.drop i,P o y z:=λz hz=>by
 obtain⟨j,hj,ej⟩:=uA hz;by_cases c:j=i
 ·subst c;rw[hx]at ej;cases ej;exact hxy
 ·exact hxy.trans (rj h hx ej ())
def take_snoc{l:ag}{k x:Nat}(h:l[i+k]?=some x):(l.drop i).take (k+1)=(l.drop i).take k++[x]:=by
 have h':(l.drop i)[k]?=some x:=by rw[fB];exact h
 obtain⟨h1,e1⟩:=aK.mp h';rw[cE h1,e1]
theorem Mg.xY(ab:Ab o N A B)(m:Mg o A B hs ia ib)(hy:B[ib]?=some y):∀k,ia+k<=A.length->(∀i x,i<k->A[ia+i]?=some x->P o x y)->Mg o A B (hs++(A.drop ia).take k) (ia+k) ib
 | 0,_,_=>by rw[fP,cW];exact m
 | k+1,hk,h=>by
  have ih:=Mg.xY ab m hy k () λi x hi=>h i x ();have hx:A[ia+k]?=some (A[ia+k]'()):=aH _;rw[take_snoc hx,<- bJ];exact ih.vX ab hx (qe ab.sb hy (h k _ () hx))
theorem Mg.xT(ab:Ab o N A B)(m:Mg o A B hs ia ib)(hy:A[ia]?=some y):∀k,ib+k<=B.length->(∀i x,i<k->B[ib+i]?=some x->P o x y)->Mg o A B (hs++(B.drop ib).take k) ia (ib+k)
 | 0,_,_=>by rw[fP,cW];exact m
 | k+1,hk,h=>by
  have ih:=Mg.xT ab m hy k () λi x hi=>h i x ();have hx:B[ib+k]?=some (B[ib+k]'()):=aH _;rw[take_snoc hx,<- bJ];exact ab.wJ ih hx (qe ab.sa hy (h k _ () hx))
def wc{l:ag}(h:l.Pairwise (P o))(i:Nat):(l.drop i).Pairwise (P o):=h.sublist (List.drop_sublist ..)
def Mg.fin(ab:Ab o N A B)(m:Mg o A B hs ia ib)(h:∀x∈A.drop ia,∀y∈B.drop ib,P o x y):Res o f A B (fa f hs++(fa f A).extract ia A.length++(fa f B).extract ib B.length):=by
 rw[wu,wu,oH,oH];have la:=m.la;have lb:=m.lb;refine⟨_,rfl,by rw[aU,aU,m.len,cM,cM];lia,?_,λx hx=>?_⟩
 ·rw[cg,cg];refine⟨⟨m.so,wc ab.sa _,m.ua⟩,wc ab.sb _,λx hx y hy=>?_⟩
  rcases bq.mp hx with z|z
  ·exact m.ub x z y hy
  ·exact h x z y hy
 ·rcases bq.mp hx with z|z
  ·rcases bq.mp z with z|z
   ·exact m.mem x z
   ·exact .inl (eK z)
  ·exact .inr (eK z)
def Mg.P_(ab:Ab o N A B)(m:Mg o A B hs ia ib)(h:∀x∈A.drop ia,∀y∈B.drop ib,P o y x):Res o f A B (fa f hs++(fa f B).extract ib B.length++(fa f A).extract ia A.length):=by
 rw[wu,wu,oH,oH];have la:=m.la;have lb:=m.lb;refine⟨_,rfl,by rw[aU,aU,m.len,cM,cM];lia,?_,λx hx=>?_⟩
 ·rw[cg,cg];refine⟨⟨m.so,wc ab.sb _,m.ub⟩,wc ab.sa _,λx hx y hy=>?_⟩
  rcases bq.mp hx with z|z
  ·exact m.ua x z y hy
  ·exact h y hy x z
 ·rcases bq.mp hx with z|z
  ·rcases bq.mp z with z|z
   ·exact m.mem x z
   ·exact .inr (eK z)
  ·exact .inl (eK z)
def drop_nil{l:ag}(h:l.length<=i):l.drop i=[]:=List.drop_eq_nil_of_le h
def D5{l:ag}(h:l.Pairwise (P o))(b n:Nat)(hn:b+n<=l.length):So o (λi=>l.getD (b+i) 0) 0 n:=λi j _ hij hj=>
 rj h (i:=b+i) (j:=b+j) (by show _=some (l.getD (b+i) 0);rw[aI,aH (show b+i<l.length by lia)];rfl) (by show _=some (l.getD (b+j) 0);rw[aI,aH (show b+j<l.length by lia)];rfl) ()
def getD_at{l:ag}{i:Nat}(h:i<l.length):l[i]?=some (l.getD i 0):=by
 rw[aI,aH h];rfl
end
structure Sm (st st':SortSt):Prop where
 a:arrOf st'=arrOf st
 k:kindOf st'=kindOf st
 p:pendingOf st'=pendingOf st
 f:failedOf st'=failedOf st
def Sm.refl{st:SortSt}:Sm st st:=⟨rfl,rfl,rfl,rfl⟩
def Sm.trans{st:SortSt}(a:Sm st st')(b:Sm st' st''):Sm st st'':=⟨b.a.trans a.a,b.k.trans a.k,b.p.trans a.p,b.f.trans a.f⟩
meta abbrev G:=Option (Array Keyed)×Array Keyed×Nat×Nat×Nat×Nat×Nat
abbrev T3 (a b out:Array Keyed)(ia ib mg ac bc:Nat):StateT SortSt Sem (ForInStep G):=do
 let x <- elem' a ia
 if (ia+1+1 == a.size)=true then pure (ForInStep.done (some (out.push x++b.extract ib b.size++a.extract (ia+1) a.size),out.push x,ia+1,ib,mg,ac,bc))
 else if (decide (ac<7) && decide (bc<7))=true then pure (ForInStep.done (none,out.push x,ia+1,ib,mg,ac,bc))
 else pure (ForInStep.yield (none,out.push x,ia+1,ib,mg,ac,bc))
abbrev T2 (a b out:Array Keyed)(ia ib mg ac bc:Nat):StateT SortSt Sem (ForInStep G):=do
 let x <- elem' b ib
 if (ib+1 == b.size)=true then pure (ForInStep.done (some (out.push x++a.extract ia a.size++b.extract (ib+1) b.size),out.push x,ia,ib+1,mg,ac,bc))
 else
  let y <- elem' a ia
  let r <- l6 true y b (ib+1) (b.size-(ib+1)) 0
  match r with
  | some k=>
   if k>0 then
    if (ib+1+k == b.size)=true then pure (ForInStep.done (some (out.push x++b.extract (ib+1) (ib+1+k)++a.extract ia a.size++b.extract (ib+1+k) b.size),out.push x++b.extract (ib+1) (ib+1+k),ia,ib+1+k,mg,ac,k))
    else T3 a b (out.push x++b.extract (ib+1) (ib+1+k)) ia (ib+1+k) mg ac k
   else T3 a b (out.push x) ia (ib+1) mg ac k
  | _=>pure (ForInStep.done (some (out.push x++a.extract ia a.size++b.extract (ib+1) b.size),out.push x,ia,ib+1,mg,ac,bc))
abbrev T1 (a b out:Array Keyed)(ia ib mg ac bc:Nat):StateT SortSt Sem (ForInStep G):=do
 vU mg
 let x <- elem' b ib
 let r <- l6 false x a ia (a.size-ia) 0
 match r with
 | some k=>
  if k>0 then
   if (ia+k+1 == a.size)=true then pure (ForInStep.done (some (out++a.extract ia (ia+k)++b.extract ib b.size++a.extract (ia+k) a.size),out++a.extract ia (ia+k),ia+k,ib,mg,k,bc))
   else if (ia+k == a.size)=true then pure (ForInStep.done (some (out++a.extract ia (ia+k)++a.extract (ia+k) a.size++b.extract ib b.size),out++a.extract ia (ia+k),ia+k,ib,mg,k,bc))
   else T2 a b (out++a.extract ia (ia+k)) (ia+k) ib mg k bc
  else T2 a b out ia ib mg k bc
 | _=>pure (ForInStep.done (some (out++a.extract ia a.size++b.extract ib b.size),out,ia,ib,mg,ac,bc))
section
variable {prog:aj}{w:ah}{A:aA}{E:af->aC->Prop}{s:aC}{o:Ord}{N:Nat}{f:Nat->Keyed}{kd:SortKind}{st st0:SortSt}{X Y hs:ag}{ia ib:Nat}
def uF(h:Sm st0 st){Q:Unit->SortSt->Prop}(q:∀st',Sm st0 st'->Q Unit.unit st'):wpS (model prog w) A E s (vU m) Q st:=by
 rw[Nj];exact fu (q _ (h.trans ⟨rfl,rfl,rfl,rfl⟩))
abbrev On (o:Ord)(f:Nat->Keyed)(X Y:ag)(n:Nat)(hs:ag)(ia ib:Nat):Prop:=Mg o X Y hs ia ib/\ia+1<X.length/\ib<Y.length/\n<=ia+ib
abbrev G2 (o:Ord)(f:Nat->Keyed)(X Y:ag)(n:Nat)(st0:SortSt):ForInStep G->SortSt->Prop:=λr st'=>Sm st0 st'/\match r with
 | .done c=>(∃r z,c=(some r,z)/\Res o f X Y r)\/∃hs ia ib mg ac bc,c=(none,fa f hs,ia,ib,mg,ac,bc)/\On o f X Y n hs ia ib
 | .yield c=>∃hs ia ib mg ac bc,c=(none,fa f hs,ia,ib,mg,ac,bc)/\On o f X Y n hs ia ib
abbrev Top (o:Ord)(X Y:ag):Prop:=∀i x,X[i]?=some x->i+1=X.length->∀y∈Y,P o y x
def WZ{α β γ κ:Type}{g:α->κ}{O:α->β->γ->Prop}{T:κ->Prop}(k:∀a b c,O a b c->T (g a)):∀q,(∃a b c,q=g a/\O a b c)->T q:=by
 rintro _ ⟨a,b,c,rfl,h⟩;exact k a b c h
def WD{α β γ δ κ:Type}{S:Prop}{g:α->β->γ->δ->κ}{O:α->β->γ->δ->Prop}{T:κ->Prop}(k:S->∀a b c d,O a b c d->T (g a b c d)):∀q,(S/\∃a b c d,q=g a b c d/\O a b c d)->T q:=by
 rintro q ⟨s,a,b,c,d,rfl,o⟩;exact k s a b c d o
def WE{α β γ δ ε κ:Type}{S:Prop}{g:α->β->γ->δ->ε->κ}{O:α->β->γ->δ->ε->Prop}{T:κ->Prop}(k:S->∀a b c d e,O a b c d e->T (g a b c d e)):∀q,(S/\∃a b c d e,q=g a b c d e/\O a b c d e)->T q:=by
 rintro q ⟨s,a,b,c,d,e,rfl,o⟩;exact k s a b c d e o
def Wj{α β γ δ ε ζ κ:Type}{S:Prop}{g:α->β->γ->δ->ε->ζ->κ}{O:α->β->γ->δ->ε->ζ->Prop}{T:κ->Prop}(k:S->∀a b c d e f,O a b c d e f->T (g a b c d e f)):∀q,(S/\∃a b c d e f,q=g a b c d e f/\O a b c d e f)->T q:=by
 rintro q ⟨s,a,b,c,d,e,f,rfl,o⟩;exact k s a b c d e f o
def WC{α β γ δ ε κ ρ σ:Type}{S:Prop}{j:ρ->σ->κ}{R:ρ->Prop}{g:α->β->γ->δ->ε->κ}{O:α->β->γ->δ->ε->Prop}{T:κ->Prop}(k1:S->∀r z,R r->T (j r z))(k:S->∀a b c d e,O a b c d e->T (g a b c d e)):∀q,(S/\((∃r z,q=j r z/\R r)\/∃a b c d e,q=g a b c d e/\O a b c d e))->T q:=by
 rintro q ⟨s,⟨r,z,rfl,hr⟩|⟨a,b,c,d,e,rfl,o⟩⟩
 ·exact k1 s r z hr
 ·exact k s a b c d e o
def Wf{α β γ δ ε ζ κ ρ σ:Type}{S:Prop}{j:ρ->σ->κ}{R:ρ->Prop}{g:α->β->γ->δ->ε->ζ->κ}{O:α->β->γ->δ->ε->ζ->Prop}{T:κ->Prop}(k1:S->∀r z,R r->T (j r z))(k:S->∀a b c d e f,O a b c d e f->T (g a b c d e f)):∀q,(S/\((∃r z,q=j r z/\R r)\/∃a b c d e f,q=g a b c d e f/\O a b c d e f))->T q:=by
 rintro q ⟨s,⟨r,z,rfl,hr⟩|⟨a,b,c,d,e,f,rfl,o⟩⟩
 ·exact k1 s r z hr
 ·exact k s a b c d e f o
def uE(ab:Ab o N X Y)(tp:Top o X Y)(m:Mg o X Y hs ia ib)(h:ia+1=X.length):Res o f X Y (fa f hs++(fa f Y).extract ib Y.length++(fa f X).extract ia X.length):=
 m.P_ ab λx hx y hy=>by
  obtain⟨j,hj,ej⟩:=uA hx;have:=(aK.mp ej).1;exact tp j x ej () y (eK hy)
def OI(ab:Ab o N X Y)(tp:Top o X Y)(hm:Sm st0 st){n mg x:Nat}(m:Mg o X Y hs ia ib)(ha:ia+1<X.length)(hb:ib<Y.length)(hn:n<=ia+ib)(hx:X[ia]?=some x)(hy:Y[ib]?=some y)(hxy:P o x y) :
  wpS (model prog w) A E s (T3 (fa f X) (fa f Y) (fa f hs) ia ib mg ac bc) (G2 o f X Y n st0) st:=by
 unfold T3;rw[mH,mH];refine aV (j7 (l8 hx) ?_);have m2:=m.vX ab hx (qe ab.sb hy hxy);rw[uO];by_cases c:ia+1+1=X.length
 ·rw[aN (by rw[c];exact bQ _)];exact bf ⟨hm,.inl ⟨_,_,rfl,uE ab tp m2 c⟩⟩
 ·rw[aM (by simpa using c)];by_cases c2:(decide (ac<7) && decide (bc<7))=true
  ·rw[aN c2];exact bf ⟨hm,.inr ⟨_,_,_,_,_,_,rfl,m2,(),hb,()⟩⟩
  ·rw[aM c2];exact bf ⟨hm,⟨_,_,_,_,_,_,rfl,m2,(),hb,()⟩⟩
def OL(C:yV prog w A s o N f kd)(hk:kindOf st=kd)(ab:Ab o N X Y)(tp:Top o X Y)(hm:Sm st0 st){n mg x:Nat}(m:Mg o X Y hs ia ib)(ha:ia+1<X.length)(hb:ib<Y.length)(hn:n<=ia+ib)(hx:X[ia]?=some x)(hy:Y[ib]?=some y)(hxy:P o y x) :
  wpS (model prog w) A E s (T2 (fa f X) (fa f Y) (fa f hs) ia ib mg ac bc) (G2 o f X Y n st0) st:=by
 unfold T2;rw[mH,mH];f_are;have m2:=ab.wJ m hy (qe ab.sa hx hxy);rw[uO];by_cases c:ib+1=Y.length
 ·rw[aN (by rw[c];exact bQ _)];exact bf ⟨hm,.inl ⟨_,_,rfl,m2.fin ab λx _ y hy=>by rw[drop_nil ()]at hy;cases hy⟩⟩
 ·rw[aM (by simpa using c)];refine aV (j7 (l8 hx) ?_);refine aV (JM C hk (h:=λi=>Y.getD (ib+1+i) 0) (λi hi=>l8 (getD_at ())) (λi hi=>?_) (D5 ab.sb _ _ ()) () λk k1 k2 k3=>?_)
  ·have:=aZ (getD_at (l:=Y) (i:=ib+1+i) ());exact⟨ab.lt x (aZ hx) _ this,ab.nb _ this⟩
  ·dsimp only;have m3:=m2.xT ab hx k () λi z hi ez=>by
    have:=k2 i hi;rw[aI,ez]at this;exact this
   by_cases c2:k>0
   ·rw[aN c2,vE,show ib+1+k-(ib+1)=k by lia,oH];by_cases c3:ib+1+k=Y.length
    ·rw[aN (by rw[c3];exact bQ _)];exact bf ⟨hm,.inl ⟨_,_,rfl,m3.fin ab λx _ y hy=>by rw[drop_nil ()]at hy;cases hy⟩⟩
    ·rw[aM (by simpa using c3)];exact OI ab tp hm m3 ha () () hx (getD_at ()) (k3 k (aP _) ())
   ·rw[aM c2];have:k=0:=()
    subst this;exact OI ab tp hm m2 ha () () hx (getD_at ()) (k3 0 (aP _) ())
def UC(C:yV prog w A s o N f kd)(hk:kindOf st0=kd)(ab:Ab o N X Y)(tp:Top o X Y)(hm:Sm st0 st){n mg:Nat}(m:Mg o X Y hs ia ib)(ha:ia+1<X.length)(hb:ib<Y.length)(hn:n<=ia+ib) :
  wpS (model prog w) A E s (T1 (fa f X) (fa f Y) (fa f hs) ia ib mg ac bc) (G2 o f X Y n st0) st:=by
 unfold T1;rw[mH,mH];refine aV (uF hm λst1 hm1=>?_);have hy:=getD_at (l:=Y) (i:=ib) hb;have yB:=aZ hy;f_are;refine aV (LW C (by rw[hm1.k];exact hk) (h:=λi=>X.getD (ia+i) 0) (λi hi=>l8 (getD_at ())) (λi hi=>ab.lt _ (aZ (getD_at (l:=X) (i:=ia+i) ())) _ yB) (ab.nb _ yB) (D5 ab.sa _ _ ()) () λk k1 k2 k3=>?_);dsimp only;have m3:=m.xY ab hy k () λi z hi ez=>by
  have:=k2 i hi;rw[aI,ez]at this;exact this
 by_cases c2:k>0
 ·rw[aN c2,vE,show ia+k-ia=k by lia,oH];by_cases c3:ia+k+1=X.length
  ·rw[aN (by rw[c3];exact bQ _)];exact bf ⟨hm1,.inl ⟨_,_,rfl,uE ab tp m3 c3⟩⟩
  ·rw[aM (by simpa using c3)];by_cases c4:ia+k=X.length
   ·rw[aN (by rw[c4];exact bQ _)];exact bf ⟨hm1,.inl ⟨_,_,rfl,m3.fin ab λx hx y _=>by rw[drop_nil ()]at hx;cases hx⟩⟩
   ·rw[aM (by simpa using c4)];exact OL C (by rw[hm1.k];exact hk) ab tp hm1 m3 () hb () (getD_at ()) hy (k3 k (aP _) ())
 ·rw[aM c2];have:k=0:=()
  subst this;exact OL C (by rw[hm1.k];exact hk) ab tp hm1 m ha hb hn (getD_at ()) hy (k3 0 (aP _) ())
def Tv(C:yV prog w A s o N f kd)(hk:kindOf st=kd)(ab:Ab o N X Y)(tp:Top o X Y)(h1:1<=X.length)(hy0:Y[0]?=some y0)(h0:∀x∈X,P o y0 x)
  {Q:Array Keyed->SortSt->Prop} (q:∀out st',Sm st st'->Res o f X Y out->Q out st'):wpS (model prog w) A E s (xX (fa f X) (fa f Y)) Q st:=by
 rw[C_];kst_p;dsimp only;rw[mH,mH];have hY:=(aK.mp hy0).1;refine aV (j7 (l8 hy0) ?_);have m0:Mg o X Y [] 0 0:=⟨cY _,cY _,rfl,List.Pairwise.nil,(nofun),(nofun),(nofun)⟩;have m1:Mg o X Y [y0] 0 1:=ab.wJ m0 hy0 h0;have e1:(#[f y0]:Array Keyed)=fa f [y0]:=rfl;rw[e1];by_cases c:1=Y.length
 ·rw[aN (by rw[<- c];rfl)];exact bf (q _ _ Sm.refl (m1.fin ab λx _ y hy=>by rw[drop_nil ()]at hy;cases hy))
 ·rw[aM (by simpa using c)];by_cases c2:0+1=X.length
  ·rw[aN (by rw[<- c2];rfl)];exact bf (q _ _ Sm.refl (uE ab tp m1 c2))
  ·rw[aM (by simpa using c2)];refine aV (gJ ?_);refine aV (dY (cH (I:=λx c st'=>Sm st st'/\∃hs ia ib mg,c=(none,fa f hs,ia,ib,mg)/\On o f X Y (x+1) hs ia ib)
    (Q:=λc st'=>Sm st st'/\∃r z,c=(some r,z)/\Res o f X Y r) ?step ?fin ⟨Sm.refl,_,_,_,_,rfl,m1,(),(),aP _⟩) ?post)
   case post=>
    rintro c st' ⟨hm,r,z,rfl,hr⟩;exact bf (q _ _ hm hr)
   case fin=>
    rintro c st' ⟨hm,hs,ia,ib,mg,rfl,m,a1,a2,a3⟩;exfalso
    lia
   case step=>
    intro x c st' _ hx hh;revert hh;revert c;refine WD λhm hs ia ib mg ho=>?_;have m:=ho.1;have a1:=ho.2.1;have a2:=ho.2.2.1;have a3:=ho.2.2.2;clear ho;dsimp only;refine aV (dY (cH (I:=λx' c st''=>Sm st st''/\∃hs ia ib ac bc,c=(none,fa f hs,ia,ib,ac,bc)/\On o f X Y (x+1+min x' 1) hs ia ib)
     (Q:=λc st''=>Sm st st''/\((∃r z,c=(some r,z)/\Res o f X Y r)\/∃hs ia ib ac bc,c=(none,fa f hs,ia,ib,ac,bc)/\On o f X Y (x+1+1) hs ia ib)) ?istep ?ifin ⟨hm,_,_,_,_,_,rfl,m,a1,a2,a3⟩) ?ipost)
    case ifin=>
     rintro c st'' ⟨hm',hs,ia,ib,ac,bc,rfl,m,a1,a2,a3⟩;exact⟨hm',.inr ⟨_,_,_,_,_,rfl,m,a1,a2,()⟩⟩
    case istep=>
     intro x' c st'' _ hx' hh;revert hh;revert c;refine WE λhm' hs ia ib ac bc ho=>?_;have m:=ho.1;have a1:=ho.2.1;have a2:=ho.2.2.1;have a3:=ho.2.2.2;clear ho;dsimp only;have hy:=getD_at (l:=Y) (i:=ib) a2;have hxx:=getD_at (l:=X) (i:=ia) ();have yB:=aZ hy;have xA:=aZ hxx;have lt:=ab.lt _ xA _ yB;f_are;refine aV (j7 (l8 hxx) ?_);refine aV (yc C (by rw[hm'.k];exact hk) (ab.nb _ yB) (ab.na _ xA) ?_)
     cases hl:o.lt (Y.getD ib 0) (X.getD ia 0)
     ·dsimp[bA,bZ];refine aV (j7 (l8 hxx) ?_);have m2:=m.vX ab hxx (qe ab.sb hy (P.vW hl lt));rw[uO];by_cases c3:ia+1+1=X.length
      ·rw[aN (by rw[c3];exact bQ _)];exact bf ⟨hm',.inl ⟨_,_,rfl,uE ab tp m2 c3⟩⟩
      ·rw[aM (by simpa using c3)];by_cases c4:ac+1>=mg
       ·rw[aN c4];exact bf ⟨hm',.inr ⟨_,_,_,_,_,rfl,m2,(),a2,()⟩⟩
       ·rw[aM c4];exact bf ⟨hm',_,_,_,_,_,rfl,m2,(),a2,()⟩
     ·dsimp[di];f_are;have m2:=ab.wJ m hy (qe ab.sa hxx (P.of_lt hl));rw[uO];by_cases c3:ib+1=Y.length
      ·rw[aN (by rw[c3];exact bQ _)];exact bf ⟨hm',.inl ⟨_,_,rfl,m2.fin ab λx _ y hy=>by rw[drop_nil ()]at hy;cases hy⟩⟩
      ·rw[aM (by simpa using c3)];by_cases c4:bc+1>=mg
       ·rw[aN c4];exact bf ⟨hm',.inr ⟨_,_,_,_,_,rfl,m2,a1,(),()⟩⟩
       ·rw[aM c4];exact bf ⟨hm',_,_,_,_,_,rfl,m2,a1,(),()⟩
    case ipost=>
     intro c st'' hh;revert hh;revert c;refine WC (λhm' r z hr=>?_) λhm' hs ia ib ac bc ho=>?_
     ·dsimp only;exact bf ⟨hm',r,_,rfl,hr⟩
     ·have m:=ho.1;have a1:=ho.2.1;have a2:=ho.2.2.1;have a3:=ho.2.2.2;clear ho;dsimp only;kst_p;refine aV (dY (cH (I:=λx' c st''=>Sm st st''/\∃hs ia ib mg ac bc,c=(none,fa f hs,ia,ib,mg,ac,bc)/\On o f X Y (x+1+1) hs ia ib)
       (Q:=λc st''=>Sm st st''/\((∃r z,c=(some r,z)/\Res o f X Y r)\/∃hs ia ib mg ac bc,c=(none,fa f hs,ia,ib,mg,ac,bc)/\On o f X Y (x+1+1) hs ia ib)) ?jstep ?jfin ⟨hm',_,_,_,_,_,_,rfl,m,a1,a2,a3⟩) ?jpost)
      case jfin=>
       rintro c st3 ⟨hm3,hh⟩;exact⟨hm3,.inr hh⟩
      case jstep=>
       intro x' c st3 _ hx' hh;revert hh;revert c;refine Wj λhm3 hs ia ib mg ac bc ho=>?_;have m:=ho.1;have a1:=ho.2.1;have a2:=ho.2.2.1;have a3:=ho.2.2.2;clear ho;dsimp only;have t1:=λmg=>UC (n:=x+1+1) (mg:=mg) (ac:=ac) (bc:=bc) (E:=E) C hk ab tp hm3 m a1 a2 a3;unfold T1 T2 T3 at t1;rw[mH,mH]at t1;refine dY (Q:=G2 o f X Y (x+1+1) st) ?_ ?_
       ·by_cases c3:mg>1
        ·rw[aN c3];exact t1 (mg-1)
        ·rw[aM c3];exact t1 mg
       ·rintro r st4 ⟨hm4,hr⟩
        cases r with
        | done c=>exact⟨hm4,hr⟩
        | yield c=>exact⟨hm4,hr⟩
      case jpost=>
       intro c st3 hh;revert hh;revert c;refine Wf (λhm3 r z hr=>?_) λhm3 hs ia ib mg ac bc ho=>?_
       ·dsimp only;exact bf ⟨hm3,r,_,rfl,hr⟩
       ·have m:=ho.1;have a1:=ho.2.1;have a2:=ho.2.2.1;have a3:=ho.2.2.2;clear ho;dsimp only;refine aV (uF hm3 λst4 hm4=>?_);exact bf ⟨hm4,_,_,_,_,rfl,m,a1,a2,a3⟩
end
def Dq(a b:Array Keyed):yq a b=(do
 rule "list.sort.merge-hi"
 let all_:=a.size+b.size
 let end1 (acc:Array Keyed) (p q:Nat):=a.extract 0 p++b.extract 0 q++acc.reverse
 let end2 (acc:Array Keyed) (p q:Nat):=b.extract 0 q++a.extract 0 p++acc.reverse
 let mut p:=a.size-1
 let mut q:=b.size
 let mut acc:Array Keyed:=#[<- elem' a p]
 if p == 0 then return end1 acc p q
 if q == 1 then return end2 acc p q
 let mut mg:=gallopOf (<- get)
 for _ in [0:all_] do
  let mut ca:=0
  let mut cb:=0
  for _ in [0:all_] do
   let some won <- lt' (<- elem' b (q-1)) (<- elem' a (p-1))|return end1 acc p q
   if won then
    p:=p-1;acc:=acc.push (<- elem' a p);ca:=ca+1;cb:=0
    if p == 0 then return end1 acc p q
    if ca>=mg then break
   else
    q:=q-1;acc:=acc.push (<- elem' b q);cb:=cb+1;ca:=0
    if q == 1 then return end2 acc p q
    if cb>=mg then break
  rule "list.sort.gallop"
  mg:=mg+1
  for _ in [0:all_] do
   if mg>1 then mg:=mg-1
   vU mg
   let some t <- l6 false (<- elem' b (q-1)) a 0 p (p-1)|return end1 acc p q
   let k:=p-t
   ca:=k
   if k>0 then
    acc:=acc++(a.extract t p).reverse;p:=t
    if p == 0 then return end1 acc p q
   q:=q-1;acc:=acc.push (<- elem' b q)
   if q == 1 then return end2 acc p q
   let some t <- l6 true (<- elem' a (p-1)) b 0 q (q-1)|return end1 acc p q
   let k:=q-t
   cb:=k
   if k>0 then
    acc:=acc++(b.extract t q).reverse;q:=t
    if q == 1 then return end2 acc p q
    if q == 0 then return end1 acc p q
   p:=p-1;acc:=acc.push (<- elem' a p)
   if p == 0 then return end1 acc p q
   if ca<7 && cb<7 then break
  mg:=mg+1
  vU mg
 unsupported "internal:list.sort.merge-bound"):=rfl
section
variable {o:Ord}{N:Nat}{f:Nat->Keyed}{A B ts:ag}{na nb:Nat}
def Le(l:ag):(fa f l).reverse=fa f l.reverse:=by
 unfold fa;rw[List.reverse_toArray,List.map_reverse]
def wK(l:ag)(i:Nat):(fa f l).extract 0 i=fa f (l.take i):=by
 rw[vE,iY,jm]
structure Mh (o:Ord)(A B ts:ag)(na nb:Nat):Prop where
 la:na<=A.length
 lb:nb<=B.length
 len:ts.length+na+nb=A.length+B.length
 so:ts.Pairwise (P o)
 mem:∀x∈ts,x∈A\/x∈B
 ua:∀y∈A.take na,∀x∈ts,P o y x
 ub:∀y∈B.take nb,∀x∈ts,P o y x
def uK{l:ag}{y:Nat}(h:y∈l.take i):∃j,j<i/\l[j]?=some y:=by
 obtain⟨k,hk⟩:=eG h;have:=(aK.mp hk).1;rw[bB]at this;rw[dh ()]at hk;exact⟨k,(),hk⟩
def take_one{l:ag}{i x:Nat}(h:l[i]?=some x):l.take (i+1)=l.take i++[x]:=by
 obtain⟨h1,e1⟩:=aK.mp h;rw[cE h1,e1]
def Mh.vX(ab:Ab o N A B)(m:Mh o A B ts (na+1) nb){x:Nat}(hx:A[na]?=some x)(h:∀y∈B.take nb,P o y x):Mh o A B (x::ts) na nb:=by
 have la:=m.la;have len:=m.len;have ht:=take_one hx;have xin:x∈A.take (na+1):=by rw[ht];exact a_ _ (bh.mpr rfl)
 refine⟨(),m.lb,by rw[bE];lia,cF.mpr ⟨λy hy=>m.ua x xin y hy,m.so⟩,λz hz=>?_,λy hy z hz=>?_,λy hy z hz=>?_⟩
 ·rcases bL.mp hz with rfl|z'
  ·exact .inl (aZ hx)
  ·exact m.mem z z'
 ·rcases bL.mp hz with rfl|z'
  ·obtain⟨j,hj,ej⟩:=uK hy;exact rj ab.sa ej hx hj
  ·exact m.ua y (by rw[ht];exact bN _ hy) z z'
 ·rcases bL.mp hz with rfl|z'
  ·exact h y hy
  ·exact m.ub y hy z z'
def Mh.Jo(ab:Ab o N A B)(m:Mh o A B ts na (nb+1)){x:Nat}(hx:B[nb]?=some x)(h:∀y∈A.take na,P o y x):Mh o A B (x::ts) na nb:=by
 have lb:=m.lb;have len:=m.len;have ht:=take_one hx;have xin:x∈B.take (nb+1):=by rw[ht];exact a_ _ (bh.mpr rfl)
 refine⟨m.la,(),by rw[bE];lia,cF.mpr ⟨λy hy=>m.ub x xin y hy,m.so⟩,λz hz=>?_,λy hy z hz=>?_,λy hy z hz=>?_⟩
 ·rcases bL.mp hz with rfl|z'
  ·exact .inr (aZ hx)
  ·exact m.mem z z'
 ·rcases bL.mp hz with rfl|z'
  ·exact h y hy
  ·exact m.ua y hy z z'
 ·rcases bL.mp hz with rfl|z'
  ·obtain⟨j,hj,ej⟩:=uK hy;exact rj ab.sb ej hx hj
  ·exact m.ub y (by rw[ht];exact bN _ hy) z z'
def p_{l:ag}(h:l.Pairwise (P o)){i x:Nat}(hx:l[i]?=some x)(hxy:P o x y):∀z∈l.take (i+1),P o z y:=λz hz=>by
 obtain⟨j,hj,ej⟩:=uK hz;by_cases c:j=i
 ·subst c;rw[hx]at ej;cases ej;exact hxy
 ·exact(rj h ej hx ()).trans hxy
theorem Mh.xY(ab:Ab o N A B){mb:Nat}(hy:B[mb]?=some y):∀(k:Nat) {ts:ag}{at_:Nat},Mh o A B ts (at_+k) (mb+1)->(∀i x,at_<=i->i<at_+k->A[i]?=some x->P o y x)->Mh o A B ((A.drop at_).take k++ts) at_ (mb+1)
 | 0,ts,at_,m,_=>by rw[fP];exact m
 | k+1,ts,at_,m,h=>by
  have la:=m.la;have hx:A[at_+k]?=some (A[at_+k]'()):=aH _;have m2:=Mh.vX ab (show Mh o A B ts (at_+k+1) (mb+1)from m) hx (p_ ab.sb hy (h _ _ () () hx));have m3:=Mh.xY ab hy k m2 λi x h1 h2=>h i x h1 ();rw[take_snoc hx,bJ];exact m3
theorem Mh.xT(ab:Ab o N A B){ma:Nat}(hy:A[ma]?=some y):∀(k:Nat) {ts:ag}{at_:Nat},Mh o A B ts (ma+1) (at_+k)->(∀i x,at_<=i->i<at_+k->B[i]?=some x->P o y x)->Mh o A B ((B.drop at_).take k++ts) (ma+1) at_
 | 0,ts,at_,m,_=>by rw[fP];exact m
 | k+1,ts,at_,m,h=>by
  have lb:=m.lb;have hx:B[at_+k]?=some (B[at_+k]'()):=aH _;have m2:=Mh.Jo ab (show Mh o A B ts (ma+1) (at_+k+1)from m) hx (p_ ab.sa hy (h _ _ () () hx));have m3:=Mh.xT ab hy k m2 λi x h1 h2=>h i x h1 ();rw[take_snoc hx,bJ];exact m3
def wj{l:ag}(h:l.Pairwise (P o))(i:Nat):(l.take i).Pairwise (P o):=h.sublist (List.take_sublist ..)
def Mh.fin(ab:Ab o N A B)(m:Mh o A B ts na nb)(h:∀x∈A.take na,∀y∈B.take nb,P o x y):Res o f A B ((fa f A).extract 0 na++(fa f B).extract 0 nb++fa f ts):=by
 rw[wK,wK,oH,oH];have la:=m.la;have lb:=m.lb;have len:=m.len;refine⟨_,rfl,by rw[aU,aU,bB,bB];lia,?_,λx hx=>?_⟩
 ·rw[cg,cg];refine⟨⟨wj ab.sa _,wj ab.sb _,h⟩,m.so,λx hx y hy=>?_⟩
  rcases bq.mp hx with z|z
  ·exact m.ua x z y hy
  ·exact m.ub x z y hy
 ·rcases bq.mp hx with z|z
  ·rcases bq.mp z with z|z
   ·exact .inl (bI z)
   ·exact .inr (bI z)
  ·exact m.mem x z
def Mh.P_(ab:Ab o N A B)(m:Mh o A B ts na nb)(h:∀x∈A.take na,∀y∈B.take nb,P o y x):Res o f A B ((fa f B).extract 0 nb++(fa f A).extract 0 na++fa f ts):=by
 rw[wK,wK,oH,oH];have la:=m.la;have lb:=m.lb;have len:=m.len;refine⟨_,rfl,by rw[aU,aU,bB,bB];lia,?_,λx hx=>?_⟩
 ·rw[cg,cg];refine⟨⟨wj ab.sb _,wj ab.sa _,λx hx y hy=>h y hy x hx⟩,m.so,λx hx y hy=>?_⟩
  rcases bq.mp hx with z|z
  ·exact m.ub x z y hy
  ·exact m.ua x z y hy
 ·rcases bq.mp hx with z|z
  ·rcases bq.mp z with z|z
   ·exact .inr (bI z)
   ·exact .inl (bI z)
  ·exact m.mem x z
abbrev Ut (o:Ord)(X Y:ag):Prop:=∀y,Y[0]?=some y->∀x∈X,P o y x
def sj(ab:Ab o N A B)(bt:Ut o A B)(m:Mh o A B ts na nb)(h:nb=1):Res o f A B ((fa f B).extract 0 nb++(fa f A).extract 0 na++fa f ts):=
 m.P_ ab λx hx y hy=>by
  obtain⟨j,hj,ej⟩:=uK hy;have:j=0:=()
  subst this;exact bt y ej x (bI hx)
def Mh.Bj(ab:Ab o N A B)(m:Mh o A B ts na nb)(h:na=0\/nb=0):Res o f A B ((fa f A).extract 0 na++(fa f B).extract 0 nb++fa f ts):=
 m.fin ab λx hx y hy=>by
  rcases h with rfl|rfl
  ·rw[fP]at hx;cases hx
  ·rw[fP]at hy;cases hy
def wG(l:ag)(x:Nat):(fa f l.reverse).push (f x)=fa f (x::l).reverse:=by rw[uO,dR]
def I0(l m:ag):fa f l.reverse++(fa f m).reverse=fa f (m++l).reverse:=by rw[Le,oH,iQ]
def sY(l:ag):(fa f l.reverse).reverse=fa f l:=by rw[Le,iC]
end
meta abbrev H:=Option (Array Keyed)×Nat×Nat×Array Keyed×Nat×Nat×Nat
abbrev U3 (a b out:Array Keyed)(na nb mg ac bc:Nat):StateT SortSt Sem (ForInStep H):=do
 let x <- elem' a (na-1)
 if (na-1 == 0)=true then pure (ForInStep.done (some (a.extract 0 (na-1)++b.extract 0 nb++(out.push x).reverse),na-1,nb,out.push x,mg,ac,bc))
 else if (decide (ac<7) && decide (bc<7))=true then pure (ForInStep.done (none,na-1,nb,out.push x,mg,ac,bc))
 else pure (ForInStep.yield (none,na-1,nb,out.push x,mg,ac,bc))
abbrev U2 (a b out:Array Keyed)(na nb mg ac bc:Nat):StateT SortSt Sem (ForInStep H):=do
 let x <- elem' b (nb-1)
 if (nb-1 == 1)=true then pure (ForInStep.done (some (b.extract 0 (nb-1)++a.extract 0 na++(out.push x).reverse),na,nb-1,out.push x,mg,ac,bc))
 else
  let y <- elem' a (na-1)
  let r <- l6 true y b 0 (nb-1) (nb-1-1)
  match r with
  | some t=>
   if nb-1-t>0 then
    if (t == 1)=true then pure (ForInStep.done (some (b.extract 0 t++a.extract 0 na++(out.push x++(b.extract t (nb-1)).reverse).reverse),na,t,out.push x++(b.extract t (nb-1)).reverse,mg,ac,nb-1-t))
    else if (t == 0)=true then pure (ForInStep.done (some (a.extract 0 na++b.extract 0 t++(out.push x++(b.extract t (nb-1)).reverse).reverse),na,t,out.push x++(b.extract t (nb-1)).reverse,mg,ac,nb-1-t))
    else U3 a b (out.push x++(b.extract t (nb-1)).reverse) na t mg ac (nb-1-t)
   else U3 a b (out.push x) na (nb-1) mg ac (nb-1-t)
  | _=>pure (ForInStep.done (some (a.extract 0 na++b.extract 0 (nb-1)++(out.push x).reverse),na,nb-1,out.push x,mg,ac,bc))
abbrev U1 (a b out:Array Keyed)(na nb mg ac bc:Nat):StateT SortSt Sem (ForInStep H):=do
 vU mg
 let x <- elem' b (nb-1)
 let r <- l6 false x a 0 na (na-1)
 match r with
 | some t=>
  if na-t>0 then
   if (t == 0)=true then pure (ForInStep.done (some (a.extract 0 t++b.extract 0 nb++(out++(a.extract t na).reverse).reverse),t,nb,out++(a.extract t na).reverse,mg,na-t,bc))
   else U2 a b (out++(a.extract t na).reverse) t nb mg (na-t) bc
  else U2 a b out na nb mg (na-t) bc
 | _=>pure (ForInStep.done (some (a.extract 0 na++b.extract 0 nb++out.reverse),na,nb,out,mg,ac,bc))
section
variable {prog:aj}{w:ah}{A:aA}{E:af->aC->Prop}{s:aC}{o:Ord}{N:Nat}{f:Nat->Keyed}{kd:SortKind}{st st0:SortSt}{X Y ts:ag}{na nb:Nat}
abbrev Oh (o:Ord)(X Y:ag)(n:Nat)(ts:ag)(na nb:Nat):Prop:=Mh o X Y ts na nb/\1<=na/\2<=nb/\na+nb+n<=X.length+Y.length
abbrev H2 (o:Ord)(f:Nat->Keyed)(X Y:ag)(n:Nat)(st0:SortSt):ForInStep H->SortSt->Prop:=λr st'=>Sm st0 st'/\match r with
 | .done c=>(∃r z,c=(some r,z)/\Res o f X Y r)\/∃ts na nb mg ac bc,c=(none,na,nb,fa f ts.reverse,mg,ac,bc)/\Oh o X Y n ts na nb
 | .yield c=>∃ts na nb mg ac bc,c=(none,na,nb,fa f ts.reverse,mg,ac,bc)/\Oh o X Y n ts na nb
def N_(ab:Ab o N X Y)(hm:Sm st0 st){n mg x:Nat}(m:Mh o X Y ts (na+1) (nb+1))(hb:1<=nb)(hn:na+1+(nb+1)+n<=X.length+Y.length)(hx:X[na]?=some x)(hy:Y[nb]?=some y)(hxy:P o y x) :
  wpS (model prog w) A E s (U3 (fa f X) (fa f Y) (fa f ts.reverse) (na+1) (nb+1) mg ac bc) (H2 o f X Y n st0) st:=by
 unfold U3;rw[show na+1-1=na by lia];refine aV (j7 (l8 hx) ?_);have m2:=m.vX ab hx (p_ ab.sb hy hxy);rw[wG,sY];by_cases c:na=0
 ·rw[aN (by rw[c];rfl)];exact bf ⟨hm,.inl ⟨_,_,rfl,m2.Bj ab (.inl c)⟩⟩
 ·rw[aM (by simpa using c)];by_cases c2:(decide (ac<7) && decide (bc<7))=true
  ·rw[aN c2];exact bf ⟨hm,.inr ⟨_,_,_,_,_,_,rfl,m2,(),(),()⟩⟩
  ·rw[aM c2];exact bf ⟨hm,⟨_,_,_,_,_,_,rfl,m2,(),(),()⟩⟩
def Oo(C:yV prog w A s o N f kd)(hk:kindOf st=kd)(ab:Ab o N X Y)(bt:Ut o X Y)(hm:Sm st0 st){n mg x:Nat}(m:Mh o X Y ts (na+1) (nb+1))(hb:1<=nb)(hn:na+1+(nb+1)+n<=X.length+Y.length)(hx:X[na]?=some x)(hy:Y[nb]?=some y)(hxy:P o x y) :
  wpS (model prog w) A E s (U2 (fa f X) (fa f Y) (fa f ts.reverse) (na+1) (nb+1) mg ac bc) (H2 o f X Y n st0) st:=by
 unfold U2;rw[show nb+1-1=nb by lia,show na+1-1=na by lia];f_are;have m2:=m.Jo ab hy (p_ ab.sa hx hxy);have lb:=m.lb;rw[wG,sY];by_cases c:nb=1
 ·rw[aN (by rw[c];rfl)];exact bf ⟨hm,.inl ⟨_,_,rfl,sj ab bt m2 c⟩⟩
 ·rw[aM (by simpa using c)];refine aV (j7 (l8 hx) ?_);refine aV (JM C hk (h:=λi=>Y.getD (0+i) 0) (λi hi=>l8 (getD_at ())) (λi hi=>?_) (D5 ab.sb _ _ ()) () λt t1 t2 t3=>?_)
  ·have:=aZ (getD_at (l:=Y) (i:=0+i) ());exact⟨ab.lt x (aZ hx) _ this,ab.nb _ this⟩
  ·dsimp only;have m3:=Mh.xT ab hx (nb-t) (at_:=t) (by rw[show t+(nb-t)=nb by lia];exact m2) λi z hi1 hi2 ez=>by
    have:=t3 i hi1 ();rw[fj,aI (l:=Y),ez]at this;exact this
   by_cases c2:nb-t>0
   ·rw[aN c2,vE Y t nb,I0,sY];by_cases c3:t=1
    ·rw[aN (by rw[c3];rfl)];exact bf ⟨hm,.inl ⟨_,_,rfl,sj ab bt m3 c3⟩⟩
    ·rw[aM (by simpa using c3)];by_cases c4:t=0
     ·rw[aN (by rw[c4];rfl)];exact bf ⟨hm,.inl ⟨_,_,rfl,m3.Bj ab (.inr c4)⟩⟩
     ·rw[aM (by simpa using c4)];obtain⟨u,rfl⟩:∃u,t=u+1:=⟨t-1,()⟩;have:=t2 u ();rw[fj]at this;exact N_ ab hm m3 () () hx (getD_at ()) this
   ·rw[aM c2];have:t=nb:=()
    subst this;obtain⟨u,rfl⟩:∃u,t=u+1:=⟨t-1,()⟩;have:=t2 u ();rw[fj]at this;exact N_ ab hm m2 () () hx (getD_at ()) this
def SD(C:yV prog w A s o N f kd)(hk:kindOf st0=kd)(ab:Ab o N X Y)(bt:Ut o X Y)(hm:Sm st0 st){n mg:Nat}(m:Mh o X Y ts (na+1) (nb+1))(hb:1<=nb)(hn:na+1+(nb+1)+n<=X.length+Y.length) :
  wpS (model prog w) A E s (U1 (fa f X) (fa f Y) (fa f ts.reverse) (na+1) (nb+1) mg ac bc) (H2 o f X Y n st0) st:=by
 unfold U1;refine aV (uF hm λst1 hm1=>?_);have lb:=m.lb;have la:=m.la;rw[show nb+1-1=nb by lia,show na+1-1=na by lia];have hy:=getD_at (l:=Y) (i:=nb) ();have yB:=aZ hy;f_are;refine aV (LW C (by rw[hm1.k];exact hk) (h:=λi=>X.getD (0+i) 0) (λi hi=>l8 (getD_at ())) (λi hi=>ab.lt _ (aZ (getD_at (l:=X) (i:=0+i) ())) _ yB) (ab.nb _ yB) (D5 ab.sa _ _ ()) () λt t1 t2 t3=>?_);dsimp only;have m3:=Mh.xY ab hy (na+1-t) (at_:=t) (by rw[show t+(na+1-t)=na+1 by lia];exact m) λi z hi1 hi2 ez=>by
  have:=t3 i hi1 ();rw[fj,aI (l:=X),ez]at this;exact this
 by_cases c2:na+1-t>0
 ·rw[aN c2,vE X t (na+1),I0,sY];by_cases c4:t=0
  ·rw[aN (by rw[c4];rfl)];exact bf ⟨hm1,.inl ⟨_,_,rfl,m3.Bj ab (.inl c4)⟩⟩
  ·rw[aM (by simpa using c4)];obtain⟨u,rfl⟩:∃u,t=u+1:=⟨t-1,()⟩;have:=t2 u ();rw[fj]at this;exact Oo C (by rw[hm1.k];exact hk) ab bt hm1 m3 hb () (getD_at ()) hy this
 ·rw[aM c2];have:t=na+1:=()
  subst this;have:=t2 na ();rw[fj]at this;exact Oo C (by rw[hm1.k];exact hk) ab bt hm1 m hb hn (getD_at ()) hy this
def Ul(C:yV prog w A s o N f kd)(hk:kindOf st=kd)(ab:Ab o N X Y)(tp:Top o X Y)(bt:Ut o X Y)(h1:1<=X.length)(h2:1<=Y.length)
  {Q:Array Keyed->SortSt->Prop} (q:∀out st',Sm st st'->Res o f X Y out->Q out st'):wpS (model prog w) A E s (yq (fa f X) (fa f Y)) Q st:=by
 rw[Dq];kst_p;dsimp only;rw[mH,mH];have hx0:=getD_at (l:=X) (i:=X.length-1) ();refine aV (j7 (l8 hx0) ?_);have m0:Mh o X Y [] (X.length-1+1) Y.length:=⟨(),aP _,by rw[fD];lia,List.Pairwise.nil,(nofun),(λ_ _ _ h=>nomatch h),(λ_ _ _ h=>nomatch h)⟩;have m1:=m0.vX ab hx0 λy hy=>tp _ _ hx0 () y (bI hy);obtain⟨x0,ex0⟩:∃x0,x0=X.getD (X.length-1) 0:=⟨_,rfl⟩;rw[<- ex0]at m1 ⊢;have e1:(#[f x0]:Array Keyed)=fa f [x0].reverse:=rfl;rw[e1,sY];by_cases c:X.length-1=0
 ·rw[aN (by rw[c];rfl)];exact bf (q _ _ Sm.refl (m1.Bj ab (.inl c)))
 ·rw[aM (by simpa using c)];by_cases c2:Y.length=1
  ·rw[aN (by rw[c2];rfl)];exact bf (q _ _ Sm.refl (sj ab bt m1 c2))
  ·rw[aM (by simpa using c2)];refine aV (gJ ?_);refine aV (dY (cH (I:=λx c st'=>Sm st st'/\∃ts na nb mg,c=(none,na,nb,fa f ts.reverse,mg)/\Oh o X Y (x+1) ts na nb)
    (Q:=λc st'=>Sm st st'/\∃r z,c=(some r,z)/\Res o f X Y r) ?step ?fin ⟨Sm.refl,_,_,_,_,rfl,m1,(),(),()⟩) ?post)
   case post=>
    rintro c st' ⟨hm,r,z,rfl,hr⟩;exact bf (q _ _ hm hr)
   case fin=>
    rintro c st' ⟨hm,ts,na,nb,mg,rfl,m,a1,a2,a3⟩;exfalso
    lia
   case step=>
    intro x c st' _ hx hh;revert hh;revert c;refine WD λhm ts na nb mg ho=>?_;have m:=ho.1;have a1:=ho.2.1;have a2:=ho.2.2.1;have a3:=ho.2.2.2;clear ho;dsimp only;refine aV (dY (cH (I:=λx' c st''=>Sm st st''/\∃ts na nb ac bc,c=(none,na,nb,fa f ts.reverse,ac,bc)/\Oh o X Y (x+1+min x' 1) ts na nb)
     (Q:=λc st''=>Sm st st''/\((∃r z,c=(some r,z)/\Res o f X Y r)\/∃ts na nb ac bc,c=(none,na,nb,fa f ts.reverse,ac,bc)/\Oh o X Y (x+1+1) ts na nb)) ?istep ?ifin ⟨hm,_,_,_,_,_,rfl,m,a1,a2,a3⟩) ?ipost)
    case ifin=>
     rintro c st'' ⟨hm',ts,na,nb,ac,bc,rfl,m,a1,a2,a3⟩;exact⟨hm',.inr ⟨_,_,_,_,_,rfl,m,a1,a2,()⟩⟩
    case istep=>
     intro x' c st'' _ hx' hh;revert hh;revert c;refine WE λhm' ts na nb ac bc ho=>?_;have m:=ho.1;have a1:=ho.2.1;have a2:=ho.2.2.1;have a3:=ho.2.2.2;clear ho;dsimp only;obtain⟨u,rfl⟩:∃u,na=u+1:=⟨na-1,()⟩;obtain⟨v,rfl⟩:∃v,nb=v+1:=⟨nb-1,()⟩;have la:=m.la;have lb:=m.lb;rw[show u+1-1=u by lia,show v+1-1=v by lia];have hy:=getD_at (l:=Y) (i:=v) ();have hxx:=getD_at (l:=X) (i:=u) ();have yB:=aZ hy;have xA:=aZ hxx;have lt:=ab.lt _ xA _ yB;f_are;refine aV (j7 (l8 hxx) ?_);refine aV (yc C (by rw[hm'.k];exact hk) (ab.nb _ yB) (ab.na _ xA) ?_)
     cases hl:o.lt (Y.getD v 0) (X.getD u 0)
     ·dsimp[bA,bZ];f_are;have m2:=m.Jo ab hy (p_ ab.sa hxx (P.vW hl lt));rw[wG,sY];by_cases c3:v=1
      ·rw[aN (by rw[c3];rfl)];exact bf ⟨hm',.inl ⟨_,_,rfl,sj ab bt m2 c3⟩⟩
      ·rw[aM (by simpa using c3)];by_cases c4:bc+1>=mg
       ·rw[aN c4];exact bf ⟨hm',.inr ⟨_,_,_,_,_,rfl,m2,a1,(),()⟩⟩
       ·rw[aM c4];exact bf ⟨hm',_,_,_,_,_,rfl,m2,a1,(),()⟩
     ·dsimp[di];refine aV (j7 (l8 hxx) ?_);have m2:=m.vX ab hxx (p_ ab.sb hy (P.of_lt hl));rw[wG,sY];by_cases c3:u=0
      ·rw[aN (by rw[c3];rfl)];exact bf ⟨hm',.inl ⟨_,_,rfl,m2.Bj ab (.inl c3)⟩⟩
      ·rw[aM (by simpa using c3)];by_cases c4:ac+1>=mg
       ·rw[aN c4];exact bf ⟨hm',.inr ⟨_,_,_,_,_,rfl,m2,(),a2,()⟩⟩
       ·rw[aM c4];exact bf ⟨hm',_,_,_,_,_,rfl,m2,(),a2,()⟩
    case ipost=>
     intro c st'' hh;revert hh;revert c;refine WC (λhm' r z hr=>?_) λhm' ts na nb ac bc ho=>?_
     ·dsimp only;exact bf ⟨hm',r,_,rfl,hr⟩
     ·have m:=ho.1;have a1:=ho.2.1;have a2:=ho.2.2.1;have a3:=ho.2.2.2;clear ho;dsimp only;kst_p;refine aV (dY (cH (I:=λx' c st''=>Sm st st''/\∃ts na nb mg ac bc,c=(none,na,nb,fa f ts.reverse,mg,ac,bc)/\Oh o X Y (x+1+1) ts na nb)
       (Q:=λc st''=>Sm st st''/\((∃r z,c=(some r,z)/\Res o f X Y r)\/∃ts na nb mg ac bc,c=(none,na,nb,fa f ts.reverse,mg,ac,bc)/\Oh o X Y (x+1+1) ts na nb)) ?jstep ?jfin ⟨hm',_,_,_,_,_,_,rfl,m,a1,a2,a3⟩) ?jpost)
      case jfin=>
       rintro c st3 ⟨hm3,hh⟩;exact⟨hm3,.inr hh⟩
      case jstep=>
       intro x' c st3 _ hx' hh;revert hh;revert c;refine Wj λhm3 ts na nb mg ac bc ho=>?_;have m:=ho.1;have a1:=ho.2.1;have a2:=ho.2.2.1;have a3:=ho.2.2.2;clear ho;dsimp only;obtain⟨u,rfl⟩:∃u,na=u+1:=⟨na-1,()⟩;obtain⟨v,rfl⟩:∃v,nb=v+1:=⟨nb-1,()⟩;have t1:=λmg=>SD (n:=x+1+1) (mg:=mg) (ac:=ac) (bc:=bc) (E:=E) C hk ab bt hm3 m () a3;unfold U1 U2 U3 at t1;refine dY (Q:=H2 o f X Y (x+1+1) st) ?_ ?_
       ·by_cases c3:mg>1
        ·rw[aN c3];exact t1 (mg-1)
        ·rw[aM c3];exact t1 mg
       ·rintro r st4 ⟨hm4,hr⟩
        cases r with
        | done c=>exact⟨hm4,hr⟩
        | yield c=>exact⟨hm4,hr⟩
      case jpost=>
       intro c st3 hh;revert hh;revert c;refine Wf (λhm3 r z hr=>?_) λhm3 ts na nb mg ac bc ho=>?_
       ·dsimp only;exact bf ⟨hm3,r,_,rfl,hr⟩
       ·have m:=ho.1;have a1:=ho.2.1;have a2:=ho.2.2.1;have a3:=ho.2.2.2;clear ho;dsimp only;refine aV (uF hm3 λst4 hm4=>?_);exact bf ⟨hm4,_,_,_,_,rfl,m,a1,a2,a3⟩
end
def De(i:Nat):mergeAt' i=(do
 let s <- get
 let(some (a1,n1,pw),some (a2,n2,_)):=((pendingOf s)[i]?,(pendingOf s)[i+1]?)|unsupported "internal:list.sort.pending"
 set (setPending s (((pendingOf s).setIfInBounds i (a1,n1+n2,pw)).eraseIdxIfInBounds (i+1)))
 let some k <- l6 false (<- elem' (arrOf s) a2) (arrOf s) a1 n1 0|return false
 let(a1,n1):=(a1+k,n1-k)
 if n1 == 0 then return true
 let some n2 <- l6 true (<- elem' (arrOf s) (a1+n1-1)) (arrOf s) a2 n2 (n2-1)|return false
 if n2 == 0 then return true
 let x:=(arrOf s).extract a1 a2
 let y:=(arrOf s).extract a2 (a2+n2)
 let both <- if n1<=n2 then xX x y else yq x y
 modify λs=>setArr s (both.toList.zipIdx.foldl (λa (p,j)=>a.setIfInBounds (a1+j) p) (arrOf s))
 return (failedOf (<- get)).isNone):=rfl
abbrev seg (g:Nat->Nat)(a n:Nat):ag:=(List.range n).map λi=>g (a+i)
section
variable {o:Ord}{N:Nat}{f:Nat->Keyed}{g:Nat->Nat}
def nO(g:Nat->Nat)(a n:Nat):(seg g a n).length=n:=by unfold seg;rw[aL,cO]
def qx{a n i:Nat}(h:i<n):(seg g a n)[i]?=some (g (a+i)):=by unfold seg;rw[aQ,b7 h];rfl
def oX{a n x:Nat}(h:x∈seg g a n):∃i,i<n/\x=g (a+i):=by
 obtain⟨i,hi,rfl⟩:=bH.mp h;exact⟨i,cU.mp hi,rfl⟩
def IE{a n:Nat}(h:So o g a (a+n)):(seg g a n).Pairwise (P o):=by
 rw[dI];intro i j hi hj hij;rw[nO]at hi hj;have e1:=qx (g:=g) (a:=a) hi;have e2:=qx (g:=g) (a:=a) hj;rw[aH (by rw[nO];exact hi)]at e1;rw[aH (by rw[nO];exact hj)]at e2;rw[aW e1,aW e2];exact h _ _ () () ()
def F2{arr:Array Keyed}(hs:arr.size=N)(hg:∀i,i<N->arr[i]?=some (f (g i))){a n:Nat}(h:a+n<=N):arr.extract a (a+n)=fa f (seg g a n):=by
 apply Array.ext_getElem?;intro i;rw[HE,Array.getElem?_extract];by_cases c:i<n
 ·rw[aN (),qx c,hg _ ()];rfl
 ·rw[aM (),bG (by rw[nO];lia)];rfl
theorem zl{α:Type}(b:Nat):∀(l:List α) (n:Nat) (arr:Array α),((l.zipIdx n).foldl (λa (p,j)=>a.setIfInBounds (b+j) p) arr).size=arr.size
 | [],_,_=>rfl
 | x::l,n,arr=>by
  rw[jf,jt,zl b l (n+1)];exact Array.size_setIfInBounds ..
theorem BU{α:Type}(b:Nat):∀(l:List α) (n:Nat) (arr:Array α) (k:Nat),b+n+l.length<=arr.size->((l.zipIdx n).foldl (λa (p,j)=>a.setIfInBounds (b+j) p) arr)[k]?=if b+n<=k/\k<b+n+l.length then l[k-(b+n)]? else arr[k]?
 | [],n,arr,k,h=>by rw[aM (by rw[fD];lia)];rfl
 | x::l,n,arr,k,h=>by
  rw[bE]at h;rw[jf,jt,BU b l (n+1) _ k (by rw[Array.size_setIfInBounds];lia),bE];by_cases c:k=b+n
  ·subst c;rw[aM (),aN (),fV];show(arr.setIfInBounds (b+n) x)[b+n]?=some x;rw[Array.getElem?_setIfInBounds_self_of_lt ()]
  ·by_cases c2:b+n<=k/\k<b+n+(l.length+1)
   ·rw[aN (),aN c2,show k-(b+n)=k-(b+(n+1))+1 by lia,List.getElem?_cons_succ]
   ·rw[aM (),aM c2]
    skip
    rw[Array.getElem?_setIfInBounds_ne ()]
end
section
variable {prog:aj}{w:ah}{A:aA}{E:af->aC->Prop}{s:aC}{o:Ord}{N:Nat}{f:Nat->Keyed}{kd:SortKind}{g:Nat->Nat}{st:SortSt}
def Nm{Q:PUnit->SortSt->Prop}(h:Q ⟨⟩ st'):wpS (model prog w) A E s (set st':StateT SortSt Sem PUnit) Q st:=by
 unfold wpS;rw[StateT.run_set];exact aJ ⟨rfl,h⟩
def UH(C:yV prog w A s o N f kd){l1:List (Nat×Nat×Nat)}{sa na nb pw pv:Nat}(h:Sg N f kd g (l1++(sa,na,pw)::(sa+na,nb,pv)::l2).toArray st)(ha:1<=na)(hb:1<=nb)(hN:sa+na+nb<=N)
  (c1:Cl g sa (sa+na)) (s1:So o g sa (sa+na)) (c2:Cl g (sa+na) (sa+na+nb)) (s2:So o g (sa+na) (sa+na+nb))
  {Q:Bool->SortSt->Prop} (q:∀g' st',Sg N f kd g' (l1++(sa,na+nb,pw)::l2).toArray st'->Rn o g g' sa (sa+na+nb)->Q true st'):wpS (model prog w) A E s (mergeAt' l1.length) Q st:=by
 rw[De];refine aV (gJ ?_);have e1:(pendingOf st)[l1.length]?=some (sa,na,pw):=by rw[h.pend];simp
 have e2:(pendingOf st)[l1.length+1]?=some (sa+na,nb,pv):=by rw[h.pend];simp
 have e3:((pendingOf st).setIfInBounds l1.length (sa,na+nb,pw)).eraseIdxIfInBounds (l1.length+1)=(l1++(sa,na+nb,pw)::l2).toArray:=by
  rw[h.pend,List.setIfInBounds_toArray,eU];congr 1;rw[dc _ _ (aP _),fV,List.eraseIdx_append_of_length_le (),show l1.length+1-l1.length=1 by lia];rfl
 rw[e1,e2];dsimp only;rw[e3];refine aV (Nm ?_);have h':Sg N f kd g (l1++(sa,na+nb,pw)::l2).toArray (setPending st (l1++(sa,na+nb,pw)::l2).toArray):=⟨h.size,h.get,h.lt,h.kind,h.failed,rfl⟩;obtain⟨st1,hst1⟩:∃st1,st1=setPending st (l1++(sa,na+nb,pw)::l2).toArray:=⟨_,rfl⟩;rw[<- hst1]at h' ⊢;refine aV (j7 (h.get (sa+na) ()) ?_);have b0:=c2 (sa+na) () ();refine aV (LW C h'.kind (h:=λi=>g (sa+i)) (λi hi=>h.get _ ()) (λi hi=>by have:=c1 (sa+i) () ();lia) () (λi j _ a b=>s1 _ _ () () ()) () λk k1 k2 k3=>?_);dsimp only;by_cases cz:na-k=0
 ·rw[aN (by rw[cz];rfl)];refine bf (q g st1 h' ⟨λ_ _=>rfl,λi a b=>?_,λi j a b c=>?_⟩)
  ·by_cases d:i<sa+na
   ·have:=c1 i a d;lia
   ·have:=c2 i () b;lia
  ·by_cases d:j<sa+na
   ·exact s1 i j a b d
   ·by_cases d2:sa+na<=i
    ·exact s2 i j d2 b c
    ·have r:=k2 (i-sa) ();rw[show sa+(i-sa)=i by lia]at r;by_cases d3:j=sa+na
     ·subst d3;exact r
     ·exact r.trans (s2 _ _ () () c)
 ·rw[aM (by simpa using cz)];have hlast:sa+k+(na-k)-1=sa+na-1:=()
  rw[hlast];refine aV (j7 (h.get (sa+na-1) ()) ?_);have a0:=c1 (sa+na-1) () ();refine aV (JM C h'.kind (h:=λi=>g (sa+na+i)) (λi hi=>h.get _ ()) (λi hi=>by have:=c2 (sa+na+i) () ();lia) (λi j _ a b=>s2 _ _ () () ()) () λt t1 t2 t3=>?_);dsimp only;by_cases cy:t=0
  ·rw[aN (by rw[cy];rfl)];subst cy;refine bf (q g st1 h' ⟨λ_ _=>rfl,λi a b=>?_,λi j a b c=>?_⟩)
   ·by_cases d:i<sa+na
    ·have:=c1 i a d;lia
    ·have:=c2 i () b;lia
   ·by_cases d:j<sa+na
    ·exact s1 i j a b d
    ·by_cases d2:sa+na<=i
     ·exact s2 i j d2 b c
     ·have r:=t3 (j-(sa+na)) () ();rw[show sa+na+(j-(sa+na))=j by lia]at r;by_cases d3:i=sa+na-1
      ·subst d3;exact r
      ·exact(s1 i (sa+na-1) a () ()).trans r
  ·rw[aM (by simpa using cy)];have x1:(arrOf st).extract (sa+k) (sa+na)=fa f (seg g (sa+k) (na-k)):=by
    have:=F2 (f:=f) (g:=g) h.size h.get (a:=sa+k) (n:=na-k) ()
    rwa [show sa+k+(na-k)=sa+na by lia]at this
   have x2:(arrOf st).extract (sa+na) (sa+na+t)=fa f (seg g (sa+na) t):=F2 h.size h.get ();rw[x1,x2];have sx:So o g (sa+k) (sa+k+(na-k)):=λi j a b c=>s1 i j () b ();have sy:So o g (sa+na) (sa+na+t):=λi j a b c=>s2 i j a b ();have ab:Ab o N (seg g (sa+k) (na-k)) (seg g (sa+na) t):={
    sa:=IE sx
    sb:=IE sy
    lt:=λx hx y hy=>by
     obtain⟨i,hi,rfl⟩:=oX hx;obtain⟨j,hj,rfl⟩:=oX hy;have:=c1 (sa+k+i) () ();have:=c2 (sa+na+j) () ()
     lia
    nb:=λy hy=>by
     obtain⟨j,hj,rfl⟩:=oX hy;exact h.lt _ ()
    na:=λy hy=>by
     obtain⟨j,hj,rfl⟩:=oX hy;exact h.lt _ ()}
   have tp:Top o (seg g (sa+k) (na-k)) (seg g (sa+na) t):=λi x hx hi y hy=>by
    rw[nO]at hi;rw[qx ()]at hx
    cases hx
    obtain⟨j,hj,rfl⟩:=oX hy;rw[show sa+k+i=sa+na-1 by lia];exact t2 j hj
   have bt:Ut o (seg g (sa+k) (na-k)) (seg g (sa+na) t):=λy hy x hx=>by
    rw[qx ()]at hy
    cases hy
    obtain⟨i,hi,rfl⟩:=oX hx;have:=k3 (k+i) () ()
    rwa [<- iA]at this
   have fin:∀out st2,Sm st1 st2->Res o f (seg g (sa+k) (na-k)) (seg g (sa+na) t) out->wpS (model prog w) A E s (do
     modify λs=>setArr s (out.toList.zipIdx.foldl (λa (p,j)=>a.setIfInBounds (sa+k+j) p) (arrOf s))
     let s <- get
     pure (failedOf s).isNone) Q st2:=by
    rintro out st2 hm ⟨hs,rfl,hlen,hso,hmem⟩;rw[nO,nO]at hlen;refine aV (fu (aV (gJ ?_)));have hf:(failedOf st2)=none:=by rw[hm.f];exact h'.failed
    have hmx:∀j x,hs[j]?=some x->(∃i,i<na-k/\x=g (sa+k+i))\/∃i,i<t/\x=g (sa+na+i):=λj x e=>by
     rcases hmem x (aZ e)with z|z
     ·exact .inl (oX z)
     ·exact .inr (oX z)
    have ez:(fa f hs).toList=hs.map f:=by unfold fa;rfl
    have hsz:sa+k+0+(hs.map f).length<=(arrOf st2).size:=by rw[aL,hlen,hm.a,h'.size];lia
    refine bf ?_
    skip
    rw[hf];refine q (λi=>if sa+k<=i/\i<sa+k+(na-k+t)then hs.getD (i-(sa+k)) 0 else g i) _ ⟨?_,λi hi=>?_,λi hi=>?_,by rw[show kindOf (setArr st2 _)=kindOf st2 from rfl,hm.k];exact h'.kind,hf,by rw[show pendingOf (setArr st2 _)=pendingOf st2 from rfl,hm.p];exact h'.pend⟩ ?_
    ·have:=zl (sa+k) (fa f hs).toList 0 (arrOf st2);rw[hm.a,h'.size]at this;rw[<- this,<- hm.a]
    ·skip
     rw[ez,BU _ _ _ _ _ hsz,aL,hlen,hm.a];by_cases d:sa+k<=i/\i<sa+k+(na-k+t)
     ·rw[aN (),aN d,aQ,Nat.add_zero,getD_at (l:=hs) ()];rfl
     ·rw[aM (),aM d];exact h'.get i hi
    ·by_cases d:sa+k<=i/\i<sa+k+(na-k+t)
     ·rw[aN d]
      rcases hmx _ _ (getD_at (l:=hs) (i:=i-(sa+k)) ())with⟨j,hj,e⟩|⟨j,hj,e⟩
      ·rw[e];exact h.lt _ ()
      ·rw[e];exact h.lt _ ()
     ·rw[aM d];exact h.lt i hi
    ·have gin:∀i,sa+k<=i->i<sa+na+t->(if sa+k<=i/\i<sa+k+(na-k+t)then hs.getD (i-(sa+k)) 0 else g i)=hs.getD (i-(sa+k)) 0:=λi a b=>aN ();have gout:∀i,i<sa+k\/sa+na+t<=i->(if sa+k<=i/\i<sa+k+(na-k+t)then hs.getD (i-(sa+k)) 0 else g i)=g i:=λi a=>aM ();refine⟨λi hi=>gout i (),λi a b=>?_,λi j a b c=>?_⟩
     ·by_cases d:sa+k<=i/\i<sa+na+t
      ·skip
       rw[gin i d.1 d.2]
       rcases hmx _ _ (getD_at (l:=hs) (i:=i-(sa+k)) ())with⟨j,hj,e⟩|⟨j,hj,e⟩
       ·rw[e];have:=c1 (sa+k+j) () ();lia
       ·rw[e];have:=c2 (sa+na+j) () ();lia
      ·skip
       rw[gout i ()];by_cases d2:i<sa+na
       ·have:=c1 i a d2;lia
       ·have:=c2 i () b;lia
     ·skip
      by_cases d1:i<sa+k
      ·rw[gout i (.inl d1)];have r:=k2 (i-sa) ();rw[show sa+(i-sa)=i by lia]at r;by_cases d2:j<sa+k
       ·rw[gout j (.inl d2)];exact s1 i j a b ()
       ·by_cases d3:j<sa+na+t
        ·rw[gin j () d3]
         rcases hmx _ _ (getD_at (l:=hs) (i:=j-(sa+k)) ())with⟨v,hv,e⟩|⟨v,hv,e⟩
         ·rw[e];exact s1 _ _ a () ()
         ·rw[e];by_cases d4:v=0
          ·subst d4;exact r
          ·exact r.trans (s2 _ _ () () ())
        ·rw[gout j ()];exact r.trans (s2 _ _ () () c)
      ·by_cases d2:i<sa+na+t
       ·rw[gin i () d2];by_cases d3:j<sa+na+t
        ·rw[gin j () d3];exact rj hso (getD_at ()) (getD_at ()) ()
        ·rw[gout j ()]
         rcases hmx _ _ (getD_at (l:=hs) (i:=i-(sa+k)) ())with⟨v,hv,e⟩|⟨v,hv,e⟩
         ·rw[e];have r:=t3 (j-(sa+na)) () ();rw[show sa+na+(j-(sa+na))=j by lia]at r;by_cases d4:sa+k+v=sa+na-1
          ·rw[d4];exact r
          ·exact(s1 _ (sa+na-1) () () ()).trans r
         ·rw[e];exact s2 _ _ () () c
       ·rw[gout i (),gout j ()];exact s2 i j () b c
   by_cases cl:na-k<=t
   ·rw[aN cl];exact aV (Tv C h'.kind ab tp (by rw[nO];lia) (qx ()) (bt _ (qx ())) fin)
   ·rw[aM cl];exact aV (Ul C h'.kind ab tp bt (by rw[nO];lia) (by rw[nO];lia) fin)
end
meta abbrev pr (x:Nat×Nat×Nat):Nat×Nat:=(x.1,x.2.1)
abbrev qj (o:Ord)(g:Nat->Nat):List (Nat×Nat)->Nat->Nat->Prop
 | [],a,b=>a=b
 | x::l,a,b=>x.1=a/\1<=x.2/\Cl g a (a+x.2)/\So o g a (a+x.2)/\qj o g l (a+x.2) b
abbrev PA (o:Ord)(g:Nat->Nat)(p:Array (Nat×Nat×Nat))(b:Nat):Prop:=qj o g (p.toList.map pr) 0 b
section
variable {o:Ord}{g:Nat->Nat}
def qj.le:∀{l:List (Nat×Nat)}{a b:Nat},qj o g l a b->a+l.length<=b
 | [],a,b,h=>by have h:a=b:=h;rw[fD];lia
 | x::l,a,b,h=>by
  have:=h.2.2.2.2.le;have:=h.2.1;rw[bE];lia
def qj.congr{g':Nat->Nat}:∀{l:List (Nat×Nat)}{a b:Nat},qj o g l a b->(∀i,a<=i->i<b->g' i=g i)->qj o g' l a b
 | [],a,b,h,_=>h
 | x::l,a,b,h,e=>by
  have hb:=h.2.2.2.2.le;refine⟨h.1,h.2.1,λi h1 h2=>?_,λi j h1 h2 h3=>?_,h.2.2.2.2.congr λi h1 h2=>e i () h2⟩
  ·rw[e i h1 ()];exact h.2.2.1 i h1 h2
  ·rw[e i h1 (),e j () ()];exact h.2.2.2.1 i j h1 h2 h3
theorem qj.app:∀{l m:List (Nat×Nat)}{a b:Nat},qj o g (l++m) a b ↔ ∃c,qj o g l a c/\qj o g m c b
 | [],m,a,b=>⟨λh=>⟨a,rfl,h⟩,λ⟨c,h1,h2⟩=>by have h1:a=c:=h1;subst h1;exact h2⟩
 | x::l,m,a,b=>by
  constructor
  ·rintro⟨h1,h2,h3,h4,h5⟩;obtain⟨c,h6,h7⟩:=qj.app.mp h5;exact⟨c,⟨h1,h2,h3,h4,h6⟩,h7⟩
  ·rintro⟨c,⟨h1,h2,h3,h4,h5⟩,h6⟩;exact⟨h1,h2,h3,h4,qj.app.mpr ⟨c,h5,h6⟩⟩
def Q8{p:Array (Nat×Nat×Nat)}(h:i+1<p.size):∃l1 x y l2,p=(l1++x::y::l2).toArray/\l1.length=i:=by
 have h':i+1<p.toList.length:=h;refine⟨p.toList.take i,p.toList[i],p.toList[i+1],p.toList.drop (i+2),?_,by rw[bB];lia⟩;apply Array.toList_inj.mp
 skip
 conv=>lhs;rw[<- cA i p.toList,bS (show i<p.toList.length by lia),bS h']
end
section
variable {prog:aj}{w:ah}{A:aA}{E:af->aC->Prop}{s:aC}{o:Ord}{N:Nat}{f:Nat->Keyed}{kd:SortKind}{g:Nat->Nat}{p:Array (Nat×Nat×Nat)}{st:SortSt}
def Ct(C:yV prog w A s o N f kd)(h:Sg N f kd g p st){lo:Nat}(hp:PA o g p lo)(hlo:lo<=N)(hi:i+1<p.size)
  {Q:Bool->SortSt->Prop} (q:∀g' p' st',Sg N f kd g' p' st'->PA o g' p' lo->p'.size+1=p.size->(∀k,lo<=k->g' k=g k)->Q true st'):wpS (model prog w) A E s (mergeAt' i) Q st:=by
 obtain⟨l1,⟨sa,na,pw⟩,⟨sb,nb,pv⟩,l2,rfl,rfl⟩:=Q8 hi;unfold PA at hp;rw[show(l1++(sa,na,pw)::(sb,nb,pv)::l2).toArray.toList=l1++(sa,na,pw)::(sb,nb,pv)::l2 from rfl,bP]at hp;obtain⟨c,h1,h2⟩:=qj.app.mp hp;obtain⟨e1,n1,cl1,so1,e2,n2,cl2,so2,rest⟩:=h2;have e1:sa=c:=e1;subst e1;have e2:sb=sa+na:=e2;subst e2;have l2b:=rest.le;have n1:1<=na:=n1;have n2:1<=nb:=n2;have l2b:sa+na+nb<=lo:=by
  have:sa+na+nb+(List.map pr l2).length<=lo:=l2b
  lia
 refine UH C h n1 n2 () cl1 so1 cl2 so2 λg' st' h' R=>q g' _ st' h' ?_ (by simp;lia) λk hk=>R.out k ();unfold PA;rw[show(l1++(sa,na+nb,pw)::l2).toArray.toList=l1++(sa,na+nb,pw)::l2 from rfl,bP];refine qj.app.mpr ⟨sa,h1.congr λi a b=>R.out i (),rfl,by show 1<=na+nb;lia,?_,?_,?_⟩
 ·show Cl g' sa (sa+(na+nb));rw[<- iA];exact R.cl
 ·show So o g' sa (sa+(na+nb));rw[<- iA];exact R.so
 ·skip
  rw[<- iA];exact rest.congr λi a b=>R.out i (.inr a)
def zq{p:Array (Nat×Nat×Nat)}{lo:Nat}{u:Nat×Nat×Nat->Nat×Nat×Nat}(hu:∀x,pr (u x)=pr x)(h:PA o g p lo):PA o g (p.modify i u) lo:=by
 unfold PA at h ⊢;have:(p.modify i u).toList.map pr=p.toList.map pr:=by
  rw[Array.toList_modify];apply bW;intro k;rw[aQ,aQ,List.getElem?_modify]
  cases p.toList[k]? with
  | none=>rfl
  | some x=>
   show some (pr (if i=k then u x else x))=some (pr x);by_cases c:i=k
   ·rw[aN c,hu x]
   ·rw[aM c]
 rw[this];exact h
def wA{p:Array (Nat×Nat×Nat)}{lo n v:Nat}(h:PA o g p lo)(hn:1<=n)(c:Cl g lo (lo+n))(d:So o g lo (lo+n)):PA o g (p.push (lo,n,v)) (lo+n):=by
 unfold PA at h ⊢;rw[Array.toList_push,bP];exact qj.app.mpr ⟨lo,h,rfl,hn,c,d,rfl⟩
def Sg.Sl(h:Sg N f kd g p st)(p':Array (Nat×Nat×Nat)):Sg N f kd g p' (setPending st p'):=⟨h.size,h.get,h.lt,h.kind,h.failed,rfl⟩
def NT(C:yV prog w A s o N f kd)(h:Sg N f kd (λi=>i) #[] st)(hN:1<=N)
  {Q:Unit->SortSt->Prop} (q:∀g' p' st',Sg N f kd g' p' st'->Cl g' 0 N->So o g' 0 N->Q Unit.unit st'):wpS (model prog w) A E s sortRuns' Q st:=by
 rw[sortRuns'_eq];refine aV (gJ ?_);dsimp only;rw[h.size];refine aV (dY (cH
  (I:=λx c st'=>∃lo g p,c=(none,lo)/\lo<=N/\(x<=lo\/lo=N)/\Sg N f kd g p st'/\PA o g p lo/\(∀i,lo<=i->g i=i))
  (Q:=λc st'=>∃g p,c=(none,N)/\Sg N f kd g p st'/\PA o g p N) ?step ?fin ⟨0,_,_,rfl,cY _,.inl (aP _),h,rfl,λ_ _=>rfl⟩) ?post)
 case fin=>
  rintro c st' ⟨lo,g,p,rfl,h1,h2,h3,h4,h5⟩;have:lo=N:=()
  subst this;exact⟨g,p,rfl,h3,h4⟩
 case step=>
  intro x c st' _ hx hh;revert hh;revert c;refine WZ λlo g p hh=>?_;have h1:=hh.1;have h2:=hh.2.1;have h3:=hh.2.2.1;have h4:=hh.2.2.2.1;have h5:=hh.2.2.2.2;clear hh;dsimp only;by_cases hge:lo>=N
  ·rw[aN hge];have:lo=N:=()
   subst this;exact bf ⟨g,p,rfl,h3,h4⟩
  ·rw[aM hge];refine aV (xF C h3 () () (λi a b=>h5 i a) λm g1 st1 s1 m1 m2 R1=>?_);dsimp only;by_cases c2:m<minRun' N N 0
   ·rw[aN c2];kst_p;refine aV (QH C s1 () m1 () R1 (λi a b=>h5 i ()) λg2 st2 s2 R2=>?_);rw[aM ⋯];have n2:1<=min (N-lo) (minRun' N N 0):=()
    have n3:lo+min (N-lo) (minRun' N N 0)<=N:=()
    refine aV (gJ ?_);rw[s2.pend];have hp2:=qj.congr h4 λi a b=>R2.out i (.inl b)
    cases e:p.back? with
    | none=>
     dsimp only;refine aV (fu (bf ⟨_,_,_,rfl,n3,(),s2.Sl _,?_,λi hi=>by rw[R2.out i (.inr hi),h5 i ()]⟩));rw[s2.pend];exact wA hp2 n2 R2.cl R2.so
    | some y=>
     obtain⟨y1,y2,y3⟩:=y;dsimp only;refine aV (dY (cH (I:=λ_ c st'=>c=(none,Unit.unit)/\∃g' p',Sg N f kd g' p' st'/\PA o g' p' lo/\(∀k,lo<=k->g' k=g2 k)) (Q:=λc st'=>c=(none,Unit.unit)/\∃g' p',Sg N f kd g' p' st'/\PA o g' p' lo/\(∀k,lo<=k->g' k=g2 k)) ?vstep (λ_ _ h=>h) ⟨rfl,_,_,s2,hp2,λ_ _=>rfl⟩) ?vpost)
     case vstep=>
      rintro x c st' _ hx ⟨rfl,g',p',h1,h2,h3⟩;refine aV (gJ ?_);rw[h1.pend];by_cases c:p'.size>1
      ·rw[aN c]
       cases e:p'[p'.size-2]? with
       | none=>exact bf ⟨rfl,g',p',h1,h2,h3⟩
       | some y=>
        obtain⟨y1,y2,y3⟩:=y;dsimp only;split
        ·exact bf ⟨rfl,g',p',h1,h2,h3⟩
        ·refine aV (Ct C h1 h2 () () λg3 p3 st3 s3 q3 _ z3=>?_);exact bf ⟨rfl,g3,p3,s3,q3,λk hk=>by rw[z3 k hk,h3 k hk]⟩
      ·rw[aM c];exact bf ⟨rfl,g',p',h1,h2,h3⟩
     case vpost=>
      rintro c st' ⟨rfl,g',p',h1,h2,h3⟩;dsimp only;refine aV (fu (aV (fu (bf ⟨_,_,_,rfl,n3,(),(h1.Sl _).Sl _,?_,λi hi=>by rw[h3 i (),R2.out i (.inr hi),h5 i ()]⟩))))
      skip
      rw[h1.pend];exact wA (zq (λ_=>rfl) h2) n2 (λi a b=>by rw[h3 i a];exact R2.cl i a b) (λi j a b c=>by rw[h3 i a,h3 j ()];exact R2.so i j a b c)
   ·rw[aM c2];have n3:lo+m<=N:=()
    obtain⟨g2,hg2⟩:∃g2,g2=g1:=⟨_,rfl⟩;rw[<- hg2]at R1 s1;have R2:=R1;have s2:=s1;have n2:=m1;refine aV (gJ ?_);rw[s2.pend];have hp2:=qj.congr h4 λi a b=>R2.out i (.inl b)
    cases e:p.back? with
    | none=>
     dsimp only;refine aV (fu (bf ⟨_,_,_,rfl,n3,(),s2.Sl _,?_,λi hi=>by rw[R2.out i (.inr hi),h5 i ()]⟩));rw[s2.pend];exact wA hp2 n2 R2.cl R2.so
    | some y=>
     obtain⟨y1,y2,y3⟩:=y;dsimp only;refine aV (dY (cH (I:=λ_ c st'=>c=(none,Unit.unit)/\∃g' p',Sg N f kd g' p' st'/\PA o g' p' lo/\(∀k,lo<=k->g' k=g2 k)) (Q:=λc st'=>c=(none,Unit.unit)/\∃g' p',Sg N f kd g' p' st'/\PA o g' p' lo/\(∀k,lo<=k->g' k=g2 k)) ?vstep (λ_ _ h=>h) ⟨rfl,_,_,s2,hp2,λ_ _=>rfl⟩) ?vpost)
     case vstep=>
      rintro x c st' _ hx ⟨rfl,g',p',h1,h2,h3⟩;refine aV (gJ ?_);rw[h1.pend];by_cases c:p'.size>1
      ·rw[aN c]
       cases e:p'[p'.size-2]? with
       | none=>exact bf ⟨rfl,g',p',h1,h2,h3⟩
       | some y=>
        obtain⟨y1,y2,y3⟩:=y;dsimp only;split
        ·exact bf ⟨rfl,g',p',h1,h2,h3⟩
        ·refine aV (Ct C h1 h2 () () λg3 p3 st3 s3 q3 _ z3=>?_);exact bf ⟨rfl,g3,p3,s3,q3,λk hk=>by rw[z3 k hk,h3 k hk]⟩
      ·rw[aM c];exact bf ⟨rfl,g',p',h1,h2,h3⟩
     case vpost=>
      rintro c st' ⟨rfl,g',p',h1,h2,h3⟩;dsimp only;refine aV (fu (aV (fu (bf ⟨_,_,_,rfl,n3,(),(h1.Sl _).Sl _,?_,λi hi=>by rw[h3 i (),R2.out i (.inr hi),h5 i ()]⟩))))
      skip
      rw[h1.pend];exact wA (zq (λ_=>rfl) h2) n2 (λi a b=>by rw[h3 i a];exact R2.cl i a b) (λi j a b c=>by rw[h3 i a,h3 j ()];exact R2.so i j a b c)
 case post=>
  rintro c st' ⟨g,p,rfl,h1,h2⟩;dsimp only;refine aV (dY (cH
   (I:=λx c st''=>c=(none,Unit.unit)/\∃g p,Sg N f kd g p st''/\PA o g p N/\(p.size<=1\/p.size+x<=N))
   (Q:=λc st''=>c=(none,Unit.unit)/\∃g p,Sg N f kd g p st''/\PA o g p N/\p.size<=1) ?fstep ?ffin ⟨rfl,g,p,h1,h2,.inr ?finit⟩) ?fpost)
  case finit=>
   have:=qj.le h2;rw[aL]at this;show p.toList.length+0<=N
   lia
  case ffin=>
   rintro c st'' ⟨rfl,g,p,h1,h2,h3⟩;exact⟨rfl,g,p,h1,h2,()⟩
  case fstep=>
   rintro x c st'' _ hx ⟨rfl,g,p,h1,h2,h3⟩;refine aV (gJ ?_);rw[h1.pend];by_cases c:p.size<=1
   ·rw[aN c];exact bf ⟨rfl,g,p,h1,h2,c⟩
   ·rw[aM c];have il:∀(d:Prop) [Decidable d],(if d then p.size-2-1 else p.size-2)+1<p.size:=λd _=>by
     by_cases hd:d
     ·rw[aN hd];lia
     ·rw[aM hd];lia
    refine aV (Ct C h1 h2 (aP _) (il _) λg' p' st3 s3 q3 z3 _=>?_);exact bf ⟨rfl,g',p',s3,q3,()⟩
  case fpost=>
   rintro c st'' ⟨rfl,g,p,h1,h2,h3⟩;dsimp only;refine bf ?_;unfold PA at h2;have h3:p.toList.length<=1:=h3
   match hl:p.toList,h3 with
   | [],_=>
    rw[hl]at h2;have:0=N:=h2
    lia
   | [x],_=>
    rw[hl]at h2;obtain⟨e1,e2,e3,e4,e5⟩:=h2;have e5:0+x.2.1=N:=e5;have e3:Cl g 0 (0+x.2.1):=e3;have e4:So o g 0 (0+x.2.1):=e4;rw[e5]at e3 e4;exact q g p st'' h1 e3 e4
end
meta abbrev GW (h:aq)(a:ak)(vs:ap):aq:=((h.update a (Obj.mapSeq λ_=>#[])).push (seqObj "tuple" vs.toArray 0)).push (seqObj "list" #[] 0)
def NO{h:aq}{a:ak}(hb:b≠a)(hlt:b<h.objs.size):(GW h a vs).get? b=h.get? b:=by
 rw[gK _ _ _ (by rw[size_push',ir];exact bD (fK hlt)),
  gK _ _ _ (by rw[ir];exact bD hlt),Heap.get?_update_ne _ _ _ _ hb]
meta abbrev vv (vs:ap)(i:Nat):Keyed:=(vs.getD i .none,vs.getD i .none)
def zip_get(vs:ap){i:Nat}(h:i<vs.length):(vs.toArray.zip vs.toArray)[i]?=some (vv vs i):=by
 have e:vs[i]?=some (vs.getD i .none):=by rw[aI,aH h];rfl
 rw[Array.getElem?_zip_eq_some];exact⟨by rw[fH];exact e,by rw[fH];exact e⟩
section
variable {prog:aj}{w:ah}{A:aA}{E:af->aC->Prop}{s:aC}{o:Ord}{kd:SortKind}
def GH{a:ak}{vs:ap}{n:Nat}{P:PySem.Fin->aC->Prop}(hL:s.heap.get? a=some (seqObj "list" vs.toArray n))(hsz:vs.length<=sizeLine)
  (hkk:2<=vs.length->∀Q:SortKind->aC->Prop,Q kd { s with heap:=GW s.heap a vs }->wpAny (model prog w) A (keyKind' vs.toArray) Q E { s with heap:=GW s.heap a vs })
  (C:2<=vs.length->yV prog w A { s with heap:=GW s.heap a vs } o vs.length (vv vs) kd)
  (h:∀g,Cl g 0 vs.length->So o g 0 vs.length->P (.done (.ret .none)) { s with heap:=sortedHeap s.heap a vs ((List.range vs.length).map λi=>vs.getD (g i) .none).toArray }) :
  wpAny (model prog w) A (Builtin.«list.sort» ⟨[.ref a],[]⟩) P E s:=by
 rw[list_sort_plain];have lta:a<s.heap.objs.size:=aX hL;refine aG (listItems_at hL rfl ?_);refine aG (listUpdate_at hL rfl ?_ (by rw[aS];exact hsz) (cY _));obtain⟨ep,hL1⟩:∃ep,(s.heap.update a (Obj.mapSeq λ_=>#[])).get? a=some (seqObj "list" #[] ep):=⟨_,get?_update_seq hL (λ_=>#[])⟩;refine aG (seqEpoch_at hL1 rfl ?_);refine aG (wpAny_newTuple ?_);refine aG (wpAny_newList ?_);refine dg ?_;have hL6:(GW s.heap a vs).get? a=some (seqObj "list" #[] ep):=by
  rw[gK _ _ _ (by rw[size_push',ir];exact bD (fK lta)),gK _ _ _ (by rw[ir];exact bD lta)];exact hL1
 skip
 dsimp only;have hz:vs.toArray.size=vs.length:=by simp
 have getE:∀i,i<vs.length->vs[i]?=some (vs.getD i .none):=λi hi=>by rw[aI,aH hi];rfl
 have Py:∀(arr:Array Keyed) (g:Nat->Nat),arr.size=vs.length->(∀i,i<vs.length->arr[i]?=some (vv vs (g i)))->arr.map (·.2)=((List.range vs.length).map λi=>vs.getD (g i) .none).toArray:=λarr g h1 two=>by
  apply Array.ext_getElem?;intro i;have e0:((List.range vs.length).map λi=>vs.getD (g i) Value.none).toArray[i]?=((List.range vs.length).map λi=>vs.getD (g i) Value.none)[i]?:=fH ..;rw[Array.getElem?_map,e0,aQ];by_cases c:i<vs.length
  ·rw[two i c,b7 c];rfl
  ·rw[dF (),bG (by rw[cO];lia)];rfl
 by_cases two:vs.toArray.size<2
 ·rw[aN two,aN two];refine aG (aJ ?_);rw[StateT.run_pure];refine aG (aJ ?_);dsimp only;refine aG (seqEpoch_at hL6 rfl ?_);have oe:=Py (vs.toArray.zip vs.toArray) (λi=>i) (by rw[jz,hz];lia) λi hi=>zip_get vs hi;refine aG (listUpdate_at hL6 rfl ?_ (by simp) (hsz2:=by rw[size_map];show(vs.toArray.zip vs.toArray).size<=_;rw[jz,hz];lia));dsimp[bne_self_eq_false,bA,bZ];refine aJ ?_;have:=h (λi=>i) (λi a b=>⟨a,b⟩) (λi j a b c=>());rw[<- oe]at this;exact this
 ·rw[aM two,aM two];have h2':2<=vs.length:=()
  refine aG (hkk h2' _ ?_);refine aG (fh (NT (f:=vv vs) (N:=vs.length) (C h2') (st:=SortSt.mk' kd (vs.toArray.zip vs.toArray) #[] 7 none)
   (Q:=λ_ st'=>∃g p,Sg vs.length (vv vs) kd g p st'/\Cl g 0 vs.length/\So o g 0 vs.length)
   ⟨by show(vs.toArray.zip vs.toArray).size=_;rw[jz,hz];lia,λi hi=>zip_get vs hi,λi hi=>hi,rfl,rfl,rfl⟩ () λg' p' st' a1 a2 a3=>⟨g',p',a1,a2,a3⟩) ?_ λ_ _ e=>e)
  rintro⟨⟨⟩,st'⟩ s' ⟨rfl,g,p,hS,hc,hso⟩;dsimp only;refine aG (seqEpoch_at hL6 rfl ?_);have oe:=Py (arrOf st') g hS.size hS.get;refine aG (listUpdate_at hL6 rfl ?_ (by simp) (hsz2:=by have hh:(arrOf st').size=vs.length:=hS.size;show((arrOf st').map (·.2)).size<=_;rw[size_map,hh];lia));rw[hS.failed];dsimp[bne_self_eq_false,bA,bZ];have:=h g hc hso;rw[<- oe]at this;exact aJ this
end
section
variable {prog:aj}{w:ah}{A:aA}{E:af->aC->Prop}{s:aC}
def Gq(b:Bool)(x y:af):keyLt' (tuples' b) x y=(do
  let us <- Builtin.List.listItems x
  let vs <- Builtin.List.listItems y
  for ((u,v),k)in (us.toList.zip vs.toList).zipIdx do
   if !(<- eqBool u v)then return <- oneLt' (b && k == 0) u v
  return us.size<vs.size):=rfl
def MF(b:Bool){x y:Int}{t:Tok}{Q:Bool->aC->Prop}(h:Q (decide (x<y)) s):wpAny (model prog w) A (oneLt' b (.int x t) (.int y u)) Q E s:=by
 cases b with
 | true=>exact oneLt_int h
 | false=>
  rw[oneLt'_eq];dsimp[bA,bZ];exact aG (PySem.P.lt_int (dz h))
def CO(b:Bool){k:ak}{xs ys:ap}{ns:ae}{Q:Bool->aC->Prop}(hl:IsTup s.heap l xs.toArray)(hk:IsTup s.heap k ys.toArray)(hi:IntsAre xs ns)(hj:IntsAre ys ms)(h:Q (HT.lexLt ns ms) s) :
  wpAny (model prog w) A (keyLt' (tuples' b) (.ref l) (.ref k)) Q E s:=by
 rw[Gq];obtain⟨o1,ho1,_,n1,hd1⟩:=hl;obtain⟨o2,ho2,_,n2,hd2⟩:=hk;refine aG (listItems_at ho1 hd1 ?_);refine aG (listItems_at ho2 hd2 ?_);have key:∀(xs ys:ap) (ns ms:ae) (n:Nat),IntsAre xs ns->IntsAre ys ms->∀Q':bd×Unit->aC->Prop,(∀r,(r=some (HT.lexLt ns ms)\/(r=none/\HT.lexLt ns ms=decide (xs.length<ys.length)))->Q' (r,Unit.unit) s) ->
   wpAny (model prog w) A (forIn ((xs.zip ys).zipIdx n) ((none,Unit.unit):bd×Unit) λx c=>match x with
      | ((p,q),i)=>do
       let e <- eqBool p q
       if (!e)=true then do
         let r <- oneLt' (b && i == 0) p q
         pure (ForInStep.done (some r,Unit.unit))
        else pure (ForInStep.yield (none,Unit.unit))) Q' E s:=by
  intro xs
  induction xs with
  | nil=>
   intro ys ns ms n h1 h2 Q' q
   cases h1
   rw[List.zip_nil_left,List.zipIdx_nil,jy];refine aJ (q none (.inr ⟨rfl,?_⟩))
   cases h2 with
   | nil=>rw[HT.pI];rfl
   | cons a t h2=>rw[HT.ng,br (by simp)]
  | cons v vs ih=>
   intro ys ns ms n h1 h2 Q' q
   cases h1 with
   | cons a t h1=>
    cases h2 with
    | nil=>
     rw[List.zip_nil_right,List.zipIdx_nil,jy];exact aJ (q none (.inr ⟨rfl,by rw[HT.oV,bu (by simp)]⟩))
    | cons c u h2=>
     rw[List.zip_cons_cons,jf,ju];rw[HT.mQ]at q;dsimp only;refine aG (aG (wpAny_eqBool_int ?_));by_cases e:a=c
     ·rw[aN e]at q;subst e;dsimp[bQ,eN,bA,bZ];refine aJ (ih _ _ _ _ h1 h2 _ λr hr=>q r ?_)
      rcases hr with hr|⟨hr,hz⟩
      ·exact .inl hr
      ·exact .inr ⟨hr,by rw[hz];simp⟩
     ·rw[aM e]at q;have e':(a == c)=false:=by simpa using e
      dsimp[e',fO,di];exact aG (MF _ (aJ (aJ (q _ (.inl rfl)))))
 refine aG (key xs ys ns ms 0 hi hj _ λr hr=>?_)
 rcases hr with rfl|⟨rfl,hz⟩
 ·exact aJ h
 ·dsimp only;rw[aS,aS,<- hz];exact aJ h
end
theorem rY:∀a:ae,HT.lexLt a a=false
 | []=>HT.pI
 | x::a=>by rw[HT.mQ,aN rfl];exact rY a
theorem wZ:∀{a b c:ae},HT.lexLt a b=true->HT.lexLt b c=true->HT.lexLt a c=true
 | [],[],_,h,_=>by rw[HT.pI]at h;cases h
 | x::a,[],_,h,_=>by rw[HT.oV]at h;cases h
 | _,y::b,[],_,h=>by rw[HT.oV]at h;cases h
 | [],y::b,z::c,_,_=>HT.ng ..
 | x::a,y::b,z::c,h1,h2=>by
  rw[HT.mQ]at h1 h2 ⊢;by_cases e1:x=y
  ·rw[aN e1]at h1;by_cases e2:y=z
   ·rw[aN e2]at h2;rw[aN (e1.trans e2)];exact wZ h1 h2
   ·rw[aM e2]at h2;have:=dG h2;rw[aM (by omega)];exact br (by omega)
  ·rw[aM e1]at h1;have l1:=dG h1;by_cases e2:y=z
   ·rw[aM (by omega)];exact br (by omega)
   ·rw[aM e2]at h2;have:=dG h2;rw[aM (by omega)];exact br (by omega)
theorem zA:∀{a b:ae},HT.lexLt a b=false->HT.lexLt b a=false->a=b
 | [],[],_,_=>rfl
 | [],y::b,h,_=>by rw[HT.ng]at h;cases h
 | x::a,[],_,h=>by rw[HT.ng]at h;cases h
 | x::a,y::b,h1,h2=>by
  rw[HT.mQ]at h1 h2;by_cases e:x=y
  ·rw[aN e]at h1;rw[aN e.symm]at h2;rw[e,zA h1 h2]
  ·rw[aM e]at h1;rw[aM (λz=>e z.symm)]at h2;have:=of_decide_eq_false h1;have:=of_decide_eq_false h2
   lia
def FH{a c:ae}(h:HT.lexLt a c=true):HT.lexLt a b=true\/HT.lexLt b c=true:=by
 cases e:HT.lexLt a b with
 | true=>exact .inl rfl
 | false=>
  right
  cases e2:HT.lexLt b a with
  | true=>exact wZ e2 h
  | false=>rw[<- zA e e2];exact h
abbrev Ky (kss:List (ae)):Ord where
 lt i j:=HT.lexLt (kss.getD i []) (kss.getD j [])
 NZ i:=rY _
 tr i j k:=wZ
 neg i j k:=FH
section
variable {prog:aj}{w:ah}{A:aA}{E:af->aC->Prop}{s:aC}
theorem E8{α β:Type}{f:α->Sem β}(r:α->β):∀(l:List α),(∀a∈l,∀Q:β->aC->Prop,Q (r a) s->wpAny M A (f a) Q E s)->∀Q:List β->aC->Prop,Q (l.map r) s->wpAny M A (l.mapM f) Q E s
 | [],_,Q,q=>by rw[List.mapM_nil];exact aJ q
 | a::l,h,Q,q=>by
  rw[List.mapM_cons];refine aG (h a (aR ..) _ (aG (E8 r l (λb hb=>h b (aT _ hb)) _ (aJ q))))
def Fj{α β:Type}{f:α->Sem β}(r:α->β)(l:List α)(h:∀a∈l,∀Q:β->aC->Prop,Q (r a) s->wpAny M A (f a) Q E s)(Q:Array β->aC->Prop)(q:Q (l.map r).toArray s):wpAny M A (l.toArray.mapM f) Q E s:=by
 rw[List.mapM_toArray,map_eq_pure_bind];exact aG (E8 r l h _ (aJ q))
def Jx(u:af):firstOfTuple' u=(do
  if (<- typeOf u) != .type "tuple" then return none
  return (<- Builtin.List.listItems u)[0]?):=rfl
def Gr{vs:ap}(h0:vs≠[])(ht:∀v∈vs,∃(l:ak) (xs:ap) (n:Int) (t:Tok),v=.ref l/\IsTup s.heap l (.int n t::xs).toArray){Q:SortKind->aC->Prop}(q:Q (tuples' true) s) :
  wpAny (model prog w) A (keyKind' vs.toArray) Q E s:=by
 have ch:∀v,∃x:Int×Tok,v∈vs->∃(l:ak) (xs:ap),v=.ref l/\IsTup s.heap l (.int x.1 x.2::xs).toArray:=λv=>by
  by_cases c:v∈vs
  ·obtain⟨l,xs,n,t,e1,e2⟩:=ht v c;exact⟨(n,t),λ_=>⟨l,xs,e1,e2⟩⟩
  ·exact⟨(0,0),λz=>absurd z c⟩
 obtain⟨F,hF⟩:=Classical.axiomOfChoice ch;rw[keyKind'_eq];refine aG (Fj (λv=>some (Value.int (F v).1 (F v).2)) vs (λv hv Q' q'=>?_) _ ?_)
 ·obtain⟨l,xs,rfl,o,ho,hc,n,hd⟩:=hF v hv;rw[Jx];refine aG (jl (T := "tuple") ⟨o,ho,hc⟩ ?_);rw[aM ⋯];exact aG (listItems_at ho hd (aJ q'))
 ·rw[aN (by simp)];refine aG (fN ?_);have e1:(vs.map λv=>some (Value.int (F v).1 (F v).2)).toArray.filterMap id=(vs.map λv=>Value.int (F v).1 (F v).2).toArray:=by
   rw[List.filterMap_toArray,iV];congr 1;rw[show(id ∘ λv=>some (Value.int (F v).1 (F v).2))=λv=>some (Value.int (F v).1 (F v).2)from rfl];exact congrFun List.filterMap_eq_map' vs
  rw[e1,oneTypeOnly'_eq];refine aG (aG (Fj (λ_=>Value.type "int") _ (λv hv Q' q'=>?_) _ ?_))
  ·obtain⟨u,_,rfl⟩:=bH.mp hv;exact aJ q'
  ·rw[bK];obtain⟨v0,vs',rfl⟩:∃v0 vs',vs=v0::vs':=by
    cases vs with
    | nil=>exact absurd rfl h0
    | cons a b=>exact⟨a,b,rfl⟩
   have ha:((List.map ((λ_=>Value.type "int") ∘ λv=>Value.int (F v).1 (F v).2) (v0::vs')).toArray.all λx=>x == Value.type "int")=true:=by
    dsimp[List.all_toArray,all_map,ig];intro _ _;rfl
   have hz:(List.map ((λ_=>Value.type "int") ∘ λv=>Value.int (F v).1 (F v).2) (v0::vs')).toArray[0]?=some (Value.type "int"):=by simp
   rw[hz];dsimp[ha,di];exact aJ (aJ q)
end
end Sx
namespace L2
open PySem PySem.Spec PyProof.Rows
section
variable {X:Cx}
theorem yZ:∀{rs:ar}{its:ap},Vals (rs.map V.ref) its->its=rs.map Value.ref
 | [],_,r=>by cases r;rfl
 | a::rs,_,r=>by
  cases r with
  | cons h t=>
   have e:_=Value.ref a:=h;rw[e,yZ t];rfl
theorem vB:∀(rs:ar),Vals (rs.map V.ref) (rs.map Value.ref)
 | []=>.nil
 | a::rs=>.cons (show RelV (.ref a) (.ref a)from rfl) (vB rs)
def GK{s:aC}{H:Hp}{Q:VK}{h':aq}{tk:Nat}{rs:ar}{kss:List (ae)}(I1:Inv X pins σ H { s with heap:=h',toks:=tk })(hlen:rs.length=kss.length)(hz:rs.length<=sizeLine)
  (hT:∀(i:Nat) (r:ak) (ks:ae),rs[i]?=some r->kss[i]?=some ks->m9 X.K H r (ks.map V.int)/\ks≠[])
  (q:∀l g,H l=none->Sx.Cl g 0 kss.length->Sx.So (Sx.Ky kss) g 0 kss.length->Q (.ref l) (upd H l (.lst (((List.range kss.length).map λi=>rs.getD (g i) 0).map V.ref)))) :
  wpAny (model X.prog X.w) X.A.in1 (do
   let l <- newList (rs.map Value.ref)
   let _ <- holding [l] (call (Value.builtin "list.sort") [l] [])
   ret l) (λfin s'=>∃v,fin=Fin.done (Flow.ret v)/\EP X pins σ Q v s') X.xe { s with heap:=h',toks:=tk }:=by
 have hN:(rs.map Value.ref).length=kss.length:=by rw[aL,hlen]
 refine aG (wpAny_newList ?_);have hoL:(h'.push (seqObj "list" (rs.map Value.ref).toArray 0)).get? h'.objs.size=some (seqObj "list" (rs.map Value.ref).toArray 0):=bg _ rfl
 skip
 have tup:∀(i:Nat) (r:ak) (ks:ae),rs[i]?=some r->kss[i]?=some ks->∃its:ap,IntsAre its ks/\IsTup (Sx.GW (h'.push (seqObj "list" (rs.map Value.ref).toArray 0)) h'.objs.size (rs.map Value.ref)) r its.toArray:=λi r ks e1 e2=>by
  obtain⟨its,rv,⟨o,ho,hc,n,hd⟩,_⟩:=I1.tuple (hT i r ks e1 e2).1;refine⟨its,intsAre_of rv,o,?_,hc,n,hd⟩;have lt:r<h'.objs.size:=aX ho;rw[Sx.NO (bD lt) (by rw[e_];exact fK lt)];exact aO _ ho
 refine aG (dg (bT slot_list_sort ⟨_,hoL,rfl⟩ entry_list_sort (Sx.GH (o:=Sx.Ky kss) (kd:=tuples' true) hoL (by rw[hN];lia) (λh2 Q' q'=>?_) (λh2 i j hi hj E' Q' q'=>?_) λg hc hs=>⟨_,rfl,?_⟩) (args_list_sort _)))
 ·refine Sx.Gr (λz=>by rw[z]at h2;simp at h2) (λv hv=>?_) q';obtain⟨i,hi⟩:=eG hv;rw[aQ]at hi;obtain⟨r,hr,rfl⟩:=bw.mp hi;have lt:=(aK.mp hr).1;have e2:kss[i]?=some kss[i]:=aH ();obtain⟨its,h1,h3⟩:=tup i r _ hr e2;have hne:=(hT i r _ hr e2).2;generalize kss[i]=ks at h1 hne
  cases h1 with
  | nil=>exact absurd rfl hne
  | cons a t h1=>exact⟨r,_,a,t,rfl,h3⟩
 ·rw[hN]at hi hj;have e1:rs[i]?=some (rs[i]'()):=aH _;have e2:rs[j]?=some (rs[j]'()):=aH _;have k1:kss[i]?=some kss[i]:=aH hi;have k2:kss[j]?=some kss[j]:=aH hj;obtain⟨x1,a1,b1⟩:=tup i _ _ e1 k1;obtain⟨x2,a2,b2⟩:=tup j _ _ e2 k2;have v1:(rs.map Value.ref).getD i .none=.ref (rs[i]'()):=by rw[aI,aQ,e1];rfl
  have v2:(rs.map Value.ref).getD j .none=.ref (rs[j]'()):=by rw[aI,aQ,e2];rfl
  show wpAny _ _ (keyLt' (tuples' true) ((rs.map Value.ref).getD i .none) ((rs.map Value.ref).getD j .none)) Q' E' _;rw[v1,v2];refine Sx.CO true b1 b2 a1 a2 ?_;have d1:kss.getD i []=kss[i]:=by rw[aI,k1];rfl
  have d2:kss.getD j []=kss[j]:=by rw[aI,k2];rfl
  have:(Sx.Ky kss).lt i j=HT.lexLt kss[i] kss[j]:=by show HT.lexLt _ _=_;rw[d1,d2]
  rw[<- this];exact q'
 ·rw[hN]at hc hs ⊢;obtain⟨e,he⟩:=sortedHeap_at (out:=((List.range kss.length).map λi=>(rs.map Value.ref).getD (g i) .none).toArray) hoL;have old:∀b ob,h'.get? b=some ob->(sortedHeap (h'.push (seqObj "list" (rs.map Value.ref).toArray 0)) h'.objs.size (rs.map Value.ref) ((List.range kss.length).map λi=>(rs.map Value.ref).getD (g i) .none).toArray).get? b=some ob:=λb ob eb=>by
   rw[sortedHeap_old (bD (aX eb)) (by rw[e_];exact fK (aX eb))];exact aO _ eb
  refine aJ ⟨_,rfl,.ref h'.objs.size,_,I1.laid (t':=tk) (o:=.lst (((List.range kss.length).map λi=>rs.getD (g i) 0).map V.ref)) old (aP _) ?_,rfl,q _ g (I1.hok.fresh (aP _)) hc hs⟩;refine⟨by rw[aL,aL,cO];lia,((List.range kss.length).map λi=>rs.getD (g i) 0).map Value.ref,e,vB _,?_⟩;rw[he];congr 2;rw[bK];congr 1;refine cI λi hi=>?_;have:=(hc i (cY _) (cU.mp hi)).2;have lt:g i<rs.length:=()
  show(rs.map Value.ref).getD (g i) .none=Value.ref (rs.getD (g i) 0);rw[aI,aQ,aH lt,aI,aH lt];rfl
def zx:j5 X (.builtin "sorted") (λxs H Q=>∃(p:ak) (rs:ar) (kss:List (ae)),xs=[.ref p]/\nB X.K H p (rs.map V.ref)/\rs.length=kss.length /\
  (∀(i:Nat) (r:ak) (ks:ae),rs[i]?=some r->kss[i]?=some ks->m9 X.K H r (ks.map V.int)/\ks≠[]) /\
  ∀l g,H l=none->Sx.Cl g 0 kss.length->Sx.So (Sx.Ky kss) g 0 kss.length->Q (.ref l) (upd H l (.lst (((List.range kss.length).map λi=>rs.getD (g i) 0).map V.ref)))):=by
 w_up;obtain⟨p,rs,kss,rfl,hq,hlen,hT,q⟩:=h;kcf_m
 cases rx
 obtain⟨its,rv,pl,hz⟩:=I.list hq;have ei:=yZ rv;subst ei;obtain⟨o,ho,hcl,n,hd⟩:=pl.isList;rw[aL]at hz;have hN:(rs.map Value.ref).length=kss.length:=by rw[aL,hlen]
 refine Calls.call_function_entry kind_sorted plain_sorted entry_sorted (args_sorted1 _) ?_;unfold Builtin.«sorted»;refine aG (m:=checkCount "sorted" 1 1 _) (aJ ?_);refine aG (wpAny_collect_seq p (.inl rfl) ho hcl hd (λh' hk=>GK (s:=s) (I.kept (t':=s.toks) hk) hlen hz hT q) (by rw[aS,hN];lia))
end
end L2
namespace Am
open PySem
inductive A where
 | unb|non|bl (b:Bool)|int (i:Int)|str (x:Str)|tup (xs:List A)|frz (xs:List A)|rng (lo hi:Int)|ref (n:Nat)|exn (c:Str)|ty (n:String)|ktu (xs:List A)
@[reducible]def ad:=List A
inductive O where
 | lst (xs:ad)|dct (kvs:List (ae×A))|dki (kvs:List (Int×A))|ins (c:Str) (fs:List (Str×A))
meta abbrev jJ:=List O
inductive R (α:Type) where
 | ok (a:α) (S:jJ)|ex (c:Str) (S:jJ)|no
abbrev R.bind {α β:Type}(r:R α)(f:α->jJ->R β):R β:=match r with
 | .ok a S=>f a S
 | .ex c S=>.ex c S
 | .no=>.no
abbrev R.post {α:Type}(r:R α)(P:α->jJ->Prop)(E:Str->jJ->Prop):Prop:=match r with
 | .ok a S=>P a S
 | .ex c S=>E c S
 | .no=>False
def jM{α β:Type}{r:R α}{f:α->jJ->R β}{P:β->jJ->Prop}{E:Str->jJ->Prop}(h:(r.bind f).post P E):r.post (λa S=>(f a S).post P E) E:=by
 cases r<;>exact h
def Gn{α:Type}{r:R α}{P P':α->jJ->Prop}{E E':Str->jJ->Prop}(h:r.post P E)(hp:∀a S,P a S->P' a S)(he:∀c S,E c S->E' c S):r.post P' E':=by
 cases r with
 | ok a S=>exact hp _ _ h
 | ex c S=>exact he _ _ h
 | no=>exact h.elim
abbrev gd {α:Type}(c:Prop)[Decidable c](r:R α):R α:=if c then r else .no
abbrev opt {α β:Type}(o:Option β)(f:β->R α):R α:=match o with
 | some b=>f b
 | none=>.no
def j4{α:Type}{c:Prop}[Decidable c]{r:R α}{P:α->jJ->Prop}{E:Str->jJ->Prop}(h:(gd c r).post P E):c/\r.post P E:=by
 unfold gd at h;by_cases hc:c
 ·rw[aN hc]at h;exact⟨hc,h⟩
 ·rw[aM hc]at h;exact h.elim
def jK{α β:Type}{o:Option β}{f:β->R α}{P:α->jJ->Prop}{E:Str->jJ->Prop}(h:(opt o f).post P E):∃b,o=some b/\(f b).post P E:=by
 cases o with
 | none=>exact h.elim
 | some b=>exact⟨b,rfl,h⟩
def NI{α:Type}{c:Prop}[Decidable c]{r:R α}(h:c):gd c r=r:=aN h
abbrev jF (S:jJ)(n:Nat):Option (ad):=match S[n]? with
 | some (.lst xs)=>some xs
 | _=>none
def jT{n:Nat}(h:jF S n=some xs):S[n]?=some (.lst xs):=by
 unfold jF at h;split at h
 ·rename_i e;cases h;exact e
 ·cases h
def ur{S:jJ}{n:Nat}(h:S[n]?=some (.lst xs)):jF S n=some xs:=by
 unfold jF;rw[h]
inductive RS where
 | nx (τ:ad) (S:jJ)|rt (a:A) (S:jJ)|bk (τ:ad) (S:jJ)|ct (τ:ad) (S:jJ)|ex (c:Str) (S:jJ)|no
meta abbrev Ex:=ad->jJ->R A
meta abbrev qt:=ad->jJ->R (ad)
meta abbrev Te:=ad->jJ->R Bool
meta abbrev Sm:=ad->jJ->RS
meta abbrev Tg:=A->ad->jJ->R (ad)
end Am
namespace Am
open PySem L2
section
variable (K:au) (ρ:ar) (H:Hp)
abbrev VV (K:au)(c:Str)(C:ak):Prop:=PySem.W.nsIn K mainGlobals c=some (some (.ref C))
abbrev Fz (K:au)(H:Hp)(a:ak)(vs:List V):Prop:=
 (∃o,H a=some (.frz o (.lst vs)))\/∃(o:Obj) (its:Array af) (n:Nat),K.lookup a=some o/\o.cls=.type "list" /\ o.dict=none/\o.data=.seq its n/\its.size<=sizeLine/\Vals vs its.toList
abbrev WR (K:au)(a:ak)(vs:List V):Prop:=∃(o:Obj) (its:Array af) (n:Nat),K.lookup a=some o/\o.cls=.type "tuple" /\ o.dict=none/\o.data=.seq its n/\its.size<=sizeLine/\Vals vs its.toList
mutual
inductive AV:A->V->Prop
 | non:AV .non .non
 | bl (b:Bool):AV (.bl b) (.bl b)
 | int (i:Int):AV (.int i) (.int i)
 | str (x:Str):AV (.str x) (.str x)
 | ty (n:String):AV (.ty n) (.ty n)
 | tup {a:ak} {xs:ad} {vs:List V} (h:H a=some (.tup vs)) (r:AVs xs vs):AV (.tup xs) (.ref a)
 | frz {a:ak} {xs:ad} {vs:List V} (h:Fz K H a vs) (r:AVs xs vs):AV (.frz xs) (.ref a)
 | rng {a:ak} {lo hi:Int} (h:H a=some (.rng lo hi)):AV (.rng lo hi) (.ref a)
 | ref {a:ak} {n:Nat} (h:ρ[n]?=some a):AV (.ref n) (.ref a)
 | exn {a C:ak} {c:Str} {oe:Obj} (n:VV K c C) (h:H a=some (.frz oe xu)) (x:XO C oe):AV (.exn c) (.ref a)
 | ktu {a:ak} {xs:ad} {vs:List V} (h:WR K a vs) (r:AVs xs vs):AV (.ktu xs) (.ref a)
inductive AVs:ad->List V->Prop
 | nil:AVs [] []
 | cons {x:A} {v:V} {xs:ad} {vs:List V} (h:AV x v) (t:AVs xs vs):AVs (x::xs) (v::vs)
end
abbrev DV:List (ae×A)->List (List Key×V)->Prop
 | [],[]=>True
 | p::r,q::r'=>(q.1=p.1.map Sum.inl/\AV K ρ H p.2 q.2)/\DV r r'
 | _,_=>False
abbrev DI:List (Int×A)->List (Key×V)->Prop
 | [],[]=>True
 | p::r,q::r'=>(q.1=Sum.inl p.1/\AV K ρ H p.2 q.2)/\DI r r'
 | _,_=>False
abbrev OR (a:ak):O->Prop
 | .lst xs=>∃vs,H a=some (.lst vs)/\AVs K ρ H xs vs
 | .dct kvs=>∃ks,H a=some (.dT ks)/\DV K ρ H kvs ks
 | .dki kvs=>∃ks,H a=some (.dK ks)/\DI K ρ H kvs ks
 | .ins _ _=>∃o u,H a=some (.frz o u)
structure Rel (S:jJ):Prop where
 len:ρ.length=S.length
 nd:ρ.Nodup
 «at»:∀(n:Nat) (a:ak) (o:O),ρ[n]?=some a->S[n]?=some o->OR K ρ H a o
end
abbrev W6:HO->Prop
 | .tup _=>True
 | .rng _ _=>True
 | .frz _ _=>True
 | _=>False
structure Ext0 (ρ ρ':ar)(H H':Hp):Prop where
 pre:ρ <+: ρ'
 im:∀a u,W6 u->H a=some u->H' a=some u
structure Ext (ρ ρ':ar)(H H':Hp):Prop extends Ext0 ρ ρ' H H' where
 fr:∀a u,H a=some u->a∉ρ->H' a=some u
 nw:∀a,a∈ρ'->a∈ρ\/H a=none
def Ext.refl{H:Hp}:Ext ρ ρ H H:=⟨⟨d_ _,λ_ _ _ h=>h⟩,λ_ _ h _=>h,λ_ h=>.inl h⟩
def Ext.trans{H H1 H2:Hp}(a:Ext ρ ρ1 H H1)(b:Ext ρ1 ρ2 H1 H2):Ext ρ ρ2 H H2:=⟨⟨a.pre.trans b.pre,λx u i h=>b.im x u i (a.im x u i h)⟩,λx u h n=>b.fr x u (a.fr x u h n) λz=>(a.nw x z).elim n λz=>by(rw[z]at h;cases h),λx h=>by
 by_cases hx:x∈ρ
 ·exact .inl hx
 ·right
  cases q:H x with
  | none=>rfl
  | some u=>
   rcases b.nw x h with z|z
   ·exact((a.nw x z).elim hx λz=>by(rw[z]at q;cases q)).elim
   ·rw[a.fr x u q hx]at z;cases z⟩
def Ext0.get{H H':Hp}(e:Ext0 ρ ρ' H H'){n:Nat}{a:ak}(h:ρ[n]?=some a):ρ'[n]?=some a:=by
 obtain⟨t,rfl⟩:=e.pre;rw[bF (aK.mp h).1];exact h
section
variable {K:au}{ρ ρ':ar}{H H':Hp}
def Ext0.WB(e:Ext0 ρ ρ' H H'){a:ak}(h:m9 K H a vs):m9 K H' a vs:=by
 rcases h with(h|⟨o,h⟩)|h
 ·exact .inl (.inl (e.im _ _ trivial h))
 ·exact .inl (.inr ⟨o,e.im _ _ trivial h⟩)
 ·exact .inr h
def Ext0.fz(e:Ext0 ρ ρ' H H'){a:ak}(h:Fz K H a vs):Fz K H' a vs:=by
 rcases h with⟨o,h⟩|h
 ·exact .inl ⟨o,e.im _ _ trivial h⟩
 ·exact .inr h
def Fz.JS{a:ak}(h:Fz K H a vs):nB K H a vs:=by
 rcases h with⟨o,h⟩|h
 ·exact .inl (.inr ⟨o,h⟩)
 ·exact .inr h
mutual
theorem AV.lU(e:Ext0 ρ ρ' H H'):∀{x:A}{v:V},AV K ρ H x v->AV K ρ' H' x v
 | _,_,.non=>.non
 | _,_,.bl b=>.bl b
 | _,_,.int i=>.int i
 | _,_,.str x=>.str x
 | _,_,.ty x=>.ty x
 | _,_,.tup h r=>.tup (e.im _ _ trivial h) (AVs.lU e r)
 | _,_,.frz h r=>.frz (e.fz h) (AVs.lU e r)
 | _,_,.rng h=>.rng (e.im _ _ trivial h)
 | _,_,.ref h=>.ref (e.get h)
 | _,_,.exn n h x=>.exn n (e.im _ _ trivial h) x
 | _,_,.ktu h r=>.ktu h (AVs.lU e r)
theorem AVs.lU(e:Ext0 ρ ρ' H H'):∀{xs:ad}{vs:List V},AVs K ρ H xs vs->AVs K ρ' H' xs vs
 | _,_,.nil=>.nil
 | _,_,.cons h t=>.cons (AV.lU e h) (AVs.lU e t)
end
theorem DV.lU(e:Ext0 ρ ρ' H H'):∀{xs:List (ae×A)}{vs:List (List Key×V)},DV K ρ H xs vs->DV K ρ' H' xs vs
 | [],[],_=>trivial
 | _::_,_::_,⟨⟨a,b⟩,r⟩=>⟨⟨a,AV.lU e b⟩,DV.lU e r⟩
def DV.ext{x:List (ae×A)}{v:List (List Key×V)}(h:DV K ρ H x v)(e:Ext ρ ρ' H H'):DV K ρ' H' x v:=DV.lU e.toExt0 h
theorem DI.lU(e:Ext0 ρ ρ' H H'):∀{xs:List (Int×A)}{vs:List (Key×V)},DI K ρ H xs vs->DI K ρ' H' xs vs
 | [],[],_=>trivial
 | _::_,_::_,⟨⟨a,b⟩,r⟩=>⟨⟨a,AV.lU e b⟩,DI.lU e r⟩
def DI.ext{x:List (Int×A)}{v:List (Key×V)}(h:DI K ρ H x v)(e:Ext ρ ρ' H H'):DI K ρ' H' x v:=DI.lU e.toExt0 h
def AV.ext{x:A}{v:V}(h:AV K ρ H x v)(e:Ext ρ ρ' H H'):AV K ρ' H' x v:=AV.lU e.toExt0 h
def AVs.ext{x:ad}{v:List V}(h:AVs K ρ H x v)(e:Ext ρ ρ' H H'):AVs K ρ' H' x v:=AVs.lU e.toExt0 h
theorem AVs.length:∀{xs:ad}{vs:List V},AVs K ρ H xs vs->xs.length=vs.length
 | _,_,.nil=>rfl
 | _,_,.cons _ t=>dJ (·+1) (AVs.length t)
theorem AVs.append:∀{xs ys:ad}{vs ws:List V},AVs K ρ H xs vs->AVs K ρ H ys ws->AVs K ρ H (xs++ys) (vs++ws)
 | _,_,_,_,.nil,s=>s
 | _,_,_,_,.cons h t,s=>.cons h (AVs.append t s)
theorem AVs.take:∀{xs:ad}{vs:List V}(n:Nat),AVs K ρ H xs vs->AVs K ρ H (xs.take n) (vs.take n)
 | _,_,0,_=>.nil
 | _,_,_+1,.nil=>.nil
 | _,_,n+1,.cons h t=>.cons h (AVs.take n t)
theorem AVs.drop:∀{xs:ad}{vs:List V}(n:Nat),AVs K ρ H xs vs->AVs K ρ H (xs.drop n) (vs.drop n)
 | _,_,0,r=>r
 | _,_,_+1,.nil=>.nil
 | _,_,n+1,.cons _ t=>AVs.drop n t
theorem AVs.reverse:∀{xs:ad}{vs:List V},AVs K ρ H xs vs->AVs K ρ H xs.reverse vs.reverse
 | _,_,.nil=>.nil
 | _,_,.cons h t=>by rw[dR,dR];exact(AVs.reverse t).append (.cons h .nil)
theorem AVs.get:∀{xs:ad}{vs:List V}{i:Nat}{x:A},AVs K ρ H xs vs->xs[i]?=some x->∃v,vs[i]?=some v/\AV K ρ H x v
 | _,_,_,_,.nil,e=>by simp at e
 | _,_,0,_,.cons h _,e=>by simp at e;subst e;exact⟨_,rfl,h⟩
 | _,_,i+1,x,.cons _ t,e=>by
  obtain⟨u,h1,h2⟩:=AVs.get (i:=i) (x:=x) t (by simpa using e);exact⟨u,by simpa using h1,h2⟩
theorem AVs.set{x:A}{v:V}(h:AV K ρ H x v):∀{xs:ad}{vs:List V}(i:Nat),AVs K ρ H xs vs->AVs K ρ H (xs.set i x) (vs.set i v)
 | _,_,_,.nil=>.nil
 | _,_,0,.cons _ t=>.cons h t
 | _,_,i+1,.cons q t=>.cons q (AVs.set h i t)
def AVs.one{x:A}{v:V}(h:AV K ρ H x v):AVs K ρ H [x] [v]:=.cons h .nil
theorem AVs.eraseIdx:∀{xs:ad}{vs:List V}(i:Nat),AVs K ρ H xs vs->AVs K ρ H (xs.eraseIdx i) (vs.eraseIdx i)
 | _,_,_,.nil=>.nil
 | _,_,0,.cons _ t=>t
 | _,_,i+1,.cons q t=>.cons q (AVs.eraseIdx i t)
theorem nS:∀(ns:ae),AVs K ρ H (ns.map .int) (ns.map .int)
 | []=>.nil
 | n::ns=>.cons (.int n) (nS ns)
def Rel.lay{S:jJ}{p:ak}(R:Rel K ρ H S)(hp:H p=none)(r:AVs K ρ H xs vs):Ext ρ (ρ++[p]) H (upd H p (.lst vs))/\Rel K (ρ++[p]) (upd H p (.lst vs)) (S++[.lst xs])/\(ρ++[p])[S.length]?=some p:=by
 have ex:Ext ρ (ρ++[p]) H (upd H p (.lst vs)):=⟨⟨gq _ _,λa u _ h=>by rw[jR (j3 h hp)];exact h⟩,λa u h _=>by rw[jR (j3 h hp)];exact h,λa h=>by
  rcases bq.mp h with z|z
  ·exact .inl z
  ·have e:a=p:=by simpa using z
   rw[e];exact .inr hp⟩
 have np:∀(n:Nat) (a:ak),ρ[n]?=some a->a≠p:=by
  intro n a e z;subst z;have hn:n<S.length:=by rw[<- R.len];exact(aK.mp e).1
  have:=R.at n a S[n] e (aH hn)
  cases ho:S[n]with
  | lst xs=>rw[ho]at this;obtain⟨vs,h,_⟩:=this;rw[hp]at h;cases h
  | dct _|dki _=>rw[ho]at this;obtain⟨vs,h,_⟩:=this;rw[hp]at h;cases h
  | ins _ _=>rw[ho]at this;obtain⟨_,_,h⟩:=this;rw[hp]at h;cases h
 have last:(ρ++[p])[S.length]?=some p:=by rw[<- R.len];simp
 refine⟨ex,⟨by simp[R.len],?_,?_⟩,last⟩
 ·rw[cP];refine⟨R.nd,by simp,λa ha b hb e=>?_⟩;have:b=p:=by simpa using hb
  obtain⟨n,hn,e'⟩:=iD.mp ha;exact np n a (by rw[aH hn,e']) (e.trans this)
 ·intro n a o h1 h2;by_cases hn:n<S.length
  ·rw[bF (by rw[R.len];exact hn)]at h1;rw[bF hn]at h2;have:=R.at n a o h1 h2
   cases o with
   | lst ys=>obtain⟨ws,e,q⟩:=this;exact⟨ws,by rw[jR (np n a h1)];exact e,q.ext ex⟩
   | dct _|dki _=>obtain⟨ws,e,q⟩:=this;exact⟨ws,by rw[jR (np n a h1)];exact e,q.ext ex⟩
   | ins _ _=>obtain⟨oo,uu,e⟩:=this;exact⟨oo,uu,by rw[jR (np n a h1)];exact e⟩
  ·have e:n=S.length:=by
    have:=(aK.mp h2).1;simp at this
    lia
   subst e;rw[last]at h1
   cases h1
   simp at h2;subst h2;exact⟨vs,kq,r.ext ex⟩
def Rel.im{p:ak}(R:Rel K ρ H S)(hp:H p=none):Ext ρ ρ H (upd H p u)/\Rel K ρ (upd H p u) S:=by
 have ex:Ext ρ ρ H (upd H p u):=⟨⟨d_ _,λa u _ h=>by rw[jR (j3 h hp)];exact h⟩,λa u h _=>by rw[jR (j3 h hp)];exact h,λ_ h=>.inl h⟩;refine⟨ex,R.len,R.nd,λn a o h1 h2=>?_⟩;have:=R.at n a o h1 h2
 cases o with
 | lst ys=>obtain⟨ws,e,q⟩:=this;exact⟨ws,by rw[jR (j3 e hp)];exact e,q.ext ex⟩
 | dct _|dki _=>obtain⟨ws,e,q⟩:=this;exact⟨ws,by rw[jR (j3 e hp)];exact e,q.ext ex⟩
 | ins _ _=>obtain⟨oo,uu,e⟩:=this;exact⟨oo,uu,by rw[jR (j3 e hp)];exact e⟩
def Rel.put{S:jJ}{n:Nat}{a:ak}(R:Rel K ρ H S)(ha:ρ[n]?=some a)(hS:S[n]?=some (.lst xs))(r:AVs K ρ H ys ws):Ext ρ ρ H (upd H a (.lst ws))/\Rel K ρ (upd H a (.lst ws)) (S.set n (.lst ys)):=by
 obtain⟨vs,e,_⟩:=R.at n a _ ha hS;have ex:Ext ρ ρ H (upd H a (.lst ws)):=⟨⟨d_ _,λb u i h=>by
  have:b≠a:=by
   intro z;subst z;rw[e]at h;cases h;exact i
  rw[jR this];exact h⟩,λb u h n=>by
  rw[jR (λz=>n (by rw[z];exact aZ ha))];exact h,λ_ h=>.inl h⟩
 refine⟨ex,by rw[bR];exact R.len,R.nd,λm b o h1 h2=>?_⟩;by_cases hm:m=n
 ·subst hm;rw[ha]at h1;cases h1;rw[cB (aK.mp hS).1]at h2
  cases h2
  exact⟨ws,kq,r.ext ex⟩
 ·rw[b8 (gp hm)]at h2;have nb:b≠a:=λz=>by
   subst z;obtain⟨l1,e1⟩:=aK.mp ha;obtain⟨l2,e2⟩:=aK.mp h1;exact hm ((d8 R.nd).mp (e2.trans e1.symm))
  have:=R.at m b o h1 h2
  cases o with
  | lst ys=>obtain⟨ws',e',q⟩:=this;exact⟨ws',by rw[jR nb];exact e',q.ext ex⟩
  | dct _|dki _=>obtain⟨ws',e',q⟩:=this;exact⟨ws',by rw[jR nb];exact e',q.ext ex⟩
  | ins _ _=>obtain⟨oo,uu,e'⟩:=this;exact⟨oo,uu,by rw[jR nb];exact e'⟩
def Rel.lst{n:Nat}{a:ak}(R:Rel K ρ H S)(ha:ρ[n]?=some a)(hS:S[n]?=some (.lst xs)):∃vs,H a=some (.lst vs)/\AVs K ρ H xs vs:=R.at n a _ ha hS
structure SR (K:au)(ρ:ar)(H:Hp)(τ:ad)(σ:St):Prop where
 len:τ.length=σ.length
 «at»:∀(i:Nat) (a:A),τ[i]?=some a->a=.unb\/∃v,σ[i]?=some (some v)/\AV K ρ H a v
def SR.lU(s:SR K ρ H τ σ)(e:Ext0 ρ ρ' H H'):SR K ρ' H' τ σ:=⟨s.len,λi a h=>by
 rcases s.at i a h with z|⟨v,h1,h2⟩
 ·exact .inl z
 ·exact .inr ⟨v,h1,AV.lU e h2⟩⟩
def SR.ext(s:SR K ρ H τ σ)(e:Ext ρ ρ' H H'):SR K ρ' H' τ σ:=s.lU e.toExt0
def Rel.out{D:ak}(R:Rel K ρ H S)(hD:H D=some (.lst vs))(hn:D∉ρ):Ext0 ρ ρ H (upd H D (.lst ws))/\Rel K ρ (upd H D (.lst ws)) S:=by
 have ex:Ext0 ρ ρ H (upd H D (.lst ws)):=⟨d_ _,λb u i h=>by
  have:b≠D:=by
   intro z;subst z;rw[hD]at h;cases h;exact i
  rw[jR this];exact h⟩
 refine⟨ex,R.len,R.nd,λn a o h1 h2=>?_⟩;have na:a≠D:=λz=>hn (by rw[<- z];exact aZ h1);have:=R.at n a o h1 h2
 cases o with
 | lst ys=>obtain⟨ws',e,q⟩:=this;exact⟨ws',by rw[jR na];exact e,AVs.lU ex q⟩
 | dct _|dki _=>obtain⟨ws',e,q⟩:=this;exact⟨ws',by rw[jR na];exact e,q.lU ex⟩
 | ins _ _=>obtain⟨oo,uu,e⟩:=this;exact⟨oo,uu,by rw[jR na];exact e⟩
def Rel.take{S:jJ}{D:ak}(R:Rel K ρ H S)(hD:H D=some (.lst vs))(hn:D∉ρ)(r:AVs K ρ H xs vs):Rel K (ρ++[D]) H (S++[.lst xs])/\(ρ++[D])[S.length]?=some D:=by
 have ex:Ext0 ρ (ρ++[D]) H H:=⟨gq _ _,λ_ _ _ h=>h⟩;have last:(ρ++[D])[S.length]?=some D:=by rw[<- R.len];simp
 refine⟨⟨by simp[R.len],?_,λn a o h1 h2=>?_⟩,last⟩
 ·rw[cP];refine⟨R.nd,by simp,λa ha b hb e=>?_⟩;have:b=D:=by simpa using hb
  exact hn (by rw[<- this,<- e];exact ha)
 ·by_cases hs:n<S.length
  ·rw[bF (by rw[R.len];exact hs)]at h1;rw[bF hs]at h2;have:=R.at n a o h1 h2
   cases o with
   | lst ys=>obtain⟨ws,e,q⟩:=this;exact⟨ws,e,AVs.lU ex q⟩
   | dct _|dki _=>obtain⟨ws,e,q⟩:=this;exact⟨ws,e,q.lU ex⟩
   | ins _ _=>obtain⟨oo,uu,e⟩:=this;exact⟨oo,uu,e⟩
  ·have e:n=S.length:=by
    have:=(aK.mp h2).1;simp at this
    lia
   subst e;rw[last]at h1
   cases h1
   simp at h2;subst h2;exact⟨vs,hD,AVs.lU ex r⟩
def SR.set{τ:ad}{σ:St}{a:A}{v:V}(s:SR K ρ H τ σ)(h:AV K ρ H a v):SR K ρ H (τ.set i a) (σ.set i (some v)):=by
 refine⟨by simp[s.len],λj b e=>?_⟩;by_cases hj:j=i
 ·subst hj;have hl:j<τ.length:=by
   have:=(aK.mp e).1;simpa using this
  rw[cB hl]at e
  cases e
  exact .inr ⟨v,cB (by rw[<- s.len];exact hl),h⟩
 ·rw[b8 (gp hj)]at e;rw[b8 (gp hj)];exact s.at j b e
end
end Am
namespace Am
open PySem PySem.Spec PyProof.Rows L2
abbrev XE (X:Cx)(ρ:ar)(H:Hp):Str->jJ->Prop:=λc S'=>∀(C:ak) (ρ':ar) (H':Hp),VV X.K c C->Ext ρ ρ' H H'->Rel X.K ρ' H' S'->EX X (.ref C) none H'
def XE.ext{X:Cx}{H H':Hp}{c:Str}(h:XE X ρ H c S)(e:Ext ρ ρ' H H'):XE X ρ' H' c S:=λC ρ2 H2 n e2=>h C ρ2 H2 n (e.trans e2)
abbrev wk (X:Cx)(ρ:ar)(H:Hp)(Q:VK):A->jJ->Prop:=λa S'=>∀ρ' H' v,Ext ρ ρ' H H'->Rel X.K ρ' H' S'->AV X.K ρ' H' a v->Q v H'
abbrev U0 (X:Cx)(ρ:ar)(H:Hp)(Q:Bool->Hp->Prop):Bool->jJ->Prop:=λb S'=>∀ρ' H',Ext ρ ρ' H H'->Rel X.K ρ' H' S'->Q b H'
abbrev W0 (X:Cx)(ρ:ar)(H:Hp)(Q:List V->Hp->Prop):ad->jJ->Prop:=λas S'=>∀ρ' H' vs,Ext ρ ρ' H H'->Rel X.K ρ' H' S'->AVs X.K ρ' H' as vs->Q vs H'
def wk.ext{X:Cx}{H H':Hp}{Q:VK}{a:A}(h:wk X ρ H Q a S)(e:Ext ρ ρ' H H'):wk X ρ' H' Q a S:=λρ2 H2 v e2=>h ρ2 H2 v (e.trans e2)
def U0.ext{X:Cx}{H H':Hp}{Q:Bool->Hp->Prop}{a:Bool}(h:U0 X ρ H Q a S)(e:Ext ρ ρ' H H'):U0 X ρ' H' Q a S:=λρ2 H2 e2=>h ρ2 H2 (e.trans e2)
def jH{α:Type}{X:Cx}{H H':Hp}{r:R α}{P P':α->jJ->Prop}(h:r.post P (XE X ρ H))(e:Ext ρ ρ' H H')(hp:∀a S,P a S->P' a S):r.post P' (XE X ρ' H'):=Gn h hp λ_ _ z=>z.ext e
abbrev tE (X:Cx)(c:Ex):TE:=λσ H Q=>∃ρ S τ,Rel X.K ρ H S/\SR X.K ρ H τ σ/\(c τ S).post (wk X ρ H Q) (XE X ρ H)
abbrev tT (X:Cx)(c:Te):TT:=λσ H Q=>∃ρ S τ,Rel X.K ρ H S/\SR X.K ρ H τ σ/\(c τ S).post (U0 X ρ H Q) (XE X ρ H)
abbrev tL (X:Cx)(c:qt):TA:=λσ H Q=>∃ρ S τ,Rel X.K ρ H S/\SR X.K ρ H τ σ/\(c τ S).post (W0 X ρ H Q) (XE X ρ H)
abbrev AE (X:Cx)(e:aE)(c:Ex):Prop:=PE X e (tE X c)
abbrev AT (X:Cx)(e:aE)(c:Te):Prop:=PT X e (tT X c)
abbrev AW (X:Cx)(e:aE)(c:Te):Prop:=PW X e (tT X c)
abbrev AL (X:Cx)(es:List aE)(c:qt):Prop:=PA X es (tL X c)
def PE.imp{X:Cx}{e:aE}{t t':TE}(h:PE X e t)(i:∀σ H Q,t' σ H Q->t σ H Q):PE X e t':=λpins s σ H Q I q=>h pins s σ H Q I (i σ H Q q)
def PT.imp{X:Cx}{e:aE}{t t':TT}(h:PT X e t)(i:∀σ H Q,t' σ H Q->t σ H Q):PT X e t':=λpins s σ H Q I q=>h pins s σ H Q I (i σ H Q q)
def PW.imp{X:Cx}{e:aE}{t t':TT}(h:PW X e t)(i:∀σ H Q,t' σ H Q->t σ H Q):PW X e t':=λw pins s σ H Q I q=>h w pins s σ H Q I (i σ H Q q)
def PA.imp{X:Cx}{e:List aE}{t t':TA}(h:PA X e t)(i:∀σ H Q,t' σ H Q->t σ H Q):PA X e t':=λp pins s σ H Q I q=>h p pins s σ H Q I (i σ H Q q)
def AW.at{X:Cx}{e:aE}{c:Te}(h:AW X e c):AT X e c:=h _
abbrev A.nU:A->Bool
 | .unb=>true
 | _=>false
abbrev jD (i:Nat):Ex:=λτ S=>if (τ.getD i .unb).nU then .no else .ok (τ.getD i .unb) S
abbrev eC (a:A):Ex:=λ_ S=>.ok a S
section
variable {X:Cx}{pos:Pos}{a b:aE}
def jC(i:Nat){x:Str}(hN:X.N[i]?=some x:=by rfl)(hv:Sn X.env.scope x:=by first|exact Or.inl rfl|exact Or.inr (Or.inl rfl)|exact Or.inr (Or.inr rfl))(hd:(x == ("__debug__" : Str))=false:=by decide)
  (hcd:(x == ("__classdict__" : Str))=false:=by decide):AE X (.Name x pos) (jD i):=PE.imp (HU hN hv hd hcd) λσ H Q h9=>by
 room;unfold jD at h
 cases hi:τ[i]? with
 | none=>
  rw[aI,hi]at h;exact h.elim
 | some x=>
  rw[aI,hi]at h
  rcases r.at i x hi with z|⟨v,e,q⟩
  ·subst z;exact h.elim
  ·refine⟨v,e,?_⟩
   cases x<;>first|(exact h ρ H v .refl R q)|exact h.elim
def jI{i:Int}{j pos}:AE X (.Constant (.int i) j pos) (eC (.int i)):=PE.imp CZ λσ H Q ⟨ρ,S,τ,R,r,h⟩=>h ρ H _ .refl R (.int i)
def FZ{j pos}:AE X (.Constant (.bool i) j pos) (eC (.bl i)):=PE.imp SH λσ H Q ⟨ρ,S,τ,R,r,h⟩=>h ρ H _ .refl R (.bl i)
def Jk{j pos}:AE X (.Constant .none j pos) (eC .non):=PE.imp P6 λσ H Q ⟨ρ,S,τ,R,r,h⟩=>h ρ H _ .refl R .non
def uc{x:Str}{i:Int}{t:Tok}(hm:X.mg x=some (.int i t))(hg:Gl X x:=by rfl)(hd:(x == ("__debug__" : Str))=false:=by decide):AE X (.Name x pos) (eC (.int i)):=
 PE.imp (M8 (v:=.int i) hg hm ⟨t,rfl⟩ hd) λσ H Q ⟨ρ,S,τ,R,r,h⟩=>h ρ H _ .refl R (.int i)
abbrev jN (f:A->A->jJ->R A)(ca cb:Ex):Ex:=λτ S=>(ca τ S).bind λa S1=>(cb τ S1).bind λb S2=>f a b S2
abbrev r2 (X:Cx)(f:A->A->jJ->R A):R2:=λx y H Q=>∃ρ S a b,Rel X.K ρ H S/\AV X.K ρ H a x/\AV X.K ρ H b y/\(f a b S).post (wk X ρ H Q) (XE X ρ H)
abbrev r1 (X:Cx)(f:A->jJ->R A):V->Hp->VK->Prop:=λx H Q=>∃ρ S a,Rel X.K ρ H S/\AV X.K ρ H a x/\(f a S).post (wk X ρ H Q) (XE X ρ H)
abbrev rN (X:Cx)(f:ad->jJ->R A):List V->Hp->VK->Prop:=λxs H Q=>∃ρ S as,Rel X.K ρ H S/\AVs X.K ρ H as xs/\(f as S).post (wk X ρ H Q) (XE X ρ H)
def n8.imp{f:af->af->Sem af}{r r':R2}(h:n8 X f r)(i:∀x y H Q,r' x y H Q->r x y H Q):n8 X f r':=λpins s σ H x y v u Q I rx ry q=>h pins s σ H x y v u Q I rx ry (i _ _ _ _ q)
def j5.imp{f:af}{r r':List V->Hp->VK->Prop}(h:j5 X f r)(i:∀x H Q,r' x H Q->r x H Q):j5 X f r':=λpins s σ H x v Q I rx q=>h pins s σ H x v Q I rx (i _ _ _ q)
def uh{f:A->A->jJ->R A}{ca cb:Ex}{H:Hp}{Q:VK}(h:tE X (jN f ca cb) σ H Q):Tr (r2 X f) (tE X ca) (tE X cb) σ H Q:=by
 kln_w;refine⟨ρ,S,τ,R,r,jH (jM h) .refl λa S1 h1 ρ1 H1 x e1 R1 v1=>⟨ρ1,S1,τ,R1,r.ext e1,jH (jM h1) e1 λb S2 h2 ρ2 H2 y e2 R2 v2=>?_⟩⟩;exact⟨ρ2,S2,a,b,R2,v1.ext e2,v2,jH h2 (e1.trans e2) λc S3 h3=>h3.ext (e1.trans e2)⟩
def jU{f:A->A->jJ->R A}{ca cb:Ex}(ho:n8 X (binaryOp op) (r2 X f))(ha:AE X a ca)(hb:AE X b cb):AE X (.BinOp a op b pos) (jN f ca cb):=
 PE.imp (T7 ho ha hb) λσ H Q h=>uh h
def Pg{op:CmpOp}{f:A->A->jJ->R A}{ca cb:Ex}(ho:n8 X (compareOp op) (r2 X f))(ha:AE X a ca)(hb:AE X b cb)(hm:behindInMarks op b=false:=by first|exact Hv _|with_unfolding_all rfl):AE X (.Compare a [op] [b] pos) (jN f ca cb):=
 PE.imp (Mw ho ha hb hm) λσ H Q h=>uh h
abbrev A.QW:A->jJ->bd
 | .non,_=>some false
 | .bl b,_=>some b
 | .int i,_=>some (i != 0)
 | .str x,_=>if x.length<=sizeLine then some ((x.length:Int) != 0)else none
 | .tup xs,_=>some (!xs.isEmpty)
 | .frz xs,_=>some (!xs.isEmpty)
 | .ref n,S=>(jF S n).map λxs=>!xs.isEmpty
 | _,_=>none
abbrev rF (c:Ex):Te:=λτ S=>(c τ S).bind λa S1=>opt (a.QW S1) λb=>.ok b S1
abbrev tY (c:Ex):Te:=λτ S=>(c τ S).bind λa S1=>match a with
 | .bl b=>.ok b S1
 | _=>.no
def AY{K:au}{H:Hp}{b:Bool}{v:V}(h:AV K ρ H (.bl b) v):v=.bl b:=by cases h;rfl
def kX{op:CmpOp}{f:A->A->jJ->R A}{ca cb:Ex}(ho:n8 X (compareOp op) (r2 X f))(ha:AE X a ca)(hb:AE X b cb)(hm:behindInMarks op b=false:=by first|exact Hv _|with_unfolding_all rfl):AT X (.Compare a [op] [b] pos) (tY (jN f ca cb)):=
 PT.imp (MG ho ha hb hm) λσ H Q h9=>by
  room;refine uh ⟨ρ,S,τ,R,r,jH (jM h) .refl λc S1 h1 ρ1 H1 x e1 R1 v1=>?_⟩
  cases c with
  | bl k=>cases AY v1;exact⟨k,rfl,h1 ρ1 H1 e1 R1⟩
  | _=>exact h1.elim
def PX{K:au}{H:Hp}{x:A}{v:V}{b:Bool}(R:Rel K ρ H S)(h:AV K ρ H x v)(e:x.QW S=some b):QT K v H b:=by
 have emp:∀{xs:ad} {vs:List V},AVs K ρ H xs vs->(!xs.isEmpty)=!vs.isEmpty:=λr=>by cases r<;>rfl
 cases h with
 | non=>exact(aW e).symm
 | bl b=>exact(aW e).symm
 | int i=>exact(aW e).symm
 | str x=>
  by_cases hx:x.length<=sizeLine
  ·exact⟨hx,by have:=(aN hx).symm.trans e;exact(aW this).symm⟩
  ·have:=(aM hx).symm.trans e;cases this
 | tup h r=>exact .inr (.inl ⟨_,m9.of h,by rw[<- emp r];exact(aW e).symm⟩)
 | frz h r=>exact .inl ⟨_,h.JS,by rw[<- emp r];exact(aW e).symm⟩
 | rng h=>cases e
 | ty n=>cases e
 | exn n h x=>cases e
 | ktu h r=>cases e
 | @ref a n h=>
  have e:(jF S n).map (λxs=>!xs.isEmpty)=some b:=e;obtain⟨xs,hn,e⟩:=bw.mp e;obtain⟨vs,h1,h2⟩:=R.lst h (jT hn);exact .inl ⟨vs,nB.of h1,by rw[<- emp h2];exact e.symm⟩
def qB{ca:Ex}(ha:AE X a ca)(he:∀whole,isTrue a X.env whole=(do let v <- whole;standAt a.pos;holding [v] (truthy v)):=by intro _;rfl):AT X a (rF ca):=
 PT.imp (Lv ha he) λσ H Q ⟨ρ,S,τ,R,r,h⟩=>⟨ρ,S,τ,R,r,jH (jM h) .refl λc S1 h1 ρ1 H1 x e1 R1 v1=>by
  obtain⟨b,hb,h1⟩:=jK h1;exact⟨b,PX R1 v1 hb,h1 ρ1 H1 e1 R1⟩⟩
abbrev CS (c:Te):Te:=λτ S=>(c τ S).bind λb S1=>.ok (!b) S1
abbrev VN (c d:Te):Te:=λτ S=>(c τ S).bind λb S1=>match b with|true=>d τ S1|false=>.ok false S1
abbrev Qf (c d:Te):Te:=λτ S=>(c τ S).bind λb S1=>match b with|true=>.ok true S1|false=>d τ S1
def yf{c:Te}(h:AT X a c):AT X (.UnaryOp .Not a pos) (CS c):=PT.imp (P0 h) λσ H Q ⟨ρ,S,τ,R,r,h⟩=>⟨ρ,S,τ,R,r,jH (jM h) .refl λb S1 h1=>h1⟩
def or_imp{c d:Te}{H:Hp}{Q:Bool->Hp->Prop}(h:tT X (Qf c d) σ H Q):Wo (tT X c) (tT X d) σ H Q:=by
 kln_w;refine⟨ρ,S,τ,R,r,jH (jM h) .refl λb S1 h1 ρ1 H1 e1 R1=>?_⟩
 cases b with
 | false=>
  rw[aM aY];exact⟨ρ1,S1,τ,R1,r.ext e1,jH h1 e1 λ_ _ z=>z.ext e1⟩
 | true=>
  rw[aN rfl];exact h1 ρ1 H1 e1 R1
variable {rest:List aE}
def Cr{c:Te}(h:AT X a c):AW X (.BoolOp .Or [a] pos) c:=Qc h
def F3{c d:Te}(h:AT X a c)(h2:AW X (.BoolOp .Or (b::rest) pos) d):AW X (.BoolOp .Or (a::b::rest) pos) (Qf c d):=PW.imp (UA h h2) λ_ _ _ q=>or_imp q
abbrev Jb (c d:Ex):Ex:=λτ S=>(c τ S).bind λa S1=>match a with | .bl true=>d τ S1 | .bl false=>.ok (.bl false) S1|_=>.no
abbrev Wx (c d:Ex):Ex:=λτ S=>(c τ S).bind λa S1=>match a with | .bl true=>.ok (.bl true) S1 | .bl false=>d τ S1|_=>.no
abbrev NY (c:Ex):Ex:=λτ S=>(c τ S).bind λa S1=>match a with | .bl b=>.ok (.bl !b) S1|_=>.no
def IZ{op}{c:Ex}(h:AE X a c):AE X (.BoolOp op [a] pos) c:=RX h
def Jy{c d:Ex}(h:AE X a c)(h2:AE X (.BoolOp .And (b::rest) pos) d):AE X (.BoolOp .And (a::b::rest) pos) (Jb c d):=PE.imp (Ri h h2) λσ H Q h9=>by
 room;refine⟨ρ,S,τ,R,r,jH (jM h) .refl λb S1 h1 ρ1 H1 x e1 R1 v1=>?_⟩
 cases b with
 | bl k=>
  cases AY v1
  refine⟨k,rfl,?_⟩
  cases k with
  | true=>
   rw[aN rfl];exact⟨ρ1,S1,τ,R1,r.ext e1,jH h1 e1 λ_ _ z=>z.ext e1⟩
  | false=>
   rw[aM aY];exact h1 ρ1 H1 _ e1 R1 (.bl false)
 | _=>exact h1.elim
def HW{c:Ex}(h:AE X a c):AE X (.UnaryOp .Not a pos) (NY c):=PE.imp (Q9 h) λσ H Q h9=>by
 room;refine⟨ρ,S,τ,R,r,jH (jM h) .refl λb S1 h1 ρ1 H1 x e1 R1 v1=>?_⟩
 cases b with
 | bl k=>
  cases AY v1
  exact⟨k,rfl,h1 ρ1 H1 _ e1 R1 (.bl _)⟩
 | _=>exact h1.elim
abbrev WS (t:Te)(c d:Ex):Ex:=λτ S=>(t τ S).bind λb S1=>match b with|true=>c τ S1|false=>d τ S1
abbrev jO:qt:=λ_ S=>.ok [] S
abbrev jE (c:Ex)(d:qt):qt:=λτ S=>(c τ S).bind λa S1=>(d τ S1).bind λas S2=>.ok (a::as) S2
def jQ:AL X [] jO:=PA.imp zB λσ H Q ⟨ρ,S,τ,R,r,h⟩=>h ρ H _ .refl R .nil
def jG{e:aE}{c:Ex}{d:qt}(ha:AE X e c)(hr:AL X es d)(hs:starEach (e::es) X.env=(false,eval e X.env)::starEach es X.env:=by rfl):AL X (e::es) (jE c d):=
 PA.imp (uw ha hr hs) λσ H Q h9=>by
  room;refine⟨ρ,S,τ,R,r,jH (jM h) .refl λa S1 h1 ρ1 H1 x e1 R1 v1=>⟨ρ1,S1,τ,R1,r.ext e1,jH (jM h1) e1 λas S2 h2 ρ2 H2 xs e2 R2 v2=>?_⟩⟩;exact h2 ρ2 H2 _ (e1.trans e2) R2 (.cons (v1.ext e2) v2)
abbrev t9 (d:qt):Ex:=λτ S=>(d τ S).bind λas S1=>gd (as.length<=sizeLine) (.ok (.tup as) S1)
abbrev newL (as:ad)(S:jJ):R A:=gd (as.length<=sizeLine) (.ok (.ref S.length) (S++[.lst as]))
abbrev wO (d:qt):Ex:=λτ S=>(d τ S).bind λas S1=>newL as S1
def qp{H H0:Hp}{Q:VK}(R:Rel X.K ρ H S)(r:AVs X.K ρ H as vs)(e:Ext ρ0 ρ H0 H)(h:wk X ρ0 H0 Q (.tup as) S):∀p,H p=none->Q (.ref p) (upd H p (.tup vs)):=λp hp=>by
 obtain⟨ex,R'⟩:=R.im (u:=.tup vs) hp;exact h ρ _ _ (e.trans ex) R' (.tup kq (r.ext ex))
def lK{H H0:Hp}{S:jJ}{Q:VK}(R:Rel X.K ρ H S)(r:AVs X.K ρ H as vs)(e:Ext ρ0 ρ H0 H)(h:wk X ρ0 H0 Q (.ref S.length) (S++[.lst as])):∀p,H p=none->Q (.ref p) (upd H p (.lst vs)):=λp hp=>by
 obtain⟨ex,R',g⟩:=R.lay hp r;exact h _ _ _ (e.trans ex) R' (.ref g)
def Nk{H H0:Hp}{vs:List V}{Q:VK}(R:Rel X.K ρ H S)(r:AVs X.K ρ H as vs)(e:Ext ρ0 ρ H0 H)(h:(newL as S).post (wk X ρ0 H0 Q) (XE X ρ0 H0)):vs.length<=sizeLine/\∀p,H p=none->Q (.ref p) (upd H p (.lst vs)):=by
 obtain⟨hl,h⟩:=j4 h;exact⟨by rw[<- r.length];exact hl,lK R r e h⟩
def u9{d:qt}{x1}(h:AL X es d):AE X (.Tuple es x1 pos) (t9 d):=PE.imp (Pk h) λσ H Q h9=>by
 room;refine⟨ρ,S,τ,R,r,jH (jM h) .refl λas S1 h1 ρ1 H1 xs e1 R1 v1=>?_⟩;obtain⟨hl,h1⟩:=j4 h1;exact⟨by rw[<- v1.length];exact hl,qp R1 v1 e1 h1⟩
def qF{d:qt}(h:AL X es d):AE X (.List es pos) (wO d):=PE.imp (Qk h) λσ H Q ⟨ρ,S,τ,R,r,h⟩=>
 ⟨ρ,S,τ,R,r,jH (jM h) .refl λas S1 h1 ρ1 H1 xs e1 R1 v1=>Nk R1 v1 e1 h1⟩
end
section
variable {X:Cx}{pos:Pos}{a b:aE}
abbrev aSub (a b:A)(S:jJ):R A:=match a,b with
 | .int i,.int j=>.ok (.int (i-j)) S
 | _,_=>.no
def m5:n8 X (binaryOp .Sub) (r2 X aSub):=n8.imp Qz λx y H Q h9=>by
 z_go
 cases va<;>first|exact h.elim|(cases vb<;>first|exact h.elim|exact⟨_,_,rfl,rfl,h _ _ _ .refl R (.int _)⟩)
abbrev Bb (i j:Int):Bool:=(decide (-(2 ^ 64)<i) && decide (i<2 ^ 64)) || (decide (-(2 ^ 64)<j) && decide (j<2 ^ 64))
def mulOk_of{i j:Int}(h:Bb i j=true):NV i j:=by
 unfold Bb at h;dsimp[Bool.or_eq_true,dM,decide_eq_true_eq]at h;exact h
abbrev uB (a b:A)(S:jJ):R A:=match a,b with
 | .int i,.int j=>gd (Bb i j) (.ok (.int (i * j)) S)
 | .ref n,.int k=>opt (jF S n) λxs=>gd (-(2 ^ 63)<=k/\k<2 ^ 63/\xs.length * k.toNat<=sizeLine) (.ok (.ref S.length) (S++[.lst (List.replicate k.toNat xs).flatten]))
 | _,_=>.no
theorem AVs.rep{K:au}{H:Hp}(r:AVs K ρ H xs vs):∀k:Nat,AVs K ρ H (List.replicate k xs).flatten (List.replicate k vs).flatten
 | 0=>.nil
 | k+1=>by rw[c8,c8,dS,dS];exact r.append (AVs.rep r k)
def w9:n8 X (binaryOp .Mult) (r2 X uB):=λpins s σ H x y v u Q I rx ry h9=>by
 z_go
 cases va with
 | int i=>
  cases vb with
  | int j=>
   obtain⟨hm,h⟩:=j4 h;exact Pp pins s σ H _ _ v u Q I rx ry ⟨i,j,rfl,rfl,mulOk_of hm,h _ _ _ .refl R (.int _)⟩
  | _=>exact h.elim
 | @ref p n hp=>
  cases vb with
  | int k=>
   kt_k;obtain⟨hc,h⟩:=j4 h;obtain⟨vs,h1,h2⟩:=R.lst hp (jT hn);exact R_ pins s σ H _ _ v u Q I rx ry ⟨p,k,vs,rfl,rfl,h1,hc.1,hc.2.1,by rw[<- h2.length];exact hc.2.2,lK R (h2.rep _) .refl h⟩
  | _=>exact h.elim
 | _=>exact h.elim
abbrev DM (a b:A)(S:jJ):R A:=match a,b with
 | .int i,.int j=>gd (0<j/\j<18446744073709551616) (.ok (.int (i / j)) S)
 | _,_=>.no
def Ir:n8 X (binaryOp .FloorDiv) (r2 X DM):=n8.imp Lq λx y H Q h9=>by
 z_go
 cases va<;>first|exact h.elim|(cases vb<;>first|exact h.elim|exact⟨_,_,rfl,rfl,(j4 h).1,(j4 h).2 _ _ _ .refl R (.int _)⟩)
abbrev zL (a b:A)(S:jJ):R A:=match a,b with
 | .int i,.int j=>gd (0<j) (.ok (.int (i % j)) S)
 | _,_=>.no
def zm:n8 X (binaryOp .Mod) (r2 X zL):=n8.imp Rl λx y H Q h9=>by
 z_go
 cases va<;>first|exact h.elim|(cases vb<;>first|exact h.elim|exact⟨_,_,rfl,rfl,(j4 h).1,(j4 h).2 _ _ _ .refl R (.int _)⟩)
abbrev Qv (a b:A)(S:jJ):R A:=match a,b with
 | .int i,.int j=>gd (0<=j/\j<=1000000/\i.natAbs<2 ^ 64) (.ok (.int (i ^ j.toNat)) S)
 | _,_=>.no
def SM:n8 X (binaryOp .Pow) (r2 X Qv):=n8.imp QD λx y H Q h9=>by
 z_go
 cases va<;>first|exact h.elim|(cases vb<;>first|exact h.elim|exact⟨_,_,rfl,rfl,(j4 h).1,(j4 h).2 _ _ _ .refl R (.int _)⟩)
abbrev l7 (a b:A)(S:jJ):R A:=match a,b with
 | .int i,.int j=>.ok (.int (i+j)) S
 | .tup xs,.tup ys=>gd (xs.length+ys.length<=sizeLine) (.ok (.tup (xs++ys)) S)
 | .str x,.str y=>gd (x.length+y.length<=sizeLine) (.ok (.str (x++y)) S)
 | .ref n,.ref m=>opt (jF S n) λxs=>opt (jF S m) λys=>gd (xs.length+ys.length<=sizeLine) (.ok (.ref S.length) (S++[.lst (xs++ys)]))
 | _,_=>.no
def AVs.nil_inv{K:au}{H:Hp}(r:AVs K ρ H xs vs):xs=[] ↔ vs=[]:=by cases r<;>simp
def nq:n8 X (binaryOp .Add) (r2 X l7):=λpins s σ H x y v u Q I rx ry h9=>by
 z_go
 cases va with
 | int i=>
  cases vb with
  | int j=>exact Q2 pins s σ H _ _ v u Q I rx ry ⟨i,j,rfl,rfl,h _ _ _ .refl R (.int _)⟩
  | _=>exact h.elim
 | str x=>
  cases vb with
  | str y=>
   obtain⟨hc,h⟩:=j4 h;exact Cy pins s σ H _ _ v u Q I rx ry ⟨x,y,rfl,rfl,hc,h _ _ _ .refl R (.str _)⟩
  | _=>exact h.elim
 | @tup p xs vs h1 r1=>
  cases vb with
  | @tup q ys ws h2 r2=>
   obtain⟨hc,h⟩:=j4 h;by_cases hv:vs=[]
   ·have hx:=r1.nil_inv.mpr hv;subst hv hx;exact KQ pins s σ H _ _ v u Q I rx ry ⟨p,q,ws,rfl,rfl,m9.of h1,m9.of h2,h _ _ _ .refl R (.tup h2 r2)⟩
   ·refine Nb pins s σ H _ _ v u Q I rx ry ⟨p,q,vs,ws,rfl,rfl,m9.of h1,m9.of h2,hv,by rw[<- r1.length,<- r2.length];exact hc,λe=>?_,λ_=>qp R (r1.append r2) .refl h⟩;have hy:=r2.nil_inv.mpr e;subst hy;rw[cW]at h;exact h _ _ _ .refl R (.tup h1 r1)
  | _=>exact h.elim
 | @ref p n hp=>
  cases vb with
  | @ref q m hq=>
   kt_k;obtain⟨ys,hm,h⟩:=jK h;obtain⟨hc,h⟩:=j4 h;obtain⟨vs,h1,h2⟩:=R.lst hp (jT hn);obtain⟨ws,h3,h4⟩:=R.lst hq (jT hm);exact RP pins s σ H _ _ v u Q I rx ry ⟨p,q,vs,ws,rfl,rfl,h1,h3,by rw[<- h2.length,<- h4.length];exact hc,lK R (h2.append h4) .refl h⟩
  | _=>exact h.elim
 | _=>exact h.elim
abbrev A.ints:ad->Option (ae)
 | []=>some []
 | .int i::xs=>(A.ints xs).map (i::·)
 | _=>none
theorem qf{K:au}{H:Hp}:∀{xs:ad}{vs:List V}{bs:ae},AVs K ρ H xs vs->A.ints xs=some bs->vs=bs.map V.int
 | _,_,_,.nil,e=>by cases e;rfl
 | _,_,_,.cons (x:=.int b) h t,e=>by
  obtain⟨cs,e1,rfl⟩:=bw.mp e
  cases h
  rw[qf t e1];rfl
 | _,_,_,.cons (x:=.unb) h t,e=>nomatch e
 | _,_,_,.cons (x:=.non) h t,e=>nomatch e
 | _,_,_,.cons (x:=.bl _) h t,e=>nomatch e
 | _,_,_,.cons (x:=.str _) h t,e=>nomatch e
 | _,_,_,.cons (x:=.tup _) h t,e=>nomatch e
 | _,_,_,.cons (x:=.frz _) h t,e=>nomatch e
 | _,_,_,.cons (x:=.rng _ _) h t,e=>nomatch e
 | _,_,_,.cons (x:=.ref _) h t,e=>nomatch e
 | _,_,_,.cons (x:=.exn _) h t,e=>nomatch e
 | _,_,_,.cons (x:=.ty _) h t,e=>nomatch e
abbrev ES (a b:A)(S:jJ):R A:=match a,b with
 | .int i,.int j=>.ok (.bl (decide (i<j))) S
 | _,_=>.no
def GX(hu:X.A.units+64<cLine):n8 X (compareOp .Lt) (r2 X ES):=λpins s σ H x y v u Q I rx ry h9=>by
 z_go
 cases va with
 | int i=>
  cases vb with
  | int j=>exact SO pins s σ H _ _ v u Q I rx ry ⟨i,j,rfl,rfl,h _ _ _ .refl R (.bl _)⟩
  | _=>exact h.elim
 | _=>exact h.elim
abbrev UW (a b:A)(S:jJ):R A:=match a,b with
 | .int i,.int j=>.ok (.bl (decide (i<=j))) S
 | _,_=>.no
def Uh:n8 X (compareOp .LtE) (r2 X UW):=n8.imp TF λx y H Q h9=>by
 z_go
 cases va<;>first|exact h.elim|(cases vb<;>first|exact h.elim|exact⟨_,_,rfl,rfl,h _ _ _ .refl R (.bl _)⟩)
abbrev Bu (a b:A)(S:jJ):R A:=match a,b with
 | .int i,.int j=>.ok (.bl (decide (j<i))) S
 | _,_=>.no
def yH(hu:X.A.units+64<cLine):n8 X (compareOp .Gt) (r2 X Bu):=λpins s σ H x y v u Q I rx ry h9=>by
 z_go
 cases va with
 | int i=>
  cases vb with
  | int j=>exact T8 pins s σ H _ _ v u Q I rx ry ⟨i,j,rfl,rfl,h _ _ _ .refl R (.bl _)⟩
  | _=>exact h.elim
 | _=>exact h.elim
abbrev WK (a b:A)(S:jJ):R A:=match a,b with
 | .int i,.int j=>.ok (.bl (decide (j<=i))) S
 | _,_=>.no
abbrev GO (neg:Bool)(a b:A)(S:jJ):R A:=match a,b with
 | .bl i,.bl j=>.ok (.bl (if neg then i != j else i == j)) S
 | .non,.non=>.ok (.bl (!neg)) S
 | .unb,.non=>.no
 | .exn _,.non=>.no
 | _,.non=>.ok (.bl neg) S
 | _,_=>.no
def Ql{n:Bool}{a b:A}(h1:b≠.non)(h2:∀j,b≠.bl j):GO n a b S=.no:=by
 unfold GO;split<;>first|rfl|exact absurd rfl h1|exact absurd rfl (h2 _)
def QS{n:Bool}{a b:A}{F:A->jJ->Prop}{G:Str->jJ->Prop}(h:(GO n a b S).post F G)(h1:b≠.non)(h2:∀j,b≠.bl j):False:=by
 rw[Ql h1 h2]at h;exact h
def Vp:n8 X (compareOp .Is) (r2 X (GO false)):=λpins s σ H x y v u Q I rx ry h9=>by
 z_go
 cases vb with
 | non=>
  refine PR pins s σ H _ _ v u Q I rx ry ⟨rfl,?_⟩
  cases va<;>first|exact h _ _ _ .refl R (.bl _)|exact h.elim
 | bl j=>
  cases va with
  | bl i=>exact Qe pins s σ H _ _ v u Q I rx ry ⟨i,j,rfl,rfl,h _ _ _ .refl R (.bl _)⟩
  | _=>exact h.elim
 | _=>
  exact(QS h (λz=>nomatch z) nofun).elim
abbrev N7 (f:A->jJ->R A)(c:Ex):Ex:=λτ S=>(c τ S).bind λa S1=>f a S1
abbrev HV (a:A)(S:jJ):R A:=match a with
 | .int i=>.ok (.int (-i)) S
 | _=>.no
def SN:US X (unaryOp .USub) (r1 X HV):=λpins s σ H x v Q I rx h9=>by
 obtain⟨ρ,S,a,R,va,h⟩:=h9
 cases va with
 | int i=>exact CT pins s σ H _ v Q I rx ⟨i,rfl,h _ _ _ .refl R (.int _)⟩
 | _=>exact h.elim
def Rv{f:A->jJ->R A}{c:Ex}{H:Hp}{Q:VK}(h:tE X (N7 f c) σ H Q):Ww (r1 X f) (tE X c) σ H Q:=by
 kln_w;exact⟨ρ,S,τ,R,r,jH (jM h) .refl λa S1 h1 ρ1 H1 x e1 R1 v1=>⟨ρ1,S1,a,R1,v1,jH h1 e1 λc S3 h3=>h3.ext e1⟩⟩
def J9{c:Ex}(h:AE X a c):AE X (.UnaryOp .USub a pos) (N7 HV c):=PE.imp (J7 SN h) λ_ _ _ q=>Rv q
abbrev nX (a b:A)(S:jJ):R A:=match a,b with
 | .tup xs,.int i=>opt (nQ xs i) λx=>.ok x S
 | .frz xs,.int i=>opt (nQ xs i) λx=>.ok x S
 | .ref n,.int i=>opt (jF S n) λxs=>opt (nQ xs i) λx=>.ok x S
 | .str z,.int i=>gd (z.length<=sizeLine) (opt (nQ z.cps.toList i) λc=>.ok (.str ⟨#[c]⟩) S)
 | _,_=>.no
def AVs.nQ{K:au}{H:Hp}{i:Int}{x:A}(r:AVs K ρ H xs vs)(h:L2.nQ xs i=some x):∃v,L2.nQ vs i=some v/\AV K ρ H x v:=by
 unfold L2.nQ at h ⊢;rw[<- r.length]
 cases hj:yy xs.length i with
 | none=>rw[hj]at h;cases h
 | some j=>
  rw[hj]at h;exact r.get h
def Uq:PN X (r2 X nX):=λvalue slice pins s σ H x y v u Q I rx ry ⟨ρ,S,a,b,R,va,vb,h⟩ hs=>by
 cases va with
 | @tup p xs vs h1 r1=>
  cases vb with
  | int i=>
   obtain⟨x,hx,h⟩:=jK h;obtain⟨z,e,q⟩:=r1.nQ hx;exact QU value slice pins s σ H _ _ v u Q I rx ry ⟨p,vs,i,z,rfl,rfl,m9.of h1,e,h _ _ _ .refl R q⟩ hs
  | _=>exact h.elim
 | @frz p xs vs h1 r1=>
  cases vb with
  | int i=>
   obtain⟨x,hx,h⟩:=jK h;obtain⟨z,e,q⟩:=r1.nQ hx;exact F5 value slice pins s σ H _ _ v u Q I rx ry ⟨p,vs,i,z,rfl,rfl,h1.JS,e,h _ _ _ .refl R q⟩ hs
  | _=>exact h.elim
 | @ref p n hp=>
  cases vb with
  | int i=>
   kt_k;obtain⟨x,hx,h⟩:=jK h;obtain⟨vs,h1,r1⟩:=R.lst hp (jT hn);obtain⟨z,e,q⟩:=r1.nQ hx;exact F5 value slice pins s σ H _ _ v u Q I rx ry ⟨p,vs,i,z,rfl,rfl,nB.of h1,e,h _ _ _ .refl R q⟩ hs
  | _=>exact h.elim
 | str z=>
  cases vb with
  | int i=>
   obtain⟨hz,h⟩:=j4 h;obtain⟨c,hc,h⟩:=jK h;exact QE value slice pins s σ H _ _ v u Q I rx ry ⟨z,i,c,rfl,rfl,hz,hc,h _ _ _ .refl R (.str _)⟩ hs
  | _=>exact h.elim
 | _=>exact h.elim
def kM{ca cb:Ex}(ha:AE X a ca)(hb:AE X b cb)(hs:Av b:=by exact λ_ _=>rfl):AE X (.Subscript a b pos) (jN nX ca cb):=PE.imp (O0 Uq ha hb hs) λσ H Q h=>uh h
end
abbrev v9 (f:A->A->bd):ad->ad->bd
 | [],[]=>some true
 | x::xs,y::ys=>(f x y).bind λp=>(v9 f xs ys).map λq=>p && q
 | _,_=>some false
inductive Sh
 | non
 | bl (b:Bool)
 | int (i:Int)
 | str (x:Str)
 | tup (xs:ad)
 | lst
abbrev Rm (S:jJ):A->Option Sh
 | .non=>some .non
 | .bl b=>some (.bl b)
 | .int i=>some (.int i)
 | .str x=>some (.str x)
 | .tup xs=>some (.tup xs)
 | .ref i=>(jF S i).map λ_=>.lst
 | _=>none
abbrev Nq (f:A->A->bd):Sh->Sh->bd
 | .non,.non=>some true
 | .bl x,.bl y=>some (x == y)
 | .bl x,.int y=>some ((if x then 1 else 0) == y)
 | .int x,.bl y=>some (x == (if y then 1 else 0))
 | .int x,.int y=>some (x == y)
 | .str x,.str y=>some (x == y)
 | .tup xs,.tup ys=>v9 f xs ys
 | .lst,.lst=>none
 | _,_=>some false
abbrev B9 (S:jJ):Nat->A->A->bd
 | 0,_,_=>none
 | n+1,a,b=>match a,b with
  | .ref i,.ref j=>(jF S i).bind λxs=>(jF S j).bind λys=>v9 (B9 S n) xs ys
  | _,_=>(Rm S a).bind λx=>(Rm S b).bind λy=>Nq (B9 S n) x y
section
variable {X:Cx}{pins:bj}{σ:L2.St}{H:Hp}{s:aC}{ρ:ar}{S:jJ}
inductive KdV (s:aC):Sh->af->Prop
 | non:KdV s .non .none
 | bl (b:Bool):KdV s (.bl b) (.bool b)
 | int (i:Int) (t:Tok):KdV s (.int i) (.int i t)
 | str (x:Str) (t:Tok):KdV s (.str x) (.str x t)
 | tup {p:ak} {us:ap} (xs:ad) (h:s.heap.IsTuple p us.toArray):KdV s (.tup xs) (.ref p)
 | lst {p:ak} {us:ap} (h:s.heap.IsList p us.toArray):KdV s .lst (.ref p)
def DE{p:ak}(h:s.heap.IsTuple p us)(h':s.heap.IsList p ws):False:=by
 obtain⟨o,e,c,_⟩:=h;obtain⟨o',e',c',_⟩:=h';rw[e]at e'
 cases e'
 exact absurd (c.symm.trans c') ⋯
def FW(I:Inv X pins σ H s)(R:Rel X.K ρ H S){a:A}{x:V}(ha:AV X.K ρ H a x)(r:RelV x u)(e:Rm S a=some h):KdV s h u:=by
 cases ha with
 | non=>cases e;cases(show u=Value.none from r);exact .non
 | bl b=>cases e;cases(show u=Value.bool b from r);exact .bl b
 | int i=>cases e;obtain⟨t,rfl⟩:∃t,u=Value.int i t:=r;exact .int i t
 | str i=>cases e;obtain⟨t,rfl⟩:∃t,u=Value.str i t:=r;exact .str i t
 | tup h1 r1=>cases e;cases(show u=Value.ref _ from r);obtain⟨us,_,p,_⟩:=I.tuple (m9.of h1);exact .tup _ p
 | ref h1=>
  obtain⟨xs,e1,rfl⟩:=bw.mp e
  cases(show u=Value.ref _ from r)
  obtain⟨vs,h3,r1⟩:=R.lst h1 (jT e1);obtain⟨us,_,p,_⟩:=I.list (nB.of h3);exact .lst p.isList
 | _=>cases e
abbrev Al (B:aA)(s:aC)(u v:af)(k:Bool):Prop:=SeqAt.RcAt B s u v k/\SeqAt.EqAt B s u v k/\SeqAt.RcNeAt B s u v (!k)
def Uz{B:aA}(hu:B.units<cLine){f:A->A->bd}{v:af}{k:Bool}(d:KdV s h u)(d':KdV s h' v)(nt:∀xs ys,h=.tup xs->h'≠.tup ys)(e:Nq f h h'=some k):Al B s u v k:=by
 cases d with
 | non=>cases d' with
  | non=>cases e;exact⟨.none_none,.same _,.none_none⟩
  | bl b=>cases e;exact⟨.none_bool _,.none_bool _,.none_bool _⟩
  | int i t=>cases e;exact⟨.none_int _ _,.none_int _ _,.none_int _ _⟩
  | str x t=>cases e;exact⟨.none_str _ _,.none_str _ _,.none_str _ _⟩
  | tup xs p=>cases e;exact⟨.none_tuple p hu,.none_tuple p hu,.none_tuple p hu⟩
  | lst p=>cases e;exact⟨.none_list p hu,.none_list p hu,.none_list p hu⟩
 | bl c=>cases d' with
  | non=>cases e;exact⟨.bool_none _,.bool_none _,.bool_none _⟩
  | bl b=>cases e;exact⟨.bool_bool _ _,.bool_bool _ _,.bool_bool _ _⟩
  | int i t=>cases e;exact⟨.bool_int _ _ _,.bool_int _ _ _,.bool_int _ _ _⟩
  | str x t=>cases e;exact⟨.bool_str _ _ _,.bool_str _ _ _,.bool_str _ _ _⟩
  | tup xs p=>cases e;exact⟨.bool_tuple _ p hu,.bool_tuple _ p hu,.bool_tuple _ p hu⟩
  | lst p=>cases e;exact⟨.bool_list _ p hu,.bool_list _ p hu,.bool_list _ p hu⟩
 | int c t'=>cases d' with
  | non=>cases e;exact⟨.int_none _ _,.int_none _ _,.int_none _ _⟩
  | bl b=>cases e;exact⟨.int_bool _ _ _,.int_bool _ _ _,.int_bool _ _ _⟩
  | int i t=>cases e;exact⟨.int_int _ _ _ _,.int_int _ _ _ _,.int_int _ _ _ _⟩
  | str x t=>cases e;exact⟨.int_str _ _ _ _,.int_str _ _ _ _,.int_str _ _ _ _⟩
  | tup xs p=>cases e;exact⟨.int_tuple _ _ p hu,.int_tuple _ _ p hu,.int_tuple _ _ p hu⟩
  | lst p=>cases e;exact⟨.int_list _ _ p hu,.int_list _ _ p hu,.int_list _ _ p hu⟩
 | str c t'=>cases d' with
  | non=>cases e;exact⟨.str_none _ _,.str_none _ _,.str_none _ _⟩
  | bl b=>cases e;exact⟨.str_bool _ _ _,.str_bool _ _ _,.str_bool _ _ _⟩
  | int i t=>cases e;exact⟨.str_int _ _ _ _,.str_int _ _ _ _,.str_int _ _ _ _⟩
  | str x t=>cases e;exact⟨.str_str _ _ _ _,.str_str _ _ _ _,.str_str _ _ _ _⟩
  | tup xs p=>cases e;exact⟨.str_tuple _ _ p hu,.str_tuple _ _ p hu,.str_tuple _ _ p hu⟩
  | lst p=>cases e;exact⟨.str_list _ _ p hu,.str_list _ _ p hu,.str_list _ _ p hu⟩
 | tup zs p'=>cases d' with
  | non=>cases e;exact⟨.tuple_none p' hu,.tuple_none p' hu,.tuple_none p' hu⟩
  | bl b=>cases e;exact⟨.tuple_bool _ p' hu,.tuple_bool _ p' hu,.tuple_bool _ p' hu⟩
  | int i t=>cases e;exact⟨.tuple_int _ _ p' hu,.tuple_int _ _ p' hu,.tuple_int _ _ p' hu⟩
  | str x t=>cases e;exact⟨.tuple_str _ _ p' hu,.tuple_str _ _ p' hu,.tuple_str _ _ p' hu⟩
  | tup xs p=>exact absurd rfl (nt _ _ rfl)
  | lst p=>cases e;exact⟨.tuple_list p' p hu,.of_refs (λz=>by subst z;exact DE p' p) (.tuple_list p' p hu),.tuple_list p' p hu⟩
 | lst p'=>cases d' with
  | non=>cases e;exact⟨.list_none p' hu,.list_none p' hu,.list_none p' hu⟩
  | bl b=>cases e;exact⟨.list_bool _ p' hu,.list_bool _ p' hu,.list_bool _ p' hu⟩
  | int i t=>cases e;exact⟨.list_int _ _ p' hu,.list_int _ _ p' hu,.list_int _ _ p' hu⟩
  | str x t=>cases e;exact⟨.list_str _ _ p' hu,.list_str _ _ p' hu,.list_str _ _ p' hu⟩
  | tup xs p=>cases e;exact⟨.list_tuple p' p hu,.of_refs (λz=>by subst z;exact DE p p') (.list_tuple p' p hu),.list_tuple p' p hu⟩
  | lst p=>cases e
def zE{a:A}{x:V}(h:AV X.K ρ H a x)(e:Rm S a=some (.tup xs)):a=.tup xs/\∃p vs,x=.ref p/\H p=some (.tup vs)/\AVs X.K ρ H xs vs:=by
 cases h with
 | tup h r=>cases e;exact⟨rfl,_,_,rfl,h,r⟩
 | ref h=>obtain⟨_,_,z⟩:=bw.mp e;cases z
 | _=>cases e
def Az{i:Nat}{x:V}(h:AV X.K ρ H (.ref i) x):∃p,x=.ref p/\ρ[i]?=some p:=by
 cases h with
 | ref h=>exact⟨_,rfl,h⟩
def JH{a:A}(e:Rm S a=some .lst):∃i,a=.ref i:=by
 cases a with
 | ref i=>exact⟨i,rfl⟩
 | _=>cases e
def JA{n:Nat}{a:A}{k:Bool}(e:B9 S (n+1) a b=some k):(∃i j xs ys,a=.ref i/\b=.ref j/\jF S i=some xs/\jF S j=some ys/\v9 (B9 S n) xs ys=some k)\/(∃h h',Rm S a=some h/\Rm S b=some h'/\Nq (B9 S n) h h'=some k/\(h=.lst->h'≠.lst)):=by
 unfold B9 at e;split at e
 ·obtain⟨xs,e1,e⟩:=dm.mp e;obtain⟨ys,e2,e⟩:=dm.mp e;exact .inl ⟨_,_,xs,ys,rfl,rfl,e1,e2,e⟩
 ·rename_i nr;obtain⟨h,e1,e⟩:=dm.mp e;obtain⟨h',e2,e⟩:=dm.mp e;refine .inr ⟨h,h',e1,e2,e,λz1 z2=>?_⟩;subst z1 z2;obtain⟨i,rfl⟩:=JH e1;obtain⟨j,rfl⟩:=JH e2;exact nr i j rfl rfl
def M_{f:A->A->bd}{k:Bool}(d:KdV s h u)(d':KdV s h' u)(nt:∀xs ys,h=.tup xs->h'≠.tup ys)(e:Nq f h h'=some k):k=true:=by
 cases d with
 | non=>cases d';exact(aW e).symm
 | bl b=>cases d';exact(aW e).symm.trans (bQ b)
 | int b=>cases d';exact(aW e).symm.trans (bQ b)
 | str b=>cases d';exact(aW e).symm.trans (bQ b)
 | tup xs p=>cases d' with
  | tup=>exact absurd rfl (nt _ _ rfl)
  | lst q=>exact(DE p q).elim
 | lst p=>cases d' with
  | tup _ q=>exact(DE q p).elim
  | lst q=>cases e
def Cc{f:A->A->bd}(hf:∀a b x u k,AV X.K ρ H a x->AV X.K ρ H b x->RelV x u->f a b=some k->k=true):∀{xs ys:ad}{vs:List V}{us:ap}{k:Bool},AVs X.K ρ H xs vs->AVs X.K ρ H ys vs->Vals vs us->v9 f xs ys=some k->k=true:=by
 intro xs ys vs us k h1 h2 q e
 induction q generalizing xs ys k with
 | nil=>cases h1;cases h2;exact(aW e).symm
 | cons rv _ ih=>
  cases h1 with
  | cons h t=>cases h2 with
   | cons h' t'=>
    obtain⟨p,e1,e⟩:=dm.mp e;obtain⟨q,e2,e3⟩:=bw.mp e;rw[<- e3,hf _ _ _ _ p h h' rv e1,ih t t' e2];rfl
def Gg(h h':Sh):(∃xs ys,h=.tup xs/\h'=.tup ys)\/(∀xs ys,h=.tup xs->h'≠.tup ys):=by
 cases h with
 | tup xs=>cases h' with
  | tup ys=>exact .inl ⟨xs,ys,rfl,rfl⟩
  | _=>exact .inr λ_ _ _ z=>nomatch z
 | _=>exact .inr λ_ _ z=>nomatch z
theorem Ah(I:Inv X pins σ H s)(R:Rel X.K ρ H S):∀(n:Nat) (a b:A) (x:V) (u:af) (k:Bool),AV X.K ρ H a x->AV X.K ρ H b x->RelV x u->B9 S n a b=some k->k=true
 | 0,_,_,_,_,_,_,_,_,e=>nomatch e
 | n+1,a,b,x,u,k,ha,hb,ru,e=>by
  rcases JA e with⟨i,j,xs,ys,rfl,rfl,e1,e2,e⟩|⟨h,h',e1,e2,e,_⟩
  ·obtain⟨p,rfl,h1⟩:=Az ha;obtain⟨q,z,h2⟩:=Az hb
   cases z
   obtain⟨vs,h3,r1⟩:=R.lst h1 (jT e1);obtain⟨ws,h4,r2⟩:=R.lst h2 (jT e2);rw[h3]at h4
   cases h4
   obtain⟨us,q,_⟩:=I.list (nB.of h3);exact Cc (λa b x u k=>Ah I R n a b x u k) r1 r2 q e
  ·rcases Gg h h' with⟨xs,ys,rfl,rfl⟩|nt
   ·obtain⟨rfl,p,vs,rfl,h3,r1⟩:=zE ha e1;obtain⟨rfl,q,ws,z,h4,r2⟩:=zE hb e2
    cases z
    have:=I.y9 (m9.of h3) (m9.of h4);subst this;obtain⟨us,q,_⟩:=I.tuple (m9.of h3);exact Cc (λa b x u k=>Ah I R n a b x u k) r1 r2 q e
   ·exact M_ (FW I R ha ru e1) (FW I R hb ru e2) nt e
abbrev yG (f:A->A->bd)(xs ys:ad)(j:Nat):Bool:=match xs[j]?,ys[j]? with
 | some x,some y=>(f x y).getD true
 | _,_=>true
theorem wB{f:A->A->bd}:∀{xs ys:ad}{k:Bool},v9 f xs ys=some k->k=((List.range (min xs.length ys.length)).all (yG f xs ys) && xs.length == ys.length)/\∀j x y,xs[j]?=some x->ys[j]?=some y->f x y=some (yG f xs ys j)
 | [],[],k,e=>⟨(aW e).symm,λj x y h=>by simp at h⟩
 | [],_::_,k,e=>⟨(aW e).symm,λj x y h=>by simp at h⟩
 | _::_,[],k,e=>⟨(aW e).symm,λj x y _ h=>by simp at h⟩
 | x::xs,y::ys,k,e=>by
  unfold v9 at e
  cases e1:f x y with
  | none=>rw[e1]at e;cases e
  | some p=>
   rw[e1]at e;obtain⟨q,e2,e3⟩:=bw.mp e;obtain⟨h1,h2⟩:=wB e2;have p0:yG f (x::xs) (y::ys) 0=p:=by simp[yG,e1]
   have ps:∀j,yG f (x::xs) (y::ys) (j+1)=yG f xs ys j:=λj=>by simp[yG]
   refine⟨?_,λj a b ha hb=>?_⟩
   ·rw[<- e3,h1,bE,bE,Nat.succ_min_succ,gM,jd,all_map,p0];have:(yG f (x::xs) (y::ys) ∘ Nat.succ)=yG f xs ys:=funext ps;rw[this,Bool.and_assoc];simp
   ·cases j with
    | zero=>
     simp at ha hb;subst ha hb;rw[p0];exact e1
    | succ j=>rw[ps];exact h2 j a b (by simpa using ha) (by simpa using hb)
def v_{f:A->A->bd}{B:aA}(hf:∀a b x y u v k,AV X.K ρ H a x->AV X.K ρ H b y->RelV x u->RelV y v->f a b=some k->SeqAt.EqAt B s u v k){us ts:ap}{k:Bool}
  (r1:AVs X.K ρ H xs vs) (r2:AVs X.K ρ H ys ws) (q1:Vals vs us) (q2:Vals ws ts) (e:v9 f xs ys=some k):∀j (h1:j<us.toArray.size) (h2:j<ts.toArray.size),SeqAt.EqAt B s us.toArray[j] ts.toArray[j] (yG f xs ys j):=by
 intro j h1 h2;have l1:=r1.length;have l2:=r2.length;have l3:=q1.length;have l4:=q2.length;have hx:j<xs.length:=by simp at h1;lia
 have hy:j<ys.length:=by simp at h2;lia
 have e1:xs[j]?=some xs[j]:=aH hx;have e2:ys[j]?=some ys[j]:=aH hy;obtain⟨x,ex,ax⟩:=r1.get e1;obtain⟨y,ey,ay⟩:=r2.get e2;obtain⟨u,eu,ru⟩:=q1.get ex;obtain⟨t,et,rt⟩:=q2.get ey;have a1:us.toArray[j]=u:=by
  have:us[j]?=some us.toArray[j]:=by simp at h1;simp[h1]
  rw[eu]at this;exact(aW this).symm
 have a2:ts.toArray[j]=t:=by
  have:ts[j]?=some ts.toArray[j]:=by simp at h2;simp[h2]
  rw[et]at this;exact(aW this).symm
 rw[a1,a2];exact hf _ _ x y u t _ ax ay ru rt ((wB e).2 j _ _ e1 e2)
def in1_units(B:aA):B.in1.units=B.units+1:=rfl
theorem AR(I:Inv X pins σ H s)(R:Rel X.K ρ H S):∀(n:Nat) (B:aA) (a b:A) (x y:V) (u v:af) (k:Bool),B.units+n<cLine->AV X.K ρ H a x->AV X.K ρ H b y->RelV x u->RelV y v->B9 S n a b=some k->Al B s u v k
 | 0,_,_,_,_,_,_,_,_,_,_,_,_,_,e=>nomatch e
 | n+1,B,a,b,x,y,u,v,k,hu,ha,hb,rx,ry,e=>by
  have hu0:B.units<cLine:=()
  have items:∀a b x y u v k,AV X.K ρ H a x->AV X.K ρ H b y->RelV x u->RelV y v->B9 S n a b=some k->SeqAt.EqAt B.in1 s u v k:=λa b x y u v k h1 h2 h3 h4 h5=>(AR I R n B.in1 a b x y u v k (by rw[in1_units];lia) h1 h2 h3 h4 h5).2.1;have same:=λ(z:y=x)=>Ah I R (n+1) a b x u k ha (z ▸ hb) rx e;have refs:∀{p q:ak},x=.ref p->y=.ref q->u=.ref p->v=.ref q->SeqAt.RcAt B s u v k->SeqAt.EqAt B s u v k:=λ{p q} z1 z2 z3 z4 h=>by
   subst z3 z4;by_cases hp:p=q
   ·subst hp;rw[same (z2.trans z1.symm)];exact .same _
   ·exact .of_refs hp h
  rcases JA e with⟨i,j,xs,ys,rfl,rfl,e1,e2,e⟩|⟨h,h',e1,e2,e,_⟩
  ·obtain⟨p,rfl,h1⟩:=Az ha;obtain⟨q,rfl,h2⟩:=Az hb;obtain⟨vs,h3,r1⟩:=R.lst h1 (jT e1);obtain⟨ws,h4,r2⟩:=R.lst h2 (jT e2);obtain⟨us,q1,p1,_⟩:=I.list (nB.of h3);obtain⟨ts,q2,p2,_⟩:=I.list (nB.of h4);have ru:=refs rfl rfl rx ry
   cases(show u=Value.ref p from rx)
   cases(show v=Value.ref q from ry)
   have l1:=r1.length;have l2:=r2.length;have l3:=q1.length;have l4:=q2.length;have ek:=(wB e).1;by_cases hl:xs.length=ys.length
   ·rw[<- hl,Nat.min_self,bQ,Bool.and_true]at ek;have eh:us.toArray.size=ts.toArray.size:=by simp;lia
    have z1:=SeqAt.RcAt.lists p1.isList p2.isList eh hu0 (v_ items r1 r2 q1 q2 e);have z2:=SeqAt.RcNeAt.lists p1.isList p2.isList eh hu0 (v_ items r1 r2 q1 q2 e);rw[aS,<- l3,<- l1,<- ek]at z1 z2;exact⟨z1,ru z1,z2⟩
   ·have:(xs.length == ys.length)=false:=by simpa using hl
    rw[this,Bool.and_false]at ek;subst ek;have eh:(us.toArray.size != ts.toArray.size)=true:=by simp;lia
    have z1:=SeqAt.RcAt.lists_lengths p1.isList p2.isList eh hu0;exact⟨z1,ru z1,SeqAt.RcNeAt.lists_lengths p1.isList p2.isList eh hu0⟩
  ·rcases Gg h h' with⟨xs,ys,rfl,rfl⟩|nt
   ·obtain⟨rfl,p,vs,rfl,h3,r1⟩:=zE ha e1;obtain⟨rfl,q,ws,rfl,h4,r2⟩:=zE hb e2;have ru:=refs rfl rfl rx ry
    cases(show u=Value.ref p from rx)
    cases(show v=Value.ref q from ry)
    obtain⟨us,q1,p1,_⟩:=I.tuple (m9.of h3);obtain⟨ts,q2,p2,_⟩:=I.tuple (m9.of h4);have ek:=(wB e).1;have z1:=SeqAt.RcAt.tuples p1 p2 hu0 (v_ items r1 r2 q1 q2 e);have z2:=SeqAt.RcNeAt.tuples p1 p2 hu0 (v_ items r1 r2 q1 q2 e);rw[aS,aS,<- q1.length,<- q2.length,<- r1.length,<- r2.length,<- ek]at z1 z2;exact⟨z1,ru z1,z2⟩
   ·exact Uz hu0 (FW I R ha rx e1) (FW I R hb ry e2) nt e
end
section
variable {X:Cx}
abbrev Hj (neg:Bool)(a b:A)(S:jJ):R A:=opt (B9 S 12 a b) λk=>.ok (.bl (if neg then !k else k)) S
def VQ(hu:X.A.units+64<cLine):n8 X (compareOp .Eq) (r2 X (Hj false)):=λpins s σ H x y v u Q I rx ry h9=>by
 z_go;obtain⟨k,e,h⟩:=jK h;exact(AR I R 12 X.A a b x y v u k (by omega) va vb rx ry e).1 _ _ _ _ ⟨.bl _,H,I,rfl,h _ _ _ .refl R (.bl _)⟩
def O7(hu:X.A.units+64<cLine):n8 X (compareOp .NotEq) (r2 X (Hj true)):=λpins s σ H x y v u Q I rx ry h9=>by
 z_go;obtain⟨k,e,h⟩:=jK h;exact(AR I R 12 X.A a b x y v u k () va vb rx ry e).2.2 _ _ _ _ ⟨.bl _,H,I,rfl,h _ _ _ .refl R (.bl _)⟩
end
section
variable {X:Cx}{pos:Pos}{a b:aE}
meta abbrev Pt:=ad->jJ->R (bb)
abbrev Dz:Pt:=λ_ S=>.ok none S
abbrev vV (c:Ex):Pt:=λτ S=>(c τ S).bind λa S1=>match a with
 | .int i=>.ok (some i) S1
 | _=>.no
abbrev tO (X:Cx)(c:Pt):TO:=λσ H Q=>∃ρ S τ,Rel X.K ρ H S/\SR X.K ρ H τ σ/\(c τ S).post (λo S'=>∀ρ' H',Ext ρ ρ' H H'->Rel X.K ρ' H' S'->Q o H') (XE X ρ H)
abbrev AO (X:Cx)(e:Option aE)(c:Pt):Prop:=PO X e (tO X c)
def Fe:AO X none Dz:=λpins s σ H Q I ⟨ρ,S,τ,R,r,h⟩=>Nf pins s σ H Q I (h ρ H .refl R)
def wC{c:Ex}(ha:AE X a c):AO X (some a) (vV c):=λpins s σ H Q I ⟨ρ,S,τ,R,r,h⟩=>MN ha pins s σ H Q I ⟨ρ,S,τ,R,r,jH (jM h) .refl λx S1 h1 ρ1 H1 v e1 R1 v1=>by
 cases v1<;>first|exact h1.elim|exact⟨_,rfl,h1 ρ1 H1 e1 R1⟩⟩
abbrev ug (xs:ad)(lo hi:bb):ad:=(xs.drop (HT.mh xs.length 0 lo)).take (HT.mh xs.length xs.length hi-HT.mh xs.length 0 lo)
def AVs.cut{K:au}{H:Hp}(r:AVs K ρ H xs vs)(lo hi:bb):AVs K ρ H (ug xs lo hi) (A6 vs lo hi):=by
 unfold ug A6;rw[r.length];exact(r.drop _).take _
abbrev Hl (a:A)(lo hi:bb)(S:jJ):R A:=match a with
 | .ref n=>opt (jF S n) λxs=>.ok (.ref S.length) (S++[.lst (ug xs lo hi)])
 | .frz xs=>.ok (.ref S.length) (S++[.lst (ug xs lo hi)])
 | .tup xs=>gd (¬(HT.mh xs.length 0 lo=0/\HT.mh xs.length xs.length hi=xs.length)) (.ok (.tup (ug xs lo hi)) S)
 | _=>.no
abbrev Sk (c:Ex)(lo hi:Pt):Ex:=λτ S=>(c τ S).bind λa S1=>(lo τ S1).bind λl S2=>(hi τ S2).bind λu S3=>Hl a l u S3
abbrev rS (X:Cx):V->bb->bb->Hp->VK->Prop:=λx lo hi H Q=>∃ρ S a,Rel X.K ρ H S/\AV X.K ρ H a x/\(Hl a lo hi S).post (wk X ρ H Q) (XE X ρ H)
def O5:UZ X (rS X):=λpins s σ H x v vl vu lo hi sl Q I rx hs pl pu h9=>by
 obtain⟨ρ,S,a,R,va,h⟩:=h9
 cases va with
 | @tup p xs vs h1 r1=>
  obtain⟨hc,h⟩:=j4 h;exact QB pins s σ H _ v vl vu lo hi sl Q I rx hs pl pu ⟨p,vs,rfl,(m9.of h1),by rw[<- r1.length];exact hc,qp R (r1.cut lo hi) .refl h⟩
 | @frz p xs vs h1 r1=>exact D0 pins s σ H _ v vl vu lo hi sl Q I rx hs pl pu ⟨p,vs,rfl,h1.JS,lK R (r1.cut lo hi) .refl h⟩
 | @ref p n hp=>
  kt_k;obtain⟨vs,h1,r1⟩:=R.lst hp (jT hn);exact D0 pins s σ H _ v vl vu lo hi sl Q I rx hs pl pu ⟨p,vs,rfl,nB.of h1,lK R (r1.cut lo hi) .refl h⟩
 | _=>exact h.elim
def KD{e:aE}{lo hi:Option aE}{c:Ex}{cl ch:Pt}(he:AE X e c)(hl:AO X lo cl)(hh:AO X hi ch):AE X (.Subscript e (.Slice lo hi none p2) pos) (Sk c cl ch):=PE.imp (KG O5 he hl hh) λσ H Q h9=>by
 room;refine⟨ρ,S,τ,R,r,jH (jM h) .refl λa S1 h1 ρ1 H1 x e1 R1 v1=>⟨ρ1,S1,τ,R1,r.ext e1,jH (jM h1) e1 λl S2 h2 ρ2 H2 e2 R2=>⟨ρ2,S2,τ,R2,r.ext (e1.trans e2),jH (jM h2) (e1.trans e2) λu S3 h3 ρ3 H3 e3 R3=>?_⟩⟩⟩;exact⟨ρ3,S3,a,R3,v1.ext (e2.trans e3),jH h3 (e1.trans (e2.trans e3)) λ_ _ z=>z.ext (e1.trans (e2.trans e3))⟩
abbrev G8 (a:A)(S:jJ):R A:=match a with
 | .ref n=>opt (jF S n) λxs=>.ok (.ref S.length) (S++[.lst xs.reverse])
 | .tup xs=>.ok (.tup xs.reverse) S
 | _=>.no
def Q3{e:aE}{up cp:Pos}{kk:Nat}{c:Ex}(he:AE X e c):AE X (.Subscript e (.Slice none none (some (.UnaryOp .USub (.Constant (.int 1) kk cp) up)) p2) pos) (N7 G8 c):=λpins s σ H Q I h9=>by
 room;have hb:=jM h
 cases hc:c τ S with
 | no=>rw[hc]at hb;exact hb.elim
 | ex x S1=>
  rw[hc]at hb;exact El he pins s σ H Q I ⟨ρ,S,τ,R,r,by rw[hc];exact hb⟩
 | ok a S1=>
  rw[hc]at hb;have hb:(G8 a S1).post (wk X ρ H Q) (XE X ρ H):=hb
  cases a with
  | tup xs=>
   refine El he pins s σ H Q I ⟨ρ,S,τ,R,r,?_⟩;rw[hc];intro ρ1 H1 x e1 R1 v1
   cases v1 with
   | tup h1 r1=>exact⟨_,_,rfl,(m9.of h1),qp R1 r1.reverse e1 hb⟩
  | ref n=>
   refine Ml he pins s σ H Q I ⟨ρ,S,τ,R,r,?_⟩;rw[hc];intro ρ1 H1 x e1 R1 v1;obtain⟨xs,hn,h⟩:=jK hb
   cases v1 with
   | ref hp=>
    obtain⟨vs,h1,r1⟩:=R1.lst hp (jT hn);exact⟨_,_,rfl,nB.of h1,lK R1 r1.reverse e1 h⟩
  | _=>exact hb.elim
abbrev jZ (f:ad->jJ->R A)(d:qt):Ex:=λτ S=>(d τ S).bind λas S1=>f as S1
def AQ{f:ad->jJ->R A}{d:qt}{H:Hp}{Q:VK}(h:tE X (jZ f d) σ H Q):Vu (rN X f) (tL X d) σ H Q:=by
 kln_w;exact⟨ρ,S,τ,R,r,jH (jM h) .refl λas S1 h1 ρ1 H1 vs e1 R1 v1=>⟨ρ1,S1,as,R1,v1,jH h1 e1 λ_ _ z=>z.ext e1⟩⟩
variable {x:Str}{p:Pos}{e:aE}{es:List aE}{id T:String}{f:ad->jJ->R A}{d:qt}
def jW(hc:j5 X (.builtin id) (rN X f))(hm:X.mg x=none)(hv:bootBuiltins x=some (.builtin id))(ha:AL X (e::es) d)(hg:Gl X x:=by rfl)(hn:x ≠ "__name__" := by decide)(hdb:(x == ("__debug__" : Str))=false:=by decide)
  (he:starEach (e::es) X.env=(false,eval e X.env)::starEach es X.env:=by rfl) (hpl:(backTo pos (starEach es X.env)).any (·.1)=false:=by rfl):AE X (.Call (.Name x p) (e::es) [] pos) (jZ f d):=
 PE.imp (L3 hc hg hm hv ha hn hdb he hpl) λ_ _ _ h=>AQ h
def lY(hc:j5 X (.type T) (rN X f))(hm:X.mg x=none)(hv:bootBuiltins x=some (.type T))(ha:AL X (e::es) d)(hg:Gl X x:=by rfl)(hn:x ≠ "__name__" := by decide)(hdb:(x == ("__debug__" : Str))=false:=by decide)
  (he:starEach (e::es) X.env=(false,eval e X.env)::starEach es X.env:=by rfl) (hpl:(backTo pos (starEach es X.env)).any (·.1)=false:=by rfl):AE X (.Call (.Name x p) (e::es) [] pos) (jZ f d):=
 PE.imp (yK hc hg hm hv ha hn hdb he hpl) λ_ _ _ h=>AQ h
def JQ(hm:X.mg x=none)(hv:bootBuiltins x=some (.type T))(hg:Gl X x:=by rfl)(hn:x ≠ "__name__" := by decide)(hdb:(x == ("__debug__" : Str))=false:=by decide):AE X (.Name x pos) (eC (.ty T)):=
 PE.imp (MI (v:=.ty T) hg hm hv rfl hn hdb) λσ H Q ⟨ρ,S,τ,R,r,h⟩=>h ρ H _ .refl R (.ty T)
abbrev A.seq (S:jJ):A->Option (ad)
 | .tup xs=>some xs
 | .frz xs=>some xs
 | .ref n=>jF S n
 | _=>none
def Ph{K:au}{H:Hp}{x:A}{v:V}(R:Rel K ρ H S)(h:AV K ρ H x v)(e:x.seq S=some xs):∃p vs,v=.ref p/\(nB K H p vs\/m9 K H p vs)/\AVs K ρ H xs vs:=by
 cases h with
 | tup h r=>cases aW e;exact⟨_,_,rfl,.inr (m9.of h),r⟩
 | frz h r=>cases aW e;exact⟨_,_,rfl,.inl h.JS,r⟩
 | ref h=>
  obtain⟨vs,h1,r1⟩:=R.lst h (jT e);exact⟨_,vs,rfl,.inl (nB.of h1),r1⟩
 | _=>cases e
def CA{K:au}{H:Hp}{x:A}(h:AVs K ρ H [x] vs):∃v,vs=[v]/\AV K ρ H x v:=by
 cases h with
 | cons h t=>cases t;exact⟨_,rfl,h⟩
def V7{K:au}{H:Hp}{x:A}(h:AVs K ρ H [x,y] vs):∃v w,vs=[v,w]/\AV K ρ H x v/\AV K ρ H y w:=by
 cases h with
 | cons h t=>obtain⟨w,rfl,h'⟩:=CA t;exact⟨_,_,rfl,h,h'⟩
abbrev f1 (g:A->jJ->R A):ad->jJ->R A:=λas S=>match as with
 | [x]=>g x S
 | _=>.no
abbrev f2 (g:A->A->jJ->R A):ad->jJ->R A:=λas S=>match as with
 | [x,y]=>g x y S
 | _=>.no
def NP{g:A->jJ->R A}{P:A->jJ->Prop}{E:Str->jJ->Prop}(h:(f1 g as S).post P E):∃x,as=[x]/\(g x S).post P E:=by
 match as,h with
 | [],h=>exact h.elim
 | [x],h=>exact⟨x,rfl,h⟩
 | _::_::_,h=>exact h.elim
def Ny{g:A->A->jJ->R A}{P:A->jJ->Prop}{E:Str->jJ->Prop}(h:(f2 g as S).post P E):∃x y,as=[x,y]/\(g x y S).post P E:=by
 match as,h with
 | [],h=>exact h.elim
 | [_],h=>exact h.elim
 | [x,y],h=>exact⟨x,y,rfl,h⟩
 | _::_::_::_,h=>exact h.elim
def Jh{g:A->jJ->R A}{H:Hp}{Q:VK}(h:rN X (f1 g) vs H Q):∃v,vs=[v]/\∃ρ S x,Rel X.K ρ H S/\AV X.K ρ H x v/\(g x S).post (wk X ρ H Q) (XE X ρ H):=by
 obtain⟨ρ,S,as,R,v,h⟩:=h;obtain⟨x,rfl,h⟩:=NP h;obtain⟨w,rfl,hv⟩:=CA v;exact⟨w,rfl,ρ,S,x,R,hv,h⟩
def UN{g:A->A->jJ->R A}{H:Hp}{Q:VK}(h:rN X (f2 g) vs H Q):∃v w,vs=[v,w]/\∃ρ S x y,Rel X.K ρ H S/\AV X.K ρ H x v/\AV X.K ρ H y w/\(g x y S).post (wk X ρ H Q) (XE X ρ H):=by
 obtain⟨ρ,S,as,R,v,h⟩:=h;obtain⟨x,y,rfl,h⟩:=Ny h;obtain⟨w,w',rfl,hv,hv'⟩:=V7 v;exact⟨w,w',rfl,ρ,S,x,y,R,hv,hv',h⟩
abbrev m8 (x:A)(S:jJ):R A:=match x with
 | .str x=>gd (x.length<=sizeLine) (.ok (.int x.length) S)
 | .tup xs=>.ok (.int xs.length) S
 | .frz xs=>.ok (.int xs.length) S
 | .ref n=>opt (jF S n) λxs=>.ok (.int xs.length) S
 | _=>.no
def nv:j5 X (.builtin "len") (rN X (f1 m8)):=j5.imp Jm λvs H Q h0=>by
 kd_p;clear h0
 cases hv with
 | str z=>
  obtain⟨hz,h⟩:=j4 h;exact⟨_,_,rfl,⟨hz,rfl⟩,h _ _ _ .refl R (.int _)⟩
 | @tup p xs us h1 r=>exact⟨_,us.length,rfl,.inr ⟨us,(m9.of h1),rfl⟩,by rw[<- r.length];exact h _ _ _ .refl R (.int _)⟩
 | @frz p xs us h1 r=>exact⟨_,us.length,rfl,.inl ⟨us,h1.JS,rfl⟩,by rw[<- r.length];exact h _ _ _ .refl R (.int _)⟩
 | ref hp=>
  kt_k;obtain⟨us,h1,r⟩:=R.lst hp (jT hn);exact⟨_,us.length,rfl,.inl ⟨us,nB.of h1,rfl⟩,by rw[<- r.length];exact h _ _ _ .refl R (.int _)⟩
 | _=>exact h.elim
abbrev PU (x:A)(S:jJ):R A:=match x with
 | .int i=>.ok (.int (if i<0 then -i else i)) S
 | _=>.no
def UD:j5 X (.builtin "abs") (rN X (f1 PU)):=j5.imp IA λvs H Q h0=>by
 kd_p;clear h0
 cases hv<;>first|exact h.elim|exact⟨_,rfl,h _ _ _ .refl R (.int _)⟩
abbrev Ih (x y:A)(S:jJ):R A:=match x,y with
 | .int i,.int j=>.ok (.int (if j>i then j else i)) S
 | _,_=>.no
def PL(hc:X.calm=true):j5 X (.builtin "max") (rN X (f2 Ih)):=j5.imp (Gx hc) λvs H Q h0=>by
 obtain⟨w,w',rfl,ρ,S,x,y,R,hv,hv',h⟩:=UN h0;clear h0
 cases hv<;>first|exact h.elim|(cases hv'<;>first|exact h.elim|exact⟨_,_,rfl,h _ _ _ .refl R (.int _)⟩)
abbrev LI (x y:A)(S:jJ):R A:=match x,y with
 | .int i,.int j=>.ok (.int (if j<i then j else i)) S
 | _,_=>.no
def Pb(hc:X.calm=true):j5 X (.builtin "min") (rN X (f2 LI)):=j5.imp (Gu hc) λvs H Q h0=>by
 obtain⟨w,w',rfl,ρ,S,x,y,R,hv,hv',h⟩:=UN h0;clear h0
 cases hv<;>first|exact h.elim|(cases hv'<;>first|exact h.elim|exact⟨_,_,rfl,h _ _ _ .refl R (.int _)⟩)
abbrev Ol (x:A)(S:jJ):R A:=match x with
 | .int i=>.ok (.int i) S
 | .bl k=>.ok (.int (if k then 1 else 0)) S
 | .str y=>opt (PySem.intText? y) λn=>gd (y.length<=640) (.ok (.int n) S)
 | _=>.no
abbrev qg (x y:A)(S:jJ):R A:=match x,y with
 | .int i,.int j=>.ok (.rng i j) S
 | _,_=>.no
def yv:j5 X (.type "range") (rN X (f2 qg)):=j5.imp zW λvs H Q h0=>by
 obtain⟨w,w',rfl,ρ,S,x,y,R,hv,hv',h⟩:=UN h0;clear h0
 cases hv with
 | int i=>
  cases hv' with
  | int j=>
   refine⟨i,j,rfl,λp hp=>?_⟩;obtain⟨ex,R'⟩:=R.im (u:=.rng i j) hp;exact h ρ _ _ ex R' (.rng kq)
  | _=>exact h.elim
 | _=>exact h.elim
abbrev xh (i j:Int):Prop:=(-(2 ^ 62)<=i/\i<2 ^ 62/\-(2 ^ 62)<=j/\j<2 ^ 62)/\(j-i).toNat<=1000
instance (i j:Int):Decidable (xh i j):=by unfold xh;infer_instance
abbrev ya (x:A)(S:jJ):R A:=match x with
 | .rng i j=>gd (xh i j) (.ok (.ref S.length) (S++[.lst ((jV i j).map .int)]))
 | .tup xs=>.ok (.ref S.length) (S++[.lst xs])
 | .frz xs=>.ok (.ref S.length) (S++[.lst xs])
 | .ref n=>opt (jF S n) λxs=>.ok (.ref S.length) (S++[.lst xs])
 | _=>.no
def Lg(hc:X.calm=true):j5 X (.type "list") (rN X (f1 ya)):=λpins s σ H vs us Q I rx h0=>by
 kd_p;clear h0
 cases hv with
 | @rng p i j hp=>
  obtain⟨hc',h⟩:=j4 h;exact yE hc pins s σ H _ us Q I rx ⟨p,i,j,rfl,hp,hc'.1,hc'.2,lK R (nS _) .refl h⟩
 | @tup p xs vs h1 r=>exact qz pins s σ H _ us Q I rx ⟨p,vs,rfl,.inr (m9.of h1),lK R r .refl h⟩
 | @frz p xs vs h1 r=>exact qz pins s σ H _ us Q I rx ⟨p,vs,rfl,.inl h1.JS,lK R r .refl h⟩
 | @ref p n hp=>
  kt_k;obtain⟨vs,h1,r⟩:=R.lst hp (jT hn);exact qz pins s σ H _ us Q I rx ⟨p,vs,rfl,.inl (nB.of h1),lK R r .refl h⟩
 | _=>exact h.elim
abbrev nY (x:A)(S:jJ):R A:=match x with
 | .rng i j=>gd (xh i j) (.ok (.tup ((jV i j).map .int)) S)
 | .tup xs=>.ok (.tup xs) S
 | .frz xs=>.ok (.tup xs) S
 | .ref n=>opt (jF S n) λxs=>.ok (.tup xs) S
 | _=>.no
def uM(hc:X.calm=true):j5 X (.type "tuple") (rN X (f1 nY)):=λpins s σ H vs us Q I rx h0=>by
 kd_p;clear h0
 cases hv with
 | @rng p i j hp=>
  obtain⟨hc',h⟩:=j4 h;exact x_ hc pins s σ H _ us Q I rx ⟨p,i,j,rfl,hp,hc'.1,hc'.2,qp R (nS _) .refl h⟩
 | @tup p xs vs h1 r=>exact pP pins s σ H _ us Q I rx ⟨p,vs,rfl,.inr ⟨(m9.of h1),h _ _ _ .refl R (.tup h1 r)⟩⟩
 | @frz p xs vs h1 r=>exact pP pins s σ H _ us Q I rx ⟨p,vs,rfl,.inl ⟨h1.JS,qp R r .refl h⟩⟩
 | @ref p n hp=>
  kt_k;obtain⟨vs,h1,r⟩:=R.lst hp (jT hn);exact pP pins s σ H _ us Q I rx ⟨p,vs,rfl,.inl ⟨nB.of h1,qp R r .refl h⟩⟩
 | _=>exact h.elim
abbrev A.AJ:ad->Option (List Bool)
 | []=>some []
 | .bl b::xs=>(A.AJ xs).map (b::·)
 | _=>none
theorem CW{K:au}{H:Hp}:∀{xs:ad}{vs:List V}{bs:List Bool},AVs K ρ H xs vs->A.AJ xs=some bs->vs=bs.map V.bl
 | _,_,_,.nil,e=>by cases e;rfl
 | x::xs,_,bs,.cons h t,e=>by
  cases x with
  | bl b=>
   obtain⟨cs,e1,rfl⟩:=bw.mp (show(A.AJ xs).map (b::·)=some bs from e)
   cases h
   rw[CW t e1];rfl
  | _=>cases e
abbrev RN (x:A)(S:jJ):R A:=match x with
 | .ref n=>opt (jF S n) λxs=>opt (A.AJ xs) λbs=>.ok (.bl (bs.all λb=>b)) S
 | _=>.no
def SY(hc:X.calm=true):j5 X (.builtin "all") (rN X (f1 RN)):=j5.imp (G_ hc) λvs H Q h0=>by
 kd_p;clear h0
 cases hv with
 | @ref p n hp=>
  kt_k;obtain⟨bs,hb,h⟩:=jK h;obtain⟨vs,h1,r⟩:=R.lst hp (jT hn);rw[CW r hb]at h1;exact⟨p,bs,rfl,nB.of h1,h _ _ _ .refl R (.bl _)⟩
 | _=>exact h.elim
abbrev Qq (x:A)(S:jJ):R A:=match x with
 | .ref n=>opt (jF S n) λxs=>opt (A.AJ xs) λbs=>.ok (.bl (bs.any λb=>b)) S
 | _=>.no
def TZ(hc:X.calm=true):j5 X (.builtin "any") (rN X (f1 Qq)):=j5.imp (Hf hc) λvs H Q h0=>by
 kd_p;clear h0
 cases hv with
 | @ref p n hp=>
  kt_k;obtain⟨bs,hb,h⟩:=jK h;obtain⟨vs,h1,r⟩:=R.lst hp (jT hn);rw[CW r hb]at h1;exact⟨p,bs,rfl,nB.of h1,h _ _ _ .refl R (.bl _)⟩
 | _=>exact h.elim
abbrev maxOf:ae->bb
 | []=>none
 | [x]=>some x
 | x::xs=>(maxOf xs).map λm=>if m>x then m else x
theorem xx:∀{ns:ae}{m:Int},maxOf ns=some m->m∈ns/\∀a∈ns,a<=m
 | [],_,e=>nomatch e
 | [x],m,e=>by cases e;exact⟨aR,λa h=>by rw[bh]at h;lia⟩
 | x::y::xs,m,e=>by
  obtain⟨m',e1,rfl⟩:=bw.mp (show(maxOf (y::xs)).map (λm=>if m>x then m else x)=some m from e);obtain⟨h1,h2⟩:=xx e1;by_cases hx:m'>x
  ·rw[aN hx];exact⟨aT _ h1,λa h=>(bL.mp h).elim (λz=>()) (h2 a)⟩
  ·rw[aM hx];exact⟨aR,λa h=>(bL.mp h).elim (λz=>()) λz=>by have:=h2 a z;lia⟩
abbrev LL (x:A)(S:jJ):R A:=match x with
 | .ref n=>opt (jF S n) λxs=>opt (A.ints xs) λns=>opt (maxOf ns) λm=>.ok (.int m) S
 | _=>.no
def Pa(hc:X.calm=true):j5 X (.builtin "max") (rN X (f1 LL)):=j5.imp (G0 hc) λvs H Q h0=>by
 kd_p;clear h0
 cases hv with
 | @ref p n hp=>
  kt_k;obtain⟨ns,hb,h⟩:=jK h;obtain⟨m,hm,h⟩:=jK h;obtain⟨vs,h1,r⟩:=R.lst hp (jT hn);rw[qf r hb]at h1;obtain⟨g1,g2⟩:=xx hm;refine⟨p,ns,rfl,nB.of h1,gO g1,λM hM hG=>?_⟩;have:M=m:=jv (g2 M hM) (hG m g1);rw[this];exact h _ _ _ .refl R (.int _)
 | _=>exact h.elim
abbrev insI (x:Int):ae->ae
 | []=>[x]
 | y::ys=>if x<=y then x::y::ys else y::insI x ys
abbrev sortI:ae->ae
 | []=>[]
 | x::xs=>insI x (sortI xs)
theorem insI_perm(x:Int):∀ys:ae,(insI x ys).Perm (x::ys)
 | []=>dO _
 | y::ys=>by
  unfold insI;by_cases h:x<=y
  ·rw[aN h]
  ·rw[aM h];exact((insI_perm x ys).cons y).trans (List.Perm.swap x y ys)
theorem sortI_perm:∀xs:ae,(sortI xs).Perm xs
 | []=>dO _
 | x::xs=>(insI_perm x (sortI xs)).trans ((sortI_perm xs).cons x)
theorem Fy(x:Int):∀ys:ae,ys.Pairwise (·<=·)->(insI x ys).Pairwise (·<=·)
 | [],_=>dU _ _
 | y::ys,h=>by
  unfold insI;obtain⟨h1,h2⟩:=cF.mp h;by_cases hx:x<=y
  ·rw[aN hx];exact cF.mpr ⟨λz hz=>(bL.mp hz).elim (λe=>e ▸ hx) λhz=>Int.le_trans hx (h1 z hz),h⟩
  ·rw[aM hx];refine cF.mpr ⟨λz hz=>?_,Fy x ys h2⟩
   rcases bL.mp ((insI_perm x ys).mem_iff.mp hz)with e|hz
   ·subst e;lia
   ·exact h1 z hz
theorem BH:∀xs:ae,(sortI xs).Pairwise (·<=·)
 | []=>List.Pairwise.nil
 | x::xs=>Fy x _ (BH xs)
abbrev KI (x:A)(S:jJ):R A:=opt (x.seq S) λxs=>opt (A.ints xs) λns=>gd (ns.length<64) (.ok (.ref S.length) (S++[.lst ((sortI ns).map .int)]))
def Na:j5 X (.builtin "sorted") (rN X (f1 KI)):=j5.imp Aj λvs H Q h0=>by
 kd_p;clear h0;kt_k;obtain⟨ns,hb,h⟩:=jK h;obtain⟨hl,h⟩:=j4 h;obtain⟨p,us,rfl,hs,r⟩:=Ph R hv hn;rw[qf r hb]at hs;refine⟨p,ns,rfl,hs,hl,λl ns' hl' hp hw=>?_⟩;have:ns'=sortI ns:=NR (hp.trans (sortI_perm ns).symm) hw (BH ns);rw[this];exact lK R (nS _) .refl h l hl'
abbrev A.kd:A->jJ->Option Kd
 | .non,_=>some .non
 | .bl _,_=>some .bl
 | .int _,_=>some .int
 | .str _,_=>some .str
 | .tup _,_=>some .tup
 | .ref n,S=>(jF S n).map λ_=>.lst
 | _,_=>none
def MJ{K:au}(k:Kd):PySem.W.kitOne K k.ty (.type "str")=some (decide (k=.str)):=by cases k<;>rfl
abbrev CG (k:Kd)(c:String):bd:=if c = "int" then some (decide (k=.int\/k=.bl))else if c = "bool" then some (decide (k=.bl))else if c = "tuple" then some (decide (k=.tup))else if c = "list" then some (decide (k=.lst))else if c = "str" then some (decide (k=.str))else none
def Fg{K:au}{k:Kd}{c:String}{b:Bool}(h:CG k c=some b):PySem.W.kitOne K k.ty (.type c)=some b:=by
 unfold CG at h;split at h
 ·rename_i e;subst e;rw[<- h];exact NQ k
 ·split at h
  ·rename_i e;subst e;rw[<- h];exact HP k
  ·split at h
   ·rename_i e;subst e;rw[<- h];exact kit_tuple k
   ·split at h
    ·rename_i e;subst e;rw[<- h];exact HN k
    ·split at h
     ·rename_i e;subst e;rw[<- h];exact MJ k
     ·cases h
abbrev LZ (x y:A)(S:jJ):R A:=match y with
 | .ty c=>opt (x.kd S) λk=>opt (CG k c) λb=>.ok (.bl b) S
 | _=>.no
def TL{K:au}{H:Hp}{x:A}{v:V}{k:Kd}(R:Rel K ρ H S)(h:AV K ρ H x v)(e:x.kd S=some k):(∃p vs,v=.ref p/\m9 K H p vs/\k=.tup)\/Rt H v k:=by
 cases h with
 | non=>cases e;exact .inr rfl
 | bl b=>cases e;exact .inr ⟨b,rfl⟩
 | int i=>cases e;exact .inr ⟨i,rfl⟩
 | str i=>cases e;exact .inr ⟨i,rfl⟩
 | tup h r=>cases e;exact .inl ⟨_,_,rfl,(m9.of h),rfl⟩
 | ref h=>
  obtain⟨xs,e1,e2⟩:=bw.mp e;obtain⟨vs,h1,_⟩:=R.lst h (jT e1)
  cases e2
  exact .inr ⟨_,vs,rfl,h1⟩
 | _=>cases e
def Jg:j5 X (.builtin "isinstance") (rN X (f2 LZ)):=λpins s σ H vs us Q I rx h0=>by
 obtain⟨w,w',rfl,ρ,S,x,y,R,hv,hv',h⟩:=UN h0;clear h0
 cases hv' with
 | ty c=>
  obtain⟨k,hk,h⟩:=jK h;obtain⟨b,hb,hq⟩:=jK h;have hq:wk X ρ H Q (.bl b) S:=hq;clear h
  rcases TL R hv hk with⟨p,vs,rfl,ht,rfl⟩|hd
  ·obtain⟨u1,u2,rfl,r1,r2⟩:=vals2 rx;obtain⟨its,q,⟨o,h1,h2,_⟩,_⟩:=I.tuple ht
   cases(show _=Value.ref p from r1)
   cases(show _=Value.type c from r2)
   exact cV PySem.W.kitx_tuple I.zM ⟨o,h1,h2⟩ (Fg hb) (λz=>nomatch z) λtk=>⟨.bl b,H,I.tok _,rfl,hq _ _ _ .refl R (.bl _)⟩
  ·exact A5 (c:=c) pins s σ H _ us Q I rx ⟨w,_,b,rfl,hd.Vi,Fg hb,hq _ _ _ .refl R (.bl _)⟩
 | _=>exact h.elim
end
abbrev G4 (x:ae):List (ae)->List (ae)
 | []=>[x]
 | y::ys=>if HT.lexLt y x=true then y::G4 x ys else x::y::ys
abbrev mZ:List (ae)->List (ae)
 | []=>[]
 | x::xs=>G4 x (mZ xs)
abbrev GU (a b:ae):Prop:=HT.lexLt b a=false
def GU.trans{a c:ae}(h1:GU a b)(h2:GU b c):GU a c:=by
 unfold GU at *
 cases e:HT.lexLt c a with
 | false=>rfl
 | true=>
  rcases Sx.FH (b:=b) e with z|z
  ·rw[h2]at z;cases z
  ·rw[h1]at z;cases z
theorem vt(x:ae):∀ys:List (ae),(G4 x ys).Perm (x::ys)
 | []=>dO _
 | y::ys=>by
  unfold G4;by_cases h:HT.lexLt y x=true
  ·rw[aN h];exact((vt x ys).cons y).trans (List.Perm.swap x y ys)
  ·rw[aM h]
theorem tW:∀xs:List (ae),(mZ xs).Perm xs
 | []=>dO _
 | x::xs=>(vt x (mZ xs)).trans ((tW xs).cons x)
theorem F1(x:ae):∀ys:List (ae),ys.Pairwise GU->(G4 x ys).Pairwise GU
 | [],_=>dU _ _
 | y::ys,h=>by
  unfold G4;obtain⟨h1,h2⟩:=cF.mp h;by_cases hx:HT.lexLt y x=true
  ·rw[aN hx];refine cF.mpr ⟨λz hz=>?_,F1 x ys h2⟩
   rcases bL.mp ((vt x ys).mem_iff.mp hz)with e|hz
   ·subst e;unfold GU
    cases e:HT.lexLt z y with
    | false=>rfl
    | true=>have:=Sx.wZ hx e;rw[Sx.rY]at this;cases this
   ·exact h1 z hz
  ·rw[aM hx];have hx':GU x y:=by unfold GU;simpa using hx
   exact cF.mpr ⟨λz hz=>(bL.mp hz).elim (λe=>e ▸ hx') λhz=>hx'.trans (h1 z hz),h⟩
theorem A2:∀xs:List (ae),(mZ xs).Pairwise GU
 | []=>List.Pairwise.nil
 | x::xs=>F1 x _ (A2 xs)
def wM{xs:List (ae)}(p:xs.Perm ys)(h:xs.Pairwise GU):xs=mZ ys:=
 f_ (λa b _ _ h1 h2=>(Sx.zA h1 h2).symm) h (A2 ys) (p.trans (tW ys).symm)
theorem Wl:∀(N:Nat) (l:ag),l.Nodup->(∀x∈l,x<N)->l.length<=N
 | 0,l,_,h=>by
  cases l with
  | nil=>exact aP _
  | cons a l=>exact absurd (h a (aR ..)) (iI _)
 | N+1,l,nd,h=>by
  have h1:=Wl N (l.erase N) (nd.erase N) λx hx=>by
   have:=h x (List.mem_of_mem_erase hx);have:x≠N:=λz=>by
    subst z;exact(List.Nodup.not_mem_erase nd) hx
   lia
  have:=List.le_length_erase (l:=l) (a:=N)
  lia
def xQ{N:Nat}{g:Nat->Nat}(h:∀i,i<N->g i<N)(inj:∀i j,i<j->j<N->g i≠g j):((List.range N).map g).Perm (List.range N):=by
 have nd:((List.range N).map g).Nodup:=by
  unfold List.Nodup;rw[dI];intro i j hi hj hij;rw[aL,cO]at hi hj;rw[ff,ff,gr,gr];exact inj i j hij hj
 have lt:∀x∈(List.range N).map g,x<N:=λx hx=>by
  obtain⟨i,hi,rfl⟩:=bH.mp hx;exact h i (cU.mp hi)
 refine(fQ nd List.nodup_range).mpr λa=>⟨λha=>cU.mpr (lt a ha),λha=>?_⟩;refine fY λhn=>?_;have:=Wl N (a::(List.range N).map g) (fC.mpr ⟨hn,nd⟩) λx hx=>by
  rcases bL.mp hx with rfl|hx
  ·exact cU.mp ha
  ·exact lt x hx
 rw[bE,aL,cO]at this
 lia
def range_getD{α:Type}(l:List α)(d:α):(List.range l.length).map (λi=>l.getD i d)=l:=by
 apply bW;intro i;rw[aQ];by_cases c:i<l.length
 ·rw[b7 c];show some (l.getD i d)=_;rw[aI,aH c];rfl
 ·rw[bG (by rw[cO];lia),bG ()];rfl
def RC{kss:List (ae)}{g:Nat->Nat}(c:Sx.Cl g 0 kss.length)(so:Sx.So (Sx.Ky kss) g 0 kss.length):(List.range kss.length).map (λi=>kss.getD (g i) [])=mZ kss:=by
 refine wM ?_ ?_
 ·have p:=xQ (N:=kss.length) (g:=g) (λi hi=>(c i (cY _) hi).2) λi j hij hj z=>by
   have:=so i j (cY _) hij hj;rw[z]at this;exact this.NZ
  have:=p.map λi=>kss.getD i [];rw[bK,range_getD]at this;exact this
 ·rw[dI];intro i j hi hj hij;rw[aL,cO]at hi hj;rw[ff,ff,gr,gr];exact(so i j (cY _) hij hj).ge
abbrev O4:ad->Option (List (ae))
 | []=>some []
 | .tup xs::r=>match A.ints xs with
  | some (k::ks)=>(O4 r).map λrs=>(k::ks)::rs
  | _=>none
 | _=>none
theorem OE{K:au}{H:Hp}:∀{xs:ad}{vs:List V}{kss:List (ae)},AVs K ρ H xs vs->O4 xs=some kss ->
  ∃rs:ar,vs=rs.map V.ref/\rs.length=kss.length/\∀(i:Nat) (r:ak) (ks:ae),rs[i]?=some r->kss[i]?=some ks->m9 K H r (ks.map V.int)/\ks≠[]/\AV K ρ H (.tup (ks.map .int)) (.ref r)
 | [],_,_,.nil,e=>by cases e;exact⟨[],rfl,rfl,λi r ks h=>by simp at h⟩
 | x::xs,_,kss,.cons h t,e=>by
  cases h with
  | tup h r=>
   rename_i a ys us;unfold O4 at e
   cases e1:A.ints ys with
   | none=>rw[e1]at e;cases e
   | some ks=>
    rw[e1]at e
    cases ks with
    | nil=>cases e
    | cons k ks=>
     obtain⟨kss',e2,rfl⟩:=bw.mp e;obtain⟨rs,rfl,hl,hh⟩:=OE t e2;have ev:=qf r e1;subst ev;refine⟨a::rs,rfl,by rw[bE,bE,hl],λi r' ks' h1 h2=>?_⟩
     cases i with
     | zero=>
      cases h1
      cases h2
      exact⟨m9.of h,(λz=>nomatch z),.tup h (nS _)⟩
     | succ i=>exact hh i r' ks' (by simpa using h1) (by simpa using h2)
  | _=>cases e
theorem Dk{K:au}{H:Hp}{α:Type}{f:α->A}{h:α->V}:∀{l:List α},(∀a∈l,AV K ρ H (f a) (h a))->AVs K ρ H (l.map f) (l.map h)
 | [],_=>.nil
 | a::l,e=>.cons (e a (aR ..)) (Dk λb hb=>e b (aT _ hb))
section
variable {X:Cx}
abbrev Ao (n:Nat)(S:jJ):R A:=opt (jF S n) λxs=>opt (O4 xs) λkss=>.ok (.ref S.length) (S++[.lst ((mZ kss).map λks=>.tup (ks.map .int))])
abbrev Qo (x:A)(S:jJ):R A:=match x with
 | .ref n=>Ao n S
 | _=>.no
abbrev UU (x:A)(S:jJ):Bool:=match x with
 | .ref n=>match jF S n with
  | some (.tup _::_)=>true
  | _=>false
 | _=>false
abbrev uR (x:A)(S:jJ):R A:=match UU x S with
 | false=>KI x S
 | true=>match x with
  | .ref n=>Ao n S
  | _=>.no
def MQ:j5 X (.builtin "sorted") (rN X (f1 Qo)):=j5.imp zx λvs H Q h0=>by
 kd_p;clear h0
 cases hv with
 | ref hp=>
  rename_i p n;kt_k;obtain⟨kss,hb,h⟩:=jK h;obtain⟨us,h1,r⟩:=R.lst hp (jT hn);obtain⟨rs,rfl,hl,hh⟩:=OE r hb;refine⟨p,rs,kss,rfl,nB.of h1,hl,λi r ks e1 e2=>⟨(hh i r ks e1 e2).1,(hh i r ks e1 e2).2.1⟩,λl g hl' hc hs=>?_⟩;have av:AVs X.K ρ H ((mZ kss).map λks=>.tup (ks.map .int)) (((List.range kss.length).map λi=>rs.getD (g i) 0).map V.ref):=by
   rw[<- RC hc hs,bK,bK];refine Dk λi hi=>?_;have lt:=(hc i (cY _) (cU.mp hi)).2;have e1:rs[g i]?=some (rs.getD (g i) 0):=by rw[aI,aH ()];rfl
   have e2:kss[g i]?=some (kss.getD (g i) []):=by rw[aI,aH lt];rfl
   exact(hh _ _ _ e1 e2).2.2
  exact lK R av .refl h l hl'
 | _=>exact h.elim
def JG:j5 X (.builtin "sorted") (rN X (f1 uR)):=λpins s σ H xs us Q I r h=>by
 obtain⟨w,rfl,ρ,S,x,R,hv,h⟩:=Jh h;unfold uR at h
 cases e:UU x S with
 | false=>
  rw[e]at h;exact Na pins s σ H _ us Q I r ⟨ρ,S,[x],R,.cons hv .nil,h⟩
 | true=>
  rw[e]at h;exact MQ pins s σ H _ us Q I r ⟨ρ,S,[x],R,.cons hv .nil,h⟩
end
abbrev RS.post (r:RS)(N:ad->jJ->Prop)(T:A->jJ->Prop)(B C:ad->jJ->Prop)(E:Str->jJ->Prop):Prop:=match r with
 | .nx τ S=>N τ S
 | .rt a S=>T a S
 | .bk τ S=>B τ S
 | .ct τ S=>C τ S
 | .ex c S=>E c S
 | .no=>False
abbrev RS.of {α:Type}(r:R α)(f:α->jJ->RS):RS:=match r with
 | .ok a S=>f a S
 | .ex c S=>.ex c S
 | .no=>.no
def of_post{α:Type}{r:R α}{f:α->jJ->RS}{N B C:ad->jJ->Prop}{T:A->jJ->Prop}{E:Str->jJ->Prop}(h:(RS.of r f).post N T B C E):r.post (λa S=>(f a S).post N T B C E) E:=by
 cases r<;>exact h
def RS.mono{r:RS}{N B C N' B' C':ad->jJ->Prop}{T T':A->jJ->Prop}{E E':Str->jJ->Prop}(h:r.post N T B C E)(hn:∀τ S,N τ S->N' τ S)(ht:∀a S,T a S->T' a S)(hb:∀τ S,B τ S->B' τ S)(hc:∀τ S,C τ S->C' τ S)(he:∀c S,E c S->E' c S):r.post N' T' B' C' E':=by
 cases r with
 | nx τ S=>exact hn _ _ h
 | rt a S=>exact ht _ _ h
 | bk τ S=>exact hb _ _ h
 | ct τ S=>exact hc _ _ h
 | ex c S=>exact he _ _ h
 | no=>exact h.elim
abbrev DZ (X:Cx)(ρ:ar)(H:Hp)(N:L2.St->Hp->Prop):ad->jJ->Prop:=λτ' S'=>∀ρ' H' σ',Ext ρ ρ' H H'->Rel X.K ρ' H' S'->SR X.K ρ' H' τ' σ'->N σ' H'
def DZ.ext{X:Cx}{H H':Hp}{N:L2.St->Hp->Prop}(h:DZ X ρ H N τ S)(e:Ext ρ ρ' H H'):DZ X ρ' H' N τ S:=λρ2 H2 σ2 e2=>h ρ2 H2 σ2 (e.trans e2)
abbrev zh (X:Cx)(ρ:ar)(H:Hp)(D:Ends)(r:RS):Prop:=r.post (DZ X ρ H D.nx) (wk X ρ H D.rt) (DZ X ρ H D.bk) (DZ X ρ H D.ct) (XE X ρ H)
def zh.ext{X:Cx}{H H':Hp}{D:Ends}{r:RS}(h:zh X ρ H D r)(e:Ext ρ ρ' H H'):zh X ρ' H' D r:=RS.mono h (λ_ _ z=>z.ext e) (λ_ _ z=>z.ext e) (λ_ _ z=>z.ext e) (λ_ _ z=>z.ext e) λ_ _ z=>z.ext e
abbrev tS (X:Cx)(c:Sm):TS:=λD σ H=>∃ρ S τ,Rel X.K ρ H S/\SR X.K ρ H τ σ/\zh X ρ H D (c τ S)
abbrev AS (X:Cx)(st:aF)(c:Sm):Prop:=PS X st (tS X c)
abbrev Nc (X:Cx)(sts:List aF)(c:Sm):Prop:=zN X sts (tS X c)
abbrev tG (X:Cx)(g:Tg):TG:=λv σ H Q=>∃ρ S τ a,Rel X.K ρ H S/\SR X.K ρ H τ σ/\AV X.K ρ H a v/\(g a τ S).post (DZ X ρ H Q) (XE X ρ H)
abbrev AG (X:Cx)(e:aE)(g:Tg):Prop:=PG X e (tG X g)
meta abbrev L8:=ad->ad->jJ->R (ad)
abbrev WM (X:Cx)(g:L8):N4:=λvs σ H Q=>∃ρ S τ as,Rel X.K ρ H S/\SR X.K ρ H τ σ/\AVs X.K ρ H as vs/\(g as τ S).post (DZ X ρ H Q) (XE X ρ H)
abbrev UR (X:Cx)(es:List aE)(g:L8):Prop:=Uu X es (WM X g)
section
variable {X:Cx}{pos:Pos}{a b e:aE}{st:aF}{rest:List aF}{c d:Sm}
def PS.imp{t t':TS}(h:PS X st t)(i:∀D σ H,t' D σ H->t D σ H):PS X st t':=λpins s σ H D I q=>h pins s σ H D I (i D σ H q)
def zN.imp{t t':TS}(h:zN X rest t)(i:∀D σ H,t' D σ H->t D σ H):zN X rest t':=λpins s σ H D I q=>h pins s σ H D I (i D σ H q)
def PG.imp{t t':TG}(h:PG X e t)(i:∀v σ H Q,t' v σ H Q->t v σ H Q):PG X e t':=λpins s σ H v u Q I r q=>h pins s σ H v u Q I r (i _ _ _ _ q)
abbrev kN (i:Nat):Tg:=λa τ S=>.ok (τ.set i a) S
def kc{i:Nat}{x:Str}(hN:X.N.Nodup)(hi:X.N[i]?=some x:=by rfl)(hx:Loc X.env.scope x:=by first|exact Or.inl rfl|exact Or.inr rfl)(hf:X.fn x=true\/X.env.scope.names.lookup x=some .local:=by first|exact .inl rfl|exact .inr rfl|assumption):AG X (.Name x pos) (kN i):=
 PG.imp (FD hN hi hx hf) λv σ H Q ⟨ρ,S,τ,a,R,r,va,h⟩=>h ρ H _ .refl R (r.set va)
abbrev AH:L8:=λas τ S=>match as with
 | []=>.ok τ S
 | _=>.no
abbrev sD (g:Tg)(gs:L8):L8:=λas τ S=>match as with
 | a::as=>(g a τ S).bind λτ1 S1=>gs as τ1 S1
 | []=>.no
def uH:UR X [] AH:=λpins s σ H vs us Q I r ⟨ρ,S,τ,as,R,sr,va,h⟩=>M4 pins s σ H vs us Q I r (by
 cases va with
 | nil=>exact⟨rfl,h ρ H σ .refl R sr⟩
 | cons _ _=>exact h.elim)
def mq{g:Tg}{gs:L8}(h1:AG X e g)(h2:UR X es gs)(hs:(assignEach (e::es) X.env).map (·.2)=assign e X.env::(assignEach es X.env).map (·.2):=by rfl):UR X (e::es) (sD g gs):=
 λpins s σ H vs us Q I r ⟨ρ,S,τ,as,R,sr,va,h⟩=>JY h1 h2 hs pins s σ H vs us Q I r (by
  cases va with
  | nil=>exact h.elim
  | cons ha hr=>exact⟨_,_,rfl,ρ,S,τ,_,R,sr,ha,jH (jM h) .refl λτ1 S1 h1 ρ1 H1 σ1 e1 R1 sr1=>⟨ρ1,S1,τ1,_,R1,sr1,hr.ext e1,jH h1 e1 λ_ _ z=>z.ext e1⟩⟩)
abbrev AK (n:Nat)(gs:L8):Tg:=λa τ S=>match a with
 | .tup xs | .ktu xs=>gd (xs.length=n) (gs xs τ S)
 | _=>.no
def yl{k n:Nat}{gs:L8}(hc:X.calm=true)(h:UR X es gs)(hn:(assignEach es X.env).length=n:=by rfl)(hst:(assignEach es X.env).findIdx? (·.1)=none:=by rfl):AG X (.Tuple es k pos) (AK n gs):=
 PG.imp (RK hc h hn hst) λv σ H Q h9=>by
  obtain⟨ρ,S,τ,a,R,r,va,h⟩:=h9
  cases va with
  | tup h1 r1=>
   obtain⟨hl,h⟩:=j4 h;exact⟨_,_,rfl,m9.of h1,by rw[<- r1.length];exact hl,ρ,S,τ,_,R,r,r1,h⟩
  | ktu h1 r1=>
   obtain⟨hl,h⟩:=j4 h;exact⟨_,_,rfl,.inr h1,by rw[<- r1.length];exact hl,ρ,S,τ,_,R,r,r1,h⟩
  | _=>exact h.elim
abbrev BS (o i v:A)(S:jJ):R Unit:=match o,i with
 | .ref n,.int k=>opt (jF S n) λxs=>opt (yy xs.length k) λj=>.ok Unit.unit (S.set n (.lst (xs.set j v)))
 | _,_=>.no
abbrev W7 (X:Cx):CL:=λo i v H Q=>∃ρ S ao ai av,Rel X.K ρ H S/\AV X.K ρ H ao o/\AV X.K ρ H ai i/\AV X.K ρ H av v/\(BS ao ai av S).post (λ_ S'=>∀ρ' H',Ext ρ ρ' H H'->Rel X.K ρ' H' S'->Q H') (XE X ρ H)
def Ew:GL X (W7 X):=λpins s σ H o i v ov iv u Q I ro ri rv h9=>by
 obtain⟨ρ,S,ao,ai,av,R,h1,h2,h3,h⟩:=h9
 cases h1 with
 | @ref p n hp=>
  cases h2 with
  | int k=>
   kt_k;obtain⟨j,hj,h⟩:=jK h;obtain⟨vs,e,r⟩:=R.lst hp (jT hn);obtain⟨ex,R'⟩:=R.put hp (jT hn) (r.set h3 j);exact set_list pins s σ H _ _ v ov iv u Q I ro ri rv ⟨p,vs,k,j,rfl,rfl,e,by rw[<- r.length];exact hj,h _ _ ex R'⟩
  | _=>exact h.elim
 | _=>exact h.elim
abbrev Sj (co ci:Ex):Tg:=λa τ S=>(co τ S).bind λo S1=>(ci τ S1).bind λi S2=>(BS o i a S2).bind λ_ S3=>.ok τ S3
def Ay{co ci:Ex}(ho:AE X o co)(hi:AE X i ci)
  (ha:∀v,assign (.Subscript o i pos) X.env v=(do
   let ov <- holding [v] (eval o X.env)
   let iv <- holding [v,ov] (eval i X.env)
   standAt pos
   holding [v,ov,iv] (setItem ov iv v)
   release [v,ov,iv] []):=by intro _;rfl):AG X (.Subscript o i pos) (Sj co ci):=PG.imp (LY ho hi Ew ha) λv σ H Q h9=>by
 obtain⟨ρ,S,τ,a,R,r,va,h⟩:=h9;refine⟨ρ,S,τ,R,r,jH (jM h) .refl λo S1 h1 ρ1 H1 x e1 R1 v1=>⟨ρ1,S1,τ,R1,r.ext e1,jH (jM h1) e1 λi S2 h2 ρ2 H2 y e2 R2 v2=>?_⟩⟩;refine⟨ρ2,S2,o,i,a,R2,v1.ext e2,v2,va.ext (e1.trans e2),jH (jM h2) (e1.trans e2) λ_ S3 h3 ρ3 H3 e3 R3=>?_⟩;exact h3 ρ3 H3 σ ((e1.trans e2).trans e3) R3 (r.ext ((e1.trans e2).trans e3))
abbrev qI:Sm:=λτ S=>.nx τ S
abbrev kr (c d:Sm):Sm:=λτ S=>match c τ S with
 | .nx τ' S'=>d τ' S'
 | r=>r
def kY:Nc X [] qI:=zN.imp Mi λD σ H ⟨ρ,S,τ,R,r,h⟩=>h ρ H σ .refl R r
def Ng{D:Ends}{H:Hp}(h:tS X (kr c d) D σ H):Uj (tS X c) (tS X d) D σ H:=by
 kln_w;refine⟨ρ,S,τ,R,r,?_⟩;unfold kr at h
 cases hc:c τ S with
 | nx τ1 S1=>
  rw[hc]at h;exact λρ1 H1 σ1 e1 R1 r1=>⟨ρ1,S1,τ1,R1,r1,zh.ext h e1⟩
 | rt a S1=>rw[hc]at h;exact h
 | bk τ1 S1=>rw[hc]at h;exact h
 | ct τ1 S1=>rw[hc]at h;exact h
 | ex x S1=>rw[hc]at h;exact h
 | no=>rw[hc]at h;exact h
def jL(h1:AS X st c)(h2:Nc X rest d):Nc X (st::rest) (kr c d):=zN.imp (IS h1 h2) λD σ H h=>Ng h
def jP(h1:AS X st c):Nc X [st] c:=Nl h1
abbrev Rr:Sm:=λτ S=>.bk τ S
abbrev S_:Sm:=λτ S=>.ct τ S
abbrev uI (e:Ex):Sm:=λτ S=>.of (e τ S) λ_ S1=>.nx τ S1
def ql{f:Ex}(he:AE X e f)(hs:swapsWith e none pos.line X.env=pure false:=by rfl):AS X (.Expr e pos) (uI f):=PS.imp (Mn he hs) λD σ H ⟨ρ,S,τ,R,r,h⟩=>
 ⟨ρ,S,τ,R,r,jH (of_post h) .refl λa S1 h1 ρ1 H1 x e1 R1 v1=>h1 ρ1 H1 σ e1 R1 (r.ext e1)⟩
abbrev lE (e:Ex):Sm:=λτ S=>.of (e τ S) λa S1=>.rt a S1
def kg{f:Ex}(he:AE X e f):AS X (.Return (some e) pos) (lE f):=PS.imp (Rj he) λD σ H ⟨ρ,S,τ,R,r,h⟩=>⟨ρ,S,τ,R,r,jH (of_post h) .refl λa S1 h1=>h1⟩
abbrev IQ:Sm:=λτ S=>.rt .non S
def Nr:AS X (.Return none pos) IQ:=PS.imp Nv λD σ H ⟨ρ,S,τ,R,r,h⟩=>h ρ H _ .refl R .non
abbrev AN (t:Te)(c d:Sm):Sm:=λτ S=>.of (t τ S) λb S1=>match b with|true=>c τ S1|false=>d τ S1
def n9{t:Te}(ht:AT X e t)(ha:Nc X ca c)(hb:Nc X cb d):AS X (.If e ca cb pos) (AN t c d):=PS.imp (Tt ht ha hb) λD σ H h9=>by
 room;refine⟨ρ,S,τ,R,r,jH (of_post h) .refl λb S1 h1 ρ1 H1 e1 R1=>?_⟩
 cases b with
 | true=>rw[aN rfl];exact⟨ρ1,S1,τ,R1,r.ext e1,zh.ext h1 e1⟩
 | false=>rw[aM aY];exact⟨ρ1,S1,τ,R1,r.ext e1,zh.ext h1 e1⟩
abbrev lg (e:Ex)(g:Tg):Sm:=λτ S=>.of (e τ S) λa S1=>.of (g a τ S1) λτ' S2=>.nx τ' S2
def MZ{f:Ex}{g:Tg}{D:Ends}{H:Hp}(h:tS X (lg f g) D σ H):MB (tE X f) (tG X g) D σ H:=by
 kln_w;exact⟨ρ,S,τ,R,r,jH (of_post h) .refl λa S1 h1 ρ1 H1 x e1 R1 v1=>⟨ρ1,S1,τ,a,R1,r.ext e1,v1,jH (of_post h1) e1 λτ2 S2 h2=>DZ.ext h2 e1⟩⟩
def w_{tg:aE}{f:Ex}{g:Tg}(he:AE X e f)(hg:AG X tg g)(hs:swapsWithSole [tg] e pos.line X.env=pure false:=by rfl)(hw:swappedStores [tg] e X.env=pure none:=by rfl)
  (h1:(assignEach [tg] X.env).map (·.2)=[assign tg X.env]:=by rfl):AS X (.Assign [tg] e pos) (lg f g):=PS.imp (Se he hg hs hw h1) λD σ H h=>MZ h
def kB{i:Nat}{x:Str}{f:Ex}(hN:X.N.Nodup)(he:AE X e f)(hi:X.N[i]?=some x:=by rfl)(hx:Loc X.env.scope x:=by first|exact Or.inl rfl|exact Or.inr rfl)(hs:swapsWith e (some (.Name x pos')) pos.line X.env=pure false:=by rfl)(hf:X.fn x=true\/X.env.scope.names.lookup x=some .local:=by first|exact .inl rfl|exact .inr rfl|assumption) :
  AS X (.Assign [.Name x pos'] e pos) (lg f (kN i)):=PS.imp (Rw hN hi hx he hs hf) λD σ H ⟨ρ,S,τ,R,r,h⟩=>
 ⟨ρ,S,τ,R,r,jH (of_post h) .refl λa S1 h1 ρ1 H1 x e1 R1 v1=>h1 ρ1 H1 _ e1 R1 ((r.ext e1).set v1)⟩
abbrev VP (i j:Nat)(c:qt):Sm:=λτ S=>.of (c τ S) λas S1=>match as with
 | [a,b]=>.nx ((τ.set i a).set j b) S1
 | _=>.no
abbrev ip (X:Cx)(f:A->A->jJ->R A):Ra:=λx y H Q=>∃ρ S a b,Rel X.K ρ H S/\AV X.K ρ H a x/\AV X.K ρ H b y/\(f a b S).post (wk X ρ H Q) (XE X ρ H)
abbrev CK (a b:A)(S:jJ):R A:=match a,b with
 | .int i,.int j=>.ok (.int (i+j)) S
 | _,_=>.no
def Au:Ox X .Add (ip X CK):=λpins s σ H x y v u Q I r1 r2 h9=>by
 z_go
 cases va with
 | int i=>
  cases vb with
  | int j=>exact QX pins s σ H _ _ v u Q I r1 r2 ⟨i,j,rfl,rfl,h _ _ _ .refl R (.int _)⟩
  | _=>exact h.elim
 | _=>exact h.elim
def NG:Ox X .Sub (ip X aSub):=λpins s σ H x y v u Q I r1 r2 h9=>by
 z_go
 cases va with
 | int i=>
  cases vb with
  | int j=>exact QG pins s σ H _ _ v u Q I r1 r2 ⟨i,j,rfl,rfl,h _ _ _ .refl R (.int _)⟩
  | _=>exact h.elim
 | _=>exact h.elim
abbrev Hy (i:Nat)(f:A->A->jJ->R A)(e:Ex):Sm:=λτ S=>if (τ.getD i .unb).nU then .no else .of (e τ S) λb S1=>.of (f (τ.getD i .unb) b S1) λc S2=>.nx (τ.set i c) S2
def Qx{i:Nat}{x:Str}{c:Ex}{f:A->A->jJ->R A}(hN:X.N.Nodup)(he:AE X e c)(ho:Ox X op (ip X f))(hi:X.N[i]?=some x:=by rfl)(hx:Loc X.env.scope x:=by first|exact Or.inl rfl|exact Or.inr rfl)(hf:X.fn x=true\/X.env.scope.names.lookup x=some .local:=by first|exact .inl rfl|exact .inr rfl|assumption) :
  AS X (.AugAssign (.Name x pos') op e pos) (Hy i f c):=PS.imp (QZ hN hi hx he ho hf) λD σ H h9=>by
 room;have key:∀x,τ[i]?=some x->x.nU=false->(RS.of (c τ S) λb S1=>.of (f x b S1) λc S2=>.nx (τ.set i c) S2).post (DZ X ρ H D.nx) (wk X ρ H D.rt) (DZ X ρ H D.bk) (DZ X ρ H D.ct) (XE X ρ H) ->
   ∃x,σ[i]?=some (some x)/\tE X c σ H λy H1=>ip X f x y H1 λz H2=>D.nx (σ.set i (some z)) H2:=by
  intro x hi hx h
  rcases r.at i x hi with z|⟨v,e,q⟩
  ·subst z;cases hx
  ·refine⟨v,e,ρ,S,τ,R,r,jH (of_post h) .refl λb S1 h1 ρ1 H1 y e1 R1 v1=>⟨ρ1,S1,x,b,R1,q.ext e1,v1,jH (of_post h1) e1 λw S2 h2 ρ2 H2 z e2 R2 v2=>?_⟩⟩;exact h2 ρ2 H2 _ (e1.trans e2) R2 ((r.ext (e1.trans e2)).set v2)
 unfold Hy zh at h;rw[aI]at h
 cases hi:τ[i]? with
 | none=>rw[hi]at h;exact h.elim
 | some x=>
  rw[hi]at h
  cases hx:x.nU with
  | true=>rw[show(some x).getD .unb=x from rfl,hx]at h;exact h.elim
  | false=>rw[show(some x).getD .unb=x from rfl,hx]at h;exact key x hi hx h
abbrev JI (a b:A)(S:jJ):R A:=match a,b with
 | .ref n,.int i=>opt (jF S n) λxs=>gd (0<=i) (opt (xs[i.toNat]?) λx=>.ok x S)
 | _,_=>.no
def MO:Qh X (r2 X JI):=λpins s σ H o i ov iv Q I ro ri h9=>by
 z_go
 cases va with
 | @ref p n hp=>
  cases vb with
  | int k=>
   kt_k;obtain⟨h0,h⟩:=j4 h;obtain⟨x,hx,h⟩:=jK h;obtain⟨vs,h1,r1⟩:=R.lst hp (jT hn);obtain⟨z,e,q⟩:=r1.get hx;exact HD pins s σ H _ _ ov iv Q I ro ri ⟨p,vs,k,z,rfl,rfl,nB.of h1,h0,e,h _ _ _ .refl R q⟩
  | _=>exact h.elim
 | _=>exact h.elim
abbrev vO (co ci ce:Ex)(f:A->A->jJ->R A):Sm:=λτ S=>.of (co τ S) λo S1=>.of (ci τ S1) λi S2=>.of (JI o i S2) λx S3=>.of (ce τ S3) λy S4=>.of (f x y S4) λz S5=>.of (BS o i z S5) λ_ S6=>.nx τ S6
def zO{co ci ce:Ex}{f:A->A->jJ->R A}(ho:AE X o co)(hi:AE X i ci)(he:AE X e ce)(hp:Ox X op (ip X f))
  (ha:∀ov iv new,augStore i ov iv new=(do holding [new,ov,iv] (setItem ov iv new);release [new,ov,iv] [];pure .next):=by intros;rfl):AS X (.AugAssign (.Subscript o i tpos) op e pos) (vO co ci ce f):=
 PS.imp (MX ho hi MO he hp Ew ha) λD σ H h9=>by
  room;refine⟨ρ,S,τ,R,r,jH (of_post h) .refl λao S1 h1 ρ1 H1 vo e1 R1 v1=>⟨ρ1,S1,τ,R1,r.ext e1,jH (of_post h1) e1 λai S2 h2 ρ2 H2 vi e2 R2 v2=>?_⟩⟩;refine⟨ρ2,S2,ao,ai,R2,v1.ext e2,v2,jH (of_post h2) (e1.trans e2) λax S3 h3 ρ3 H3 vx e3 R3 v3=>?_⟩;have e13:=(e1.trans e2).trans e3;refine⟨ρ3,S3,τ,R3,r.ext e13,jH (of_post h3) e13 λay S4 h4 ρ4 H4 vy e4 R4 v4=>?_⟩;refine⟨ρ4,S4,ax,ay,R4,v3.ext e4,v4,jH (of_post h4) (e13.trans e4) λaz S5 h5 ρ5 H5 vz e5 R5 v5=>?_⟩;have e35:=(e3.trans e4).trans e5;refine⟨ρ5,S5,ao,ai,az,R5,v1.ext (e2.trans e35),v2.ext e35,v5,jH (of_post h5) ((e13.trans e4).trans e5) λ_ S6 h6 ρ6 H6 e6 R6=>?_⟩;have e16:=((e13.trans e4).trans e5).trans e6;exact h6 ρ6 H6 σ e16 R6 (r.ext e16)
abbrev l_ (t:Te)(c:Sm):Nat->Sm
 | 0=>λ_ _=>.no
 | n+1=>λτ S=>.of (t τ S) λb S1=>match b with
  | false=>.nx τ S1
  | true=>match c τ S1 with
   | .nx τ' S'=>l_ t c n τ' S'
   | .ct τ' S'=>l_ t c n τ' S'
   | .bk τ' S'=>.nx τ' S'
   | r=>r
def xG(n:Nat){t:Te}(hp:PassesOwn (model X.prog X.w) X.A X.env X.xe)(ht:AT X e t)(hb:Nc X body c):AS X (.While e body [] pos) (l_ t c n):=PS.imp (Kc hp ht hb) λD σ H h9=>by
 room;refine⟨λm σ' H'=>∃ρ' S' τ',Ext ρ ρ' H H'/\Rel X.K ρ' H' S'/\SR X.K ρ' H' τ' σ'/\zh X ρ' H' D (l_ t c m τ' S'),⟨n,ρ,S,τ,.refl,R,r,h⟩,?_⟩;rintro m σ1 H1 ⟨ρ1,S1,τ1,e1,R1,r1,h1⟩
 cases m with
 | zero=>exact h1.elim
 | succ m=>
  refine⟨ρ1,S1,τ1,R1,r1,jH (of_post h1) .refl λb S2 h2 ρ2 H2 e2 R2=>?_⟩
  cases b with
  | false=>rw[aM aY];exact h2 ρ2 H2 σ1 e2 R2 (r1.ext e2)
  | true=>
   rw[aN rfl];refine⟨λσ' H'=>∃ρ' S' τ',Ext ρ ρ' H H'/\Rel X.K ρ' H' S'/\SR X.K ρ' H' τ' σ'/\zh X ρ' H' D (l_ t c m τ' S'),λσ' H' z=>⟨m,c6 _,z⟩,ρ2,S2,τ1,R2,r1.ext e2,?_⟩;have h2:zh X ρ1 H1 D (match c τ1 S2 with
    | .nx τ' S'=>l_ t c m τ' S'
    | .ct τ' S'=>l_ t c m τ' S'
    | .bk τ' S'=>.nx τ' S'
    | r=>r):=h2
   cases hc:c τ1 S2 with
   | nx τ3 S3=>rw[hc]at h2;exact λρ3 H3 σ3 e3 R3 r3=>⟨ρ3,S3,τ3,(e1.trans e2).trans e3,R3,r3,zh.ext h2 (e2.trans e3)⟩
   | ct τ3 S3=>rw[hc]at h2;exact λρ3 H3 σ3 e3 R3 r3=>⟨ρ3,S3,τ3,(e1.trans e2).trans e3,R3,r3,zh.ext h2 (e2.trans e3)⟩
   | bk τ3 S3=>rw[hc]at h2;exact DZ.ext h2 e2
   | rt a S3=>rw[hc]at h2;exact wk.ext h2 e2
   | ex x S3=>rw[hc]at h2;exact XE.ext h2 e2
   | no=>rw[hc]at h2;exact h2
end
structure Src where
 k:Nat
 get:Nat->jJ->Option A
 fin:jJ->Bool
structure JR (K:au)(s:Src)(J:It)(ρ0:ar)(H0:Hp):Prop where
 go:∀(i:Nat) (S:jJ) (H:Hp) (ρ:ar) (x:A),Ext0 ρ0 ρ H0 H->Rel K ρ H S->s.get i S=some x->J.go i H/\∀v H',J.yld i H v H'->Ext ρ ρ H H'/\Rel K ρ H' S/\AV K ρ H' x v
 stop:∀(S:jJ) (H:Hp) (ρ:ar),Ext0 ρ0 ρ H0 H->Rel K ρ H S->s.fin S=true->J.stop s.k H
meta abbrev Ic:=ad->jJ->R Src
abbrev tI (X:Cx)(c:Ic):TI:=λσ H Q=>∃ρ S τ,Rel X.K ρ H S/\SR X.K ρ H τ σ/\(c τ S).post (λs S'=>∀ρ' H' J,Ext ρ ρ' H H'->Rel X.K ρ' H' S'->JR X.K s J ρ' H'->Q J H') (XE X ρ H)
abbrev AI (X:Cx)(tg iter:aE)(c:Ic):Prop:=PI X tg iter (tI X c)
abbrev nH (xs:ad):Src:=⟨xs.length,λi _=>xs[i]?,λ_=>true⟩
abbrev mJ (n k:Nat):Src:=⟨k,λi S=>(jF S n).bind (·[i]?),λS=>match jF S n with
 | some ys=>decide (ys.length<=k)
 | none=>false⟩
abbrev kL (lo hi:Int):Src:=⟨(hi-lo).toNat,λi _=>if i<(hi-lo).toNat then some (.int (lo+i))else none,λ_=>true⟩
abbrev qh (c:Ex):Ic:=λτ S=>(c τ S).bind λa S1=>match a with
 | .tup xs=>.ok (nH xs) S1
 | .frz xs=>.ok (nH xs) S1
 | .ref n=>opt (jF S1 n) λxs=>.ok (mJ n xs.length) S1
 | .str x=>gd (x.cps.all (· < 128)=true) (.ok (nH (x.cps.toList.map λc=>.str ⟨#[c]⟩)) S1)
 | _=>.no
section
variable {X:Cx}{pos:Pos}{tg e a b:aE}
def O3{K:au}{H0:Hp}{p:ak}(h:m9 K H0 p vs)(r:AVs K ρ0 H0 xs vs):JR K (nH xs) (Vz K p) ρ0 H0 where
 go:=λi S H ρ x e R g=>by
  obtain⟨v,ev,av⟩:=(AVs.lU e r).get g;have hs:=e.WB h;refine⟨⟨vs,v,hs,ev⟩,λw H' ⟨e1,y⟩=>?_⟩;subst e1;have:=y vs hs;rw[ev]at this
  cases this
  exact⟨.refl,R,av⟩
 stop:=λS H ρ e R _=>⟨vs,e.WB h,by rw[<- r.length];exact aP _⟩
def RV{K:au}{H0:Hp}{p:ak}(h:Fz K H0 p vs)(r:AVs K ρ0 H0 xs vs):JR K (nH xs) (UX K p) ρ0 H0 where
 go:=λi S H ρ x e R g=>by
  obtain⟨v,ev,av⟩:=(AVs.lU e r).get g;have hs:=(e.fz h).JS;refine⟨⟨vs,v,hs,ev⟩,λw H' ⟨e1,y⟩=>?_⟩;subst e1;have:=y vs hs;rw[ev]at this
  cases this
  exact⟨.refl,R,av⟩
 stop:=λS H ρ e R _=>⟨vs,(e.fz h).JS,by rw[<- r.length];exact aP _⟩
def P5{K:au}{ρ0:ar}{H0:Hp}{p:ak}{n k:Nat}(h:ρ0[n]?=some p):JR K (mJ n k) (UX K p) ρ0 H0 where
 go:=λi S H ρ x e R g=>by
  obtain⟨ys,hn,hx⟩:=dm.mp (show(jF S n).bind (·[i]?)=some x from g);obtain⟨vs,h1,r⟩:=R.lst (e.get h) (jT hn);obtain⟨v,ev,av⟩:=r.get hx;refine⟨⟨vs,v,nB.of h1,ev⟩,λw H' ⟨e1,y⟩=>?_⟩;subst e1;have:=y vs (nB.of h1);rw[ev]at this
  cases this
  exact⟨.refl,R,av⟩
 stop:=λS H ρ e R g=>by
  have g:(match jF S n with
   | some ys=>decide (ys.length<=k)
   | none=>false)=true:=g
  cases hn:jF S n with
  | none=>rw[hn]at g;cases g
  | some ys=>
   rw[hn]at g;obtain⟨vs,h1,r⟩:=R.lst (e.get h) (jT hn);exact⟨vs,nB.of h1,by rw[<- r.length];exact dG g⟩
def IM{K:au}{H0:Hp}{lo hi:Int}:JR K (kL lo hi) (Tj lo (hi-lo).toNat) ρ0 H0 where
 go:=λi S H ρ x e R g=>by
  have g:(if i<(hi-lo).toNat then some (A.int (lo+i))else none)=some x:=g;by_cases hi':i<(hi-lo).toNat
  ·rw[aN hi']at g
   cases g
   refine⟨hi',λw H' ⟨e1,y⟩=>?_⟩;subst e1 y;exact⟨.refl,R,.int _⟩
  ·rw[aM hi']at g;cases g
 stop:=λS H ρ e R _=>aP _
def RI{K:au}{H0:Hp}{x:Str}:JR K (nH (x.cps.toList.map λc=>A.str ⟨#[c]⟩)) (VW x) ρ0 H0 where
 go:=λi S H ρ y e R g=>by
  have g:(x.cps.toList.map λc=>A.str ⟨#[c]⟩)[i]?=some y:=g;rw[aQ]at g;obtain⟨c,hc,rfl⟩:=bw.mp g;rw[cZ]at hc;refine⟨(Array.getElem?_eq_some_iff.mp hc).1,λw H' ⟨e1,c',hc',y'⟩=>?_⟩;rw[hc]at hc'
  cases hc'
  subst e1 y';exact⟨.refl,R,.str _⟩
 stop:=λS H ρ e R _=>by
  show(x.cps.toList.map λc=>A.str ⟨#[c]⟩).length=x.cps.size;rw[aL,cX]
def qi{c:Ex}(he:AE X e c):AI X tg e (qh c):=λpins s σ H Q I h9=>by
 room;have hb:=jM h
 cases hc:c τ S with
 | no=>rw[hc]at hb;exact hb.elim
 | ex x S1=>
  rw[hc]at hb;exact Hu he pins s σ H Q I ⟨ρ,S,τ,R,r,by rw[hc];exact hb⟩
 | ok a S1=>
  rw[hc]at hb
  cases a with
  | tup xs=>
   refine Hu he pins s σ H Q I ⟨ρ,S,τ,R,r,?_⟩;rw[hc];intro ρ1 H1 x e1 R1 v1
   cases v1 with
   | tup h1 r1=>exact⟨_,rfl,⟨_,(m9.of h1)⟩,hb ρ1 H1 _ e1 R1 (O3 (m9.of h1) r1)⟩
  | frz xs=>
   refine Fq he pins s σ H Q I ⟨ρ,S,τ,R,r,?_⟩;rw[hc];intro ρ1 H1 x e1 R1 v1
   cases v1 with
   | frz h1 r1=>exact⟨_,rfl,⟨_,h1.JS⟩,hb ρ1 H1 _ e1 R1 (RV h1 r1)⟩
  | ref n=>
   obtain⟨xs,hn,hb⟩:=jK hb;refine Fq he pins s σ H Q I ⟨ρ,S,τ,R,r,?_⟩;rw[hc];intro ρ1 H1 x e1 R1 v1
   cases v1 with
   | ref hp=>
    obtain⟨vs,h1,r1⟩:=R1.lst hp (jT hn);exact⟨_,rfl,⟨_,nB.of h1⟩,hb ρ1 H1 _ e1 R1 (P5 hp)⟩
  | str x=>
   obtain⟨ha,hb⟩:=j4 hb;refine Q6 he pins s σ H Q I ⟨ρ,S,τ,R,r,?_⟩;rw[hc];intro ρ1 H1 v e1 R1 v1
   cases v1 with
   | str=>exact⟨x,rfl,ha,hb ρ1 H1 _ e1 R1 RI⟩
  | _=>exact hb.elim
abbrev bnd (i:Int):Prop:=-(2 ^ 62)<=i/\i<2 ^ 62
instance (i:Int):Decidable (bnd i):=by unfold bnd;infer_instance
abbrev oh (c:Ex):Ic:=λτ S=>(c τ S).bind λa S1=>match a with
 | .int j=>gd (bnd j) (.ok (kL 0 j) S1)
 | _=>.no
abbrev om (c d:Ex):Ic:=λτ S=>(c τ S).bind λa S1=>(d τ S1).bind λb S2=>match a,b with
 | .int i,.int j=>gd (bnd i/\bnd j) (.ok (kL i j) S2)
 | _,_=>.no
def mX{p:Pos}{c:Ex}(hm:X.mg "range" = none)(ha:AE X a c)(hg:Gl X "range" := by rfl)(hs:starEach [a] X.env=[(false,eval a X.env)]:=by rfl):AI X tg (.Call (.Name "range" p) [a] [] pos) (oh c):=λpins s σ H Q I h9=>by
 room;refine GG hg hm (uw ha zB hs) hs pins s σ H Q I ⟨ρ,S,τ,R,r,jH (jM h) .refl λx S1 h1 ρ1 H1 v e1 R1 v1=>?_⟩
 cases v1 with
 | int j=>
  obtain⟨hb,h1⟩:=j4 h1;exact⟨_,rfl,hb.1,hb.2,by have:=h1 ρ1 H1 _ e1 R1 IM;rwa [Int.sub_zero]at this⟩
 | _=>exact h1.elim
def p6{p:Pos}{c d:Ex}(hm:X.mg "range" = none)(ha:AE X a c)(hb:AE X b d)(hg:Gl X "range" := by rfl)(hs:starEach [a,b] X.env=[(false,eval a X.env),(false,eval b X.env)]:=by rfl)(hs2:starEach [b] X.env=[(false,eval b X.env)]:=by rfl):AI X tg (.Call (.Name "range" p) [a,b] [] pos) (om c d):=λpins s σ H Q I h9=>by
 room;refine GN hg hm (uw ha (uw hb zB hs2) (by rw[hs,hs2])) hs hs2 pins s σ H Q I ⟨ρ,S,τ,R,r,jH (jM h) .refl λx S1 h1 ρ1 H1 v e1 R1 v1=>⟨ρ1,S1,τ,R1,r.ext e1,jH (jM h1) e1 λy S2 h2 ρ2 H2 w e2 R2 v2=>?_⟩⟩
 cases v1 with
 | int i=>
  cases v2 with
  | int j=>
   obtain⟨hb,h2⟩:=j4 h2;exact⟨_,_,rfl,⟨hb.1.1,hb.1.2,hb.2.1,hb.2.2⟩,h2 ρ2 H2 _ (e1.trans e2) R2 IM⟩
  | _=>exact h2.elim
 | _=>exact h2.elim
abbrev pq (s:Src)(g:Tg)(c:Sm):Nat->Nat->Sm
 | 0,_=>λτ S=>if s.fin S then .nx τ S else .no
 | k+1,i=>λτ S=>match s.get i S with
  | none=>.no
  | some x=>.of (g x τ S) λτ1 S1=>match c τ1 S1 with
   | .nx τ' S'=>pq s g c k (i+1) τ' S'
   | .ct τ' S'=>pq s g c k (i+1) τ' S'
   | .bk τ' S'=>.nx τ' S'
   | r=>r
abbrev qM (src:Ic)(g:Tg)(c:Sm):Sm:=λτ S=>.of (src τ S) λs S1=>pq s g c s.k 0 τ S1
def pJ{iter:aE}{src:Ic}{g:Tg}{c:Sm}(hp:PassesOwn (model X.prog X.w) X.A X.env X.xe)(hc:X.calm=true)(hi:AI X tg iter src)(hg:AG X tg g)(hb:Nc X body c)
  (hs:∀x,foldedSetIterable iter X.env x=pure x:=by intro _;rfl):AS X (.For tg iter body [] pos) (qM src g c):=PS.imp (P7 hp hc hi hg hb hs) λD σ H h9=>by
 room;refine⟨ρ,S,τ,R,r,jH (of_post h) .refl λs S1 h1 ρ1 H1 J e1 R1 jr=>?_⟩;refine⟨λi m σ' H'=>m+i=s.k/\∃ρ' S' τ',Ext ρ1 ρ' H1 H'/\Rel X.K ρ' H' S'/\SR X.K ρ' H' τ' σ'/\zh X ρ' H' D (pq s g c m i τ' S'),⟨s.k,rfl,ρ1,S1,τ,.refl,R1,r.ext e1,zh.ext h1 e1⟩,?_⟩;rintro i m σ2 H2 ⟨hm,ρ2,S2,τ2,e2,R2,r2,h2⟩
 cases m with
 | zero=>
  left;have h2:zh X ρ2 H2 D (if s.fin S2 then .nx τ2 S2 else .no):=h2
  cases hf:s.fin S2 with
  | false=>rw[hf]at h2;exact h2.elim
  | true=>
   rw[hf]at h2;refine⟨by rw[show i=s.k by lia];exact jr.stop S2 H2 ρ2 e2.toExt0 R2 hf,h2 ρ2 H2 σ2 .refl R2 r2⟩
 | succ m=>
  right;have h2:zh X ρ2 H2 D (match s.get i S2 with
   | none=>.no
   | some x=>.of (g x τ2 S2) λτ1 S1=>match c τ1 S1 with
    | .nx τ' S'=>pq s g c m (i+1) τ' S'
    | .ct τ' S'=>pq s g c m (i+1) τ' S'
    | .bk τ' S'=>.nx τ' S'
    | r=>r):=h2
  cases hx:s.get i S2 with
  | none=>rw[hx]at h2;exact h2.elim
  | some x=>
   rw[hx]at h2;obtain⟨hgo,hy⟩:=jr.go i S2 H2 ρ2 x e2.toExt0 R2 hx;refine⟨hgo,λσ' H'=>m+(i+1)=s.k/\∃ρ' S' τ',Ext ρ1 ρ' H1 H'/\Rel X.K ρ' H' S'/\SR X.K ρ' H' τ' σ'/\zh X ρ' H' D (pq s g c m (i+1) τ' S'),λσ' H' z=>⟨m,c6 _,z⟩,λv H3 y=>?_⟩;obtain⟨e3,R3,v3⟩:=hy v H3 y;refine⟨ρ2,S2,τ2,x,R3,r2.ext e3,v3,jH (of_post h2) e3 λτ4 S4 h4 ρ4 H4 σ4 e4 R4 r4=>⟨ρ4,S4,τ4,R4,r4,?_⟩⟩;have e24:=e3.trans e4
   cases hcc:c τ4 S4 with
   | nx τ5 S5=>rw[hcc]at h4;exact λρ5 H5 σ5 e5 R5 r5=>⟨(),ρ5,S5,τ5,(e2.trans e24).trans e5,R5,r5,zh.ext h4 (e24.trans e5)⟩
   | ct τ5 S5=>rw[hcc]at h4;exact λρ5 H5 σ5 e5 R5 r5=>⟨(),ρ5,S5,τ5,(e2.trans e24).trans e5,R5,r5,zh.ext h4 (e24.trans e5)⟩
   | bk τ5 S5=>rw[hcc]at h4;exact DZ.ext h4 e24
   | rt x5 S5=>rw[hcc]at h4;exact wk.ext h4 e24
   | ex x5 S5=>rw[hcc]at h4;exact XE.ext h4 e24
   | no=>rw[hcc]at h4;exact h4
end
abbrev R.lJ {α β:Type}(r:R α)(f:α->jJ->R β):R β:=match r with
 | .ok a S=>f a S
 | _=>.no
def k6{α β:Type}{r:R α}{f:α->jJ->R β}{b:β}(h:r.lJ f=.ok b S2):∃a S,r=.ok a S/\f a S=.ok b S2:=by
 cases r with
 | ok a S=>exact⟨a,S,rfl,h⟩
 | ex _ _=>cases h
 | no=>cases h
def yk{α β:Type}{r:R α}{f:α->jJ->R β}{P:β->jJ->Prop}{E:Str->jJ->Prop}(h:(r.lJ f).post P E):∃a S,r=.ok a S/\(f a S).post P E:=by
 cases r with
 | ok a S=>exact⟨a,S,rfl,h⟩
 | ex _ _=>exact h.elim
 | no=>exact h.elim
def C9{α β:Type}{o:Option β}{f:β->R α}{a:α}(h:opt o f=.ok a S):∃b,o=some b/\f b=.ok a S:=by
 cases o with
 | none=>cases h
 | some b=>exact⟨b,rfl,h⟩
abbrev l9 (s:Src)(g:Tg)(t:Te)(e:Ex):Nat->Nat->ad->jJ->R (ad)
 | 0,_=>λ_ S=>if s.fin S then .ok [] S else .no
 | k+1,i=>λτ S=>opt (s.get i S) λx=>(g x τ S).lJ λτ1 S1=>(t τ1 S1).lJ λb S2=>match b with
  | true=>(e τ1 S2).lJ λy S3=>(l9 s g t e k (i+1) τ1 S3).lJ λys S4=>.ok (y::ys) S4
  | false=>l9 s g t e k (i+1) τ1 S2
abbrev nM (cap:List (bi))(τ:ad):ad:=cap.map λo=>match o with
 | some j=>τ.getD j .unb
 | none=>.unb
abbrev kK (cap:List (bi))(src:Ic)(g:Tg)(t:Te)(e:Ex):Ex:=λτ S=>(src τ S).bind λs S1=>(l9 s g t e s.k 0 (nM cap τ) S1).lJ λys S2=>newL ys S2
abbrev sH:Te:=λ_ S=>.ok true S
def BP{s:Src}{g:Tg}{t:Te}{e:Ex}{k:Nat}{T:Prop}(h:l9 s g t e (k+1) i τ S=.ok zs S')
  (q:∀x τ1 S1 b S2,s.get i S=some x->g x τ S=.ok τ1 S1->t τ1 S1=.ok b S2->(b=true->∃y S3 ws,e τ1 S2=.ok y S3/\l9 s g t e k (i+1) τ1 S3=.ok ws S'/\zs=y::ws)->(b=false->l9 s g t e k (i+1) τ1 S2=.ok zs S')->T):T:=by
 obtain⟨x,hx,h⟩:=C9 h;obtain⟨τ1,S1,h1,h⟩:=k6 h;obtain⟨b,S2,h2,h⟩:=k6 h;refine q x τ1 S1 b S2 hx h1 h2 (λhb=>?_) λhb=>?_
 ·subst hb;obtain⟨y,S3,h3,h⟩:=k6 h;obtain⟨ws,S4,h4,h⟩:=k6 h
  cases h
  exact⟨y,S3,ws,h3,h4,rfl⟩
 ·subst hb;exact h
structure Out (ρ1:ar)(H1:Hp)(D:ak)(accV:List V)(ρ:ar)(H:Hp):Prop where
 e0:Ext0 ρ1 ρ H1 H
 fr:∀a u,a≠D->H1 a=some u->a∉ρ1->H a=some u
 nw:∀a∈ρ,a∈ρ1\/H1 a=none
 nD:D∉ρ
 hD:H D=some (.lst accV)
def Out.stay{H1 H3 H7:Hp}{D:ak}(o:Out ρ1 H1 D accV ρ3 H3)(hD1:H1 D=none)(e7:Ext ρ3 ρ7 H3 H7):Out ρ1 H1 D accV ρ7 H7:=by
 refine⟨⟨o.e0.pre.trans e7.pre,λa u i h=>e7.im a u i (o.e0.im a u i h)⟩,λa u na hu nr=>e7.fr a u (o.fr a u na hu nr) λz=>(o.nw a z).elim nr λz=>by(rw[z]at hu;cases hu),λa ha=>?_,λz=>(e7.nw D z).elim o.nD λz=>by(rw[o.hD]at z;cases z),e7.fr D _ o.hD o.nD⟩;by_cases hr:a∈ρ1
 ·exact .inl hr
 ·right
  cases q:H1 a with
  | none=>rfl
  | some u=>
   have aD:a≠D:=j3 q hD1
   rcases e7.nw a ha with z|z
   ·exact((o.nw a z).elim hr λz=>by(rw[z]at q;cases q)).elim
   ·rw[o.fr a u aD q hr]at z;cases z
def Out.put{H1 H:Hp}{D:ak}(o:Out ρ1 H1 D accV ρ H)(ex:Ext0 ρ ρ H (upd H D (.lst vs))):Out ρ1 H1 D vs ρ (upd H D (.lst vs)):=
 ⟨⟨o.e0.pre,λa u i h=>ex.im a u i (o.e0.im a u i h)⟩,λa u na hu nr=>by rw[jR na];exact o.fr a u na hu nr,o.nw,o.nD,kq⟩
def Out.end{H1 H:Hp}{D:ak}(o:Out ρ1 H1 D accV ρ H)(hD:H1 D=none):Ext ρ1 (ρ++[D]) H1 H:=by
 refine⟨⟨o.e0.pre.trans (gq _ _),o.e0.im⟩,λa u hu na=>o.fr a u (j3 hu hD) hu na,λa ha=>?_⟩
 rcases bq.mp ha with z|z
 ·exact o.nw a z
 ·have:a=D:=by simpa using z
  rw[this];exact .inr hD
abbrev Cq (K:au)(ρ1:ar)(H1:Hp)(D:ak)(ys:ad)(k:Nat)(E:ar->Hp->Prop)(P:Nat->Nat->ad->jJ->ad->Prop)(i m:Nat)(σ:L2.St)(H:Hp):Prop:=
 m+i=k/\∃ρ S τ acc zs accV,Out ρ1 H1 D accV ρ H/\E ρ H/\Rel K ρ H S/\SR K ρ H τ σ/\AVs K ρ H acc accV/\P m i τ S zs/\acc++zs=ys
section
variable {K:au}{ρ1 ρ:ar}{H1 H:Hp}{D:ak}{ys acc zs:ad}{accV:List V}{k i m:Nat}{E:ar->Hp->Prop}{P:Nat->Nat->ad->jJ->ad->Prop}{σ:L2.St}{S:jJ}{τ:ad}
def Cq.el{T:Prop}(h:Cq K ρ1 H1 D ys k E P i m σ H)(q:∀ρ S τ acc zs accV,m+i=k->Out ρ1 H1 D accV ρ H->E ρ H->Rel K ρ H S->SR K ρ H τ σ->AVs K ρ H acc accV->P m i τ S zs->acc++zs=ys->T):T:=by
 obtain⟨hm,ρ,S,τ,acc,zs,accV,h1,h2,h3,h4,h5,h6,h7⟩:=h;exact q ρ S τ acc zs accV hm h1 h2 h3 h4 h5 h6 h7
def Cq.of(hm:m+i=k)(o:Out ρ1 H1 D accV ρ H)(e:E ρ H)(R:Rel K ρ H S)(r:SR K ρ H τ σ)(v:AVs K ρ H acc accV)(p:P m i τ S zs)(q:acc++zs=ys):Cq K ρ1 H1 D ys k E P i m σ H:=⟨hm,ρ,S,τ,acc,zs,accV,o,e,R,r,v,p,q⟩
end
abbrev TJ (K:au)(c:Ex):TE:=λσ H Q=>∃ρ S τ a S',Rel K ρ H S/\SR K ρ H τ σ/\c τ S=.ok a S'/\∀ρ' H' v,Ext ρ ρ' H H'->Rel K ρ' H' S'->AV K ρ' H' a v->Q v H'
abbrev Pz (K:au)(c:Te):TT:=λσ H Q=>∃ρ S τ a S',Rel K ρ H S/\SR K ρ H τ σ/\c τ S=.ok a S'/\∀ρ' H',Ext ρ ρ' H H'->Rel K ρ' H' S'->Q a H'
abbrev Ss (K:au)(g:Tg):TG:=λv σ H Q=>∃ρ S τ a τ' S',Rel K ρ H S/\SR K ρ H τ σ/\AV K ρ H a v/\g a τ S=.ok τ' S'/\∀ρ' H' σ',Ext ρ ρ' H H'->Rel K ρ' H' S'->SR K ρ' H' τ' σ'->Q σ' H'
section
variable {X:Cx}{pos:Pos}{tg iter elt e:aE}{ifs:List aE}{scope:Scope}{N:am}{cap:List (bi)}{src:Ic}{g:Tg}{t:Te}{c:Ex}
def AE.e0{K:au}(hK:X.K=K)(h:AE X e c):PE X e (TJ K c):=PE.imp h λσ H Q ⟨ρ,S,τ,a,S',R,r,hc,q⟩=>⟨ρ,S,τ,by rw[hK];exact R,by rw[hK];exact r,by rw[hc];exact λρ' H' v e R' v'=>q ρ' H' v e (by rw[<- hK];exact R') (by rw[<- hK];exact v')⟩
def AT.t0{K:au}(hK:X.K=K)(h:AT X e t):PT X e (Pz K t):=PT.imp h λσ H Q ⟨ρ,S,τ,a,S',R,r,hc,q⟩=>⟨ρ,S,τ,by rw[hK];exact R,by rw[hK];exact r,by rw[hc];exact λρ' H' e R'=>q ρ' H' e (by rw[<- hK];exact R')⟩
def AG.g0{K:au}(hK:X.K=K)(h:AG X e g):PG X e (Ss K g):=PG.imp h λv σ H Q ⟨ρ,S,τ,a,τ',S',R,r,va,hc,q⟩=>⟨ρ,S,τ,a,by rw[hK];exact R,by rw[hK];exact r,by rw[hK];exact va,by rw[hc];exact λρ' H' v e R' v'=>q ρ' H' v e (by rw[<- hK];exact R') (by rw[<- hK];exact v')⟩
abbrev Sq (X:Cx)(ifs:List aE)(t:Te):Prop:=Mb X ifs (Pz X.K t)
def r_:Sq X [] sH:=λpins s σ H Q I ⟨ρ,S,τ,a,S',R,r,hc,q⟩=>ME pins s σ H Q I (by cases hc;exact q ρ H .refl R)
def qo(h:AT X e t):Sq X [e] t:=Mm (h.t0 rfl)
def OV{K:au}{H:Hp}(r:SR K ρ H τ σ)(cap:List (bi)):SR K ρ H (nM cap τ) (cap.map (MS σ)):=by
 refine⟨by simp[nM],λi a h=>?_⟩;unfold nM at h;rw[aQ]at h;obtain⟨o,ho,e⟩:=bw.mp h
 cases o with
 | none=>exact .inl e.symm
 | some j=>
  have e:τ.getD j .unb=a:=e
  cases hj:τ[j]? with
  | none=>rw[aI,hj]at e;exact .inl e.symm
  | some b=>
   rw[aI,hj]at e;have e:b=a:=e;subst e
   rcases r.at j b hj with z|⟨v,h1,h2⟩
   ·exact .inl z
   ·exact .inr ⟨v,by rw[aQ,ho];show some ((σ[j]?).getD none)=_;rw[h1];rfl,h2⟩
def Rel.Lp{K:au}{H:Hp}{p:ak}(R:Rel K ρ H S)(hp:H p=none):p∉ρ:=λhm=>by
 obtain⟨n,hn,e⟩:=iD.mp hm;have hl:n<S.length:=by rw[<- R.len];exact hn
 have:=R.at n p S[n] (by rw[aH hn,e]) (aH hl)
 cases ho:S[n]with
 | lst xs=>rw[ho]at this;obtain⟨vs,h,_⟩:=this;rw[hp]at h;cases h
 | dct _|dki _=>rw[ho]at this;obtain⟨vs,h,_⟩:=this;rw[hp]at h;cases h
 | ins _ _=>rw[ho]at this;obtain⟨_,_,h⟩:=this;rw[hp]at h;cases h
def B3(σ:L2.St)(H:Hp)(Q:VK)(h:tE X (kK cap src g t c) σ H Q):SG cap (tI X src) (Ss X.K g) (Pz X.K t) (TJ X.K c) σ H Q:=by
 kln_w;refine⟨ρ,S,τ,R,r,jH (jM h) .refl λs S1 h1 ρ1 H1 J e1 R1 jr D hD=>?_⟩;obtain⟨ys,S2,hcg,h1⟩:=yk h1;obtain⟨hlen,h1⟩:=j4 h1;have h1:wk X ρ H Q (.ref S2.length) (S2++[.lst ys]):=h1;obtain⟨eD,RD⟩:=R1.im (u:=.lst []) hD;refine⟨Cq X.K ρ1 H1 D ys s.k (λ_ _=>True) λm i τ S zs=>l9 s g t c m i τ S=.ok zs S2,⟨s.k,.of rfl ⟨eD.toExt0,λa u na hu _=>by rw[jR na];exact hu,λa ha=>.inl ha,R1.Lp hD,kq⟩ trivial RD (OV ((r.ext e1).ext eD) cap) .nil hcg rfl⟩,?_⟩;intro i m σ3 H3 hw;refine hw.el λρ3 S3 τ3 acc zs accV hm o3 _ R3 r3 ac3 cg3 eys=>?_;clear hw
 cases m with
 | zero=>
  left;have cg3:(if s.fin S3 then Am.R.ok [] S3 else .no)=.ok zs S2:=cg3
  cases hf:s.fin S3 with
  | false=>rw[hf]at cg3;cases cg3
  | true=>
   rw[hf]at cg3
   cases cg3
   rw[cW]at eys;subst eys;refine⟨by rw[show i=s.k by lia];exact jr.stop _ H3 ρ3 o3.e0 R3 hf,?_⟩;obtain⟨RT,gt⟩:=R3.take o3.hD o3.nD ac3;exact h1 (ρ3++[D]) H3 _ (e1.trans (o3.end hD)) RT (.ref gt)
 | succ m=>
  right;refine BP cg3 λx τ4 S4 b S5 hx hg4 ht5 hT hF=>?_;have jg:=jr.go i S3 H3 ρ3 x o3.e0 R3 hx;refine⟨jg.1,λv H4 y=>?_⟩;obtain⟨e4,R4,v4⟩:=jg.2 v H4 y;refine⟨ρ3,S3,τ3,x,τ4,S4,R4,r3.ext e4,v4,hg4,λρ5 H5 σ5 e5 R5 r5=>⟨ρ5,S4,τ4,b,S5,R5,r5,ht5,λρ6 H6 e6 R6=>?_⟩⟩;have e36:=(e4.trans e5).trans e6
  cases b with
  | false=>
   dsimp only;rw[aM aY];exact⟨m,c6 _,.of () (o3.stay hD e36) trivial R6 (r5.ext e6) (ac3.ext e36) (hF rfl) eys⟩
  | true=>
   dsimp only;rw[aN rfl];obtain⟨y,S6,ws,he6,cg6,ezs⟩:=hT rfl;refine⟨ρ6,S5,τ4,y,S6,R6,r5.ext e6,he6,λρ7 H7 w e7 R7 v7=>?_⟩;have o7:=o3.stay hD (e36.trans e7);obtain⟨ex8,R8⟩:=R7.out (ws:=accV++[w]) o7.hD o7.nD;have l1:=ac3.length;refine⟨accV,o7.hD,?_,m,c6 _,.of () (o7.put ex8) trivial R8 ((r5.ext (e6.trans e7)).lU ex8) (AVs.lU ex8 ((ac3.ext (e36.trans e7)).append (.one v7))) cg6 ?_⟩
   ·have:(acc++zs).length<=sizeLine:=by rw[eys];exact hlen
    rw[ezs,aU,bE]at this
    lia
   ·rw[bJ,<- eys,ezs];rfl
def oA(hc:X.calm=true)(Sc:CpScope X scope N cap)(hi:AI X tg iter src)(hg:∀C s₀ H₀ ex,AG (kO X scope N C s₀ H₀ ex) tg g)(ht:∀C s₀ H₀ ex,Sq (kO X scope N C s₀ H₀ ex) ifs t)(he:∀C s₀ H₀ ex,AE (kO X scope N C s₀ H₀ ex) elt c)
  (hs:∀x,foldedSetIterable iter X.env x=pure x:=by intro _;rfl):AE X (.ListComp elt [⟨tg,iter,ifs,0⟩] scope pos) (kK cap src g t c):=
 PE.imp (SJ hc Sc hi (g:=Ss X.K g) (tc:=Pz X.K t) (te:=TJ X.K c) (λC s₀ H₀ ex=>(hg C s₀ H₀ ex).g0 rfl) (λC s₀ H₀ ex=>ht C s₀ H₀ ex) (λC s₀ H₀ ex=>(he C s₀ H₀ ex).e0 rfl) hs) B3
def D_{i:Nat}{x:Str}{spos:Pos}(hN:X.N.Nodup)(hc:X.calm=true)(Sc:CpScope X scope N cap)(hi:AI X tg iter src)(hg:∀C s₀ H₀ ex,AG (kO X scope N C s₀ H₀ ex) tg g)(ht:∀C s₀ H₀ ex,Sq (kO X scope N C s₀ H₀ ex) ifs t)(he:∀C s₀ H₀ ex,AE (kO X scope N C s₀ H₀ ex) elt c)
  (hi':X.N[i]?=some x:=by rfl) (hx:Loc X.env.scope x:=by first|exact Or.inl rfl|exact Or.inr rfl)
  (hsw:swapsWith (.ListComp elt [⟨tg,iter,ifs,0⟩] scope pos) (some (.Name x pos')) spos.line X.env=pure true:=by rfl) (hf:X.fn x=true\/X.env.scope.names.lookup x=some .local:=by first|exact .inl rfl|exact .inr rfl|assumption)
  (hs:∀x,foldedSetIterable iter X.env x=pure x:=by intro _;rfl):AS X (.Assign [.Name x pos'] (.ListComp elt [⟨tg,iter,ifs,0⟩] scope pos) spos) (lg (kK cap src g t c) (kN i)):=
 PS.imp (Il hN hi' hx hc Sc hi (g:=Ss X.K g) (tc:=Pz X.K t) (te:=TJ X.K c) (λC s₀ H₀ ex=>(hg C s₀ H₀ ex).g0 rfl) (λC s₀ H₀ ex=>ht C s₀ H₀ ex) (λC s₀ H₀ ex=>(he C s₀ H₀ ex).e0 rfl) hsw hf hs) λD σ H ⟨ρ,S,τ,R,r,h⟩=>
  B3 σ H _ ⟨ρ,S,τ,R,r,jH (of_post h) .refl λa S1 h1 ρ1 H1 x e1 R1 v1=>h1 ρ1 H1 _ e1 R1 ((r.ext e1).set v1)⟩
end
abbrev A.lst? (S:jJ):A->Option (ad)
 | .ref n=>jF S n
 | _=>none
abbrev Jv (f:A->ad->jJ->R A)(co:Ex)(d:qt):Ex:=λτ S=>(co τ S).bind λo S1=>opt (o.lst? S1) λ_=>(d τ S1).bind λas S2=>f o as S2
abbrev PZ (f:A->ad->jJ->R A)(co:Ex):Ex:=λτ S=>(co τ S).bind λo S1=>opt (o.lst? S1) λ_=>f o [] S1
abbrev rM (X:Cx)(f:A->ad->jJ->R A):V->List V->Hp->VK->Prop:=λx vs H Q=>∃ρ S o as,Rel X.K ρ H S/\AV X.K ρ H o x/\AVs X.K ρ H as vs/\(f o as S).post (wk X ρ H Q) (XE X ρ H)
section
variable {X:Cx}{apos cpos:Pos}{o e:aE}{es:List aE}{name:Str}{id:String}{f:A->ad->jJ->R A}{co:Ex}{d:qt}
def lst?_ty{K:au}{H:Hp}{x:A}{v:V}(R:Rel K ρ H S)(h:AV K ρ H x v)(e:x.lst? S=some xs):UO K "list" v H:=by
 cases h with
 | ref h=>
  obtain⟨vs,h1,_⟩:=R.lst h (jT e);exact .inl ⟨rfl,vs,nB.of h1⟩
 | _=>cases e
def za(slot:Slot "list" name id)(hty:typeOf (.builtin id)=pure (.type "method_descriptor"))(hm:II X id (rM X f))(ho:AE X o co)(ha:AL X (e::es) d)
  (hbase:attributeBase o name X.env (eval o X.env)=eval o X.env:=by rfl)
  (hfew:((backTo cpos (starEach (e::es) X.env)).all (λx=>!x.1) && (backToKw cpos (keywordEach [] X.env)).all (λx=>x.1.isSome)
   && decide ((e::es).length+([]:List Keyword).length+(if ([]:List Keyword).isEmpty then 0 else 1)<30))=true:=by rfl)
  (hline:(apos.endLine == cpos.line)=true:=by rfl) (hs:starEach (e::es) X.env=(false,eval e X.env)::starEach es X.env:=by rfl) (hplain:(backTo cpos (starEach es X.env)).any (·.1)=false:=by rfl) :
  AE X (.Call (.Attribute o name apos) (e::es) [] cpos) (Jv f co d):=PE.imp (SE gD slot hty hm ho ha hbase hfew hline hs hplain) λσ H Q h9=>by
 room;refine⟨ρ,S,τ,R,r,jH (jM h) .refl λx S1 h1 ρ1 H1 v e1 R1 v1=>?_⟩;obtain⟨xs,hx,h1⟩:=jK h1;refine⟨lst?_ty R1 v1 hx,ρ1,S1,τ,R1,r.ext e1,jH (jM h1) e1 λas S2 h2 ρ2 H2 vs e2 R2 v2=>?_⟩;exact⟨ρ2,S2,x,as,R2,v1.ext e2,v2,jH h2 (e1.trans e2) λ_ _ z=>z.ext (e1.trans e2)⟩
def Qn(slot:Slot "list" name id)(hty:typeOf (.builtin id)=pure (.type "method_descriptor"))(hm:II X id (rM X f))(ho:AE X o co)
  (hbase:attributeBase o name X.env (eval o X.env)=eval o X.env:=by rfl) (hline:(apos.endLine == cpos.line)=true:=by rfl):AE X (.Call (.Attribute o name apos) [] [] cpos) (PZ f co):=PE.imp (Pq gD slot hty hm ho hbase hline) λσ H Q h9=>by
 room;refine⟨ρ,S,τ,R,r,jH (jM h) .refl λx S1 h1 ρ1 H1 v e1 R1 v1=>?_⟩;obtain⟨xs,hx,h1⟩:=jK h1;exact⟨lst?_ty R1 v1 hx,ρ1,S1,x,[],R1,v1,.nil,jH h1 e1 λ_ _ z=>z.ext e1⟩
abbrev se (o:A)(as:ad)(S:jJ):R A:=match o,as with
 | .ref n,[x]=>opt (jF S n) λxs=>gd (xs.length<sizeLine) (.ok .non (S.set n (.lst (xs++[x]))))
 | _,_=>.no
def uT:II X "list.append" (rM X se):=λpins s σ H x vs v us Q I rx rv h9=>by
 obtain⟨ρ,S,o,as,R,vo,va,h⟩:=h9
 cases vo with
 | @ref p n hp=>
  match as,va,h with
  | [],_,h=>exact h.elim
  | _::_::_,_,h=>exact h.elim
  | [y],va,h=>
   obtain⟨w,rfl,hw⟩:=CA va;kt_k;obtain⟨hl,h⟩:=j4 h;obtain⟨ws,h1,r⟩:=R.lst hp (jT hn);obtain⟨ex,R'⟩:=R.put hp (jT hn) (r.append (.one hw));exact vC pins s σ H _ _ v us Q I rx rv ⟨p,ws,w,rfl,rfl,h1,by rw[<- r.length];exact hl,h _ _ _ ex R' .non⟩
 | _=>exact h.elim
abbrev RQ (o:A)(as:ad)(S:jJ):R A:=match o,as with
 | .ref n,[]=>opt (jF S n) λxs=>opt (xs[xs.length-1]?) λx=>.ok x (S.set n (.lst xs.dropLast))
 | _,_=>.no
def AVs.dropLast{K:au}{H:Hp}{xs:ad}{vs:List V}(r:AVs K ρ H xs vs):AVs K ρ H xs.dropLast vs.dropLast:=by
 rw[List.dropLast_eq_take,List.dropLast_eq_take,r.length];exact r.take _
def Ua:II X "list.pop" (rM X RQ):=λpins s σ H x vs v us Q I rx rv h9=>by
 obtain⟨ρ,S,o,as,R,vo,va,h⟩:=h9
 cases vo with
 | @ref p n hp=>
  match as,va,h with
  | _::_,_,h=>exact h.elim
  | [],va,h=>
   cases va
   kt_k;obtain⟨y,hy,h⟩:=jK h;obtain⟨ws,h1,r⟩:=R.lst hp (jT hn);obtain⟨w,hw,vw⟩:=r.get hy;obtain⟨ex,R'⟩:=R.put hp (jT hn) r.dropLast;exact Rh pins s σ H _ _ v us Q I rx rv ⟨p,ws,w,rfl,rfl,h1,by rw[<- r.length];exact hw,h _ _ _ ex R' (vw.ext ex)⟩
 | _=>exact h.elim
abbrev Dg (o:A)(as:ad)(S:jJ):R A:=match o,as with
 | .ref n,[.int i]=>opt (jF S n) λxs=>gd (-(2 ^ 63)<=i/\i<2 ^ 63) (opt (seqIndex? i xs.length) λk=>opt (xs[k]?) λx=>.ok x (S.set n (.lst (xs.eraseIdx k))))
 | _,_=>.no
def MM:II X "list.pop" (rM X Dg):=λpins s σ H x vs v us Q I rx rv h9=>by
 obtain⟨ρ,S,o,as,R,vo,va,h⟩:=h9
 cases vo with
 | @ref p n hp=>
  match as,va,h with
  | [],_,h=>exact h.elim
  | y::_::_,_,h=>exact(by cases y<;>exact h.elim)
  | [y],va,h=>
   obtain⟨w,rfl,hw⟩:=CA va
   cases hw with
   | int i=>
    kt_k;obtain⟨hi,h⟩:=j4 h;obtain⟨k,hk,h⟩:=jK h;obtain⟨y,hy,h⟩:=jK h;obtain⟨ws,h1,r⟩:=R.lst hp (jT hn);obtain⟨w,hw,vw⟩:=r.get hy;obtain⟨ex,R'⟩:=R.put hp (jT hn) (r.eraseIdx k);exact KS pins s σ H _ _ v us Q I rx rv ⟨p,ws,i,k,w,rfl,rfl,h1,hi.1,hi.2,by rw[<- r.length];exact hk,hw,h _ _ _ ex R' (vw.ext ex)⟩
   | _=>exact h.elim
 | _=>exact h.elim
end
abbrev mw (N:am)(m:Sm)(as:ad)(S:jJ):R A:=match m (as++List.replicate (N.length-as.length) .unb) S with
 | .rt a S'=>.ok a S'
 | .nx _ S'=>.ok .non S'
 | .ex c S'=>.ex c S'
 | _=>.no
abbrev rz (K:au)(n:Nat)(F:ad->jJ->R A):Sp:=λvs H Q _=>vs.length=n/\∃ρ S as a S',Rel K ρ H S/\AVs K ρ H as vs/\F as S=.ok a S'/\∀ρ' H' v,Ext ρ ρ' H H'->Rel K ρ' H' S'->AV K ρ' H' a v->Q v H'
def Mf{K:au}{H:Hp}{as:ad}(r:AVs K ρ H as vs)(N:am):SR K ρ H (as++List.replicate (N.length-as.length) .unb) (L2.start N vs):=by
 have hl:=r.length;refine⟨by unfold L2.start;simp[hl],λi a h=>?_⟩;by_cases hi:i<as.length
 ·rw[bF hi]at h;obtain⟨v,hv,av⟩:=r.get h;exact .inr ⟨v,by unfold L2.start;rw[bF (by simp;lia),aQ,hv];rfl,av⟩
 ·rw[eg (),gA]at h;split at h
  ·exact .inl (aW h).symm
  ·cases h
section
variable {P:aj}{w:ah}{K:au}{mg:Str->ba}{base:aq}
def uZ{x:Str}{st:aF}{f:ak}{fd:FuncData}{N ps:am}{k:Nat}{m:Sm}(F:Fun K x qual st f fd)(Sc:FnScope N ps (jS st))
  (body:∀(cdv:af) (A:aA) (outer:List Env) (s:aC) (H:Hp) (E:XK),Room k (A.deeper (envOfC qual (jS st) s.heap.objs.size f cdv))->Nc (CB qy P w K mg base N qual (jS st) f cdv A outer s H E).Ui (o5 st) m) :
  FnOk P w K mg base qy (k+1) f fd ps (rz K ps.length (mw N m)):=by
 refine F.ok Sc (λvs H Q E h=>h.1) λcdv B outer s H vs Q E hr ⟨hl,ρ,S,as,a,S',R,va,hF,q⟩=>⟨_,body cdv B outer s H E hr,ρ,S,_,R,Mf va N,?_⟩;unfold mw at hF
 cases hm:m (as++List.replicate (N.length-as.length) .unb) S with
 | rt b S2=>rw[hm]at hF;cases hF;exact q
 | nx τ S2=>rw[hm]at hF;cases hF;exact λρ' H' σ' e R' _=>q ρ' H' _ e R' .non
 | bk τ S2=>rw[hm]at hF;cases hF
 | ct τ S2=>rw[hm]at hF;cases hF
 | ex c S2=>rw[hm]at hF;cases hF
 | no=>rw[hm]at hF;cases hF
end
meta abbrev qK (P:aj)(w:ah)(K:au)(mg:Str->ba)(base:aq)(k:Nat)(x:Str)(ps:am)(F:ad->jJ->R A):Prop:=Kn P w K mg base k x ps (rz K ps.length F)
abbrev eFn (F:ad->jJ->R A)(d:qt):Ex:=λτ S=>(d τ S).bind λas S1=>match F as S1 with
 | .ok a S2=>.ok a S2
 | _=>.no
section
variable {X:Cx}{pos p:Pos}{e:aE}{es:List aE}{x:Str}{ps:am}{k:Nat}{F:ad->jJ->R A}{d:qt}
def D8(G:qK X.prog X.w X.K X.mg X.base k x ps F)(hr:Room k X.A)(ha:AL X (e::es) d)(hl:∀τ S as S',d τ S=.ok as S'->as.length=ps.length)(hg:Gl X x:=by rfl)(hdb:(x == ("__debug__" : Str))=false:=by decide)
  (hs:starEach (e::es) X.env=(false,eval e X.env)::starEach es X.env:=by rfl) (hplain:(backTo pos (starEach es X.env)).any (·.1)=false:=by rfl):AE X (.Call (.Name x p) (e::es) [] pos) (eFn F d):=
 PE.imp (UE G hr ha hg hdb hs hplain) λσ H Q h9=>by
  room;refine⟨ρ,S,τ,R,r,?_⟩;have hb:=jM h
  cases hd:d τ S with
  | no=>rw[hd]at hb;exact hb
  | ex c S1=>rw[hd]at hb;exact hb
  | ok as S1=>
   rw[hd]at hb;intro ρ1 H1 vs e1 R1 v1;rw[cW];refine⟨by rw[<- v1.length];exact hl τ S as S1 hd,ρ1,S1,as,?_⟩;have hb:Am.R.post (match F as S1 with
    | .ok a S2=>.ok a S2
    | _=>.no) (wk X ρ H Q) (XE X ρ H):=hb
   cases hF:F as S1 with
   | ok a S2=>rw[hF]at hb;exact⟨a,S2,R1,v1,rfl,λρ2 H2 v e2=>hb ρ2 H2 v (e1.trans e2)⟩
   | ex c S2=>rw[hF]at hb;exact hb.elim
   | no=>rw[hF]at hb;exact hb.elim
def wD:∀τ S as S',jO τ S=.ok as S'->as.length=0:=λτ S as S' h=>by cases h;rfl
def lZ{c:Ex}{d:qt}{n:Nat}(h:∀τ S as S',d τ S=.ok as S'->as.length=n):∀τ S as S',jE c d τ S=.ok as S'->as.length=n+1:=λτ S as S' e=>by
 unfold jE at e
 cases hc:c τ S with
 | ok a S1=>
  rw[hc]at e
  cases hd:d τ S1 with
  | ok bs S2=>
   have e:R.bind (d τ S1) (λas S2=>.ok (a::as) S2)=.ok as S':=e;rw[hd]at e;cases e;rw[bE,h τ S1 bs _ hd]
  | ex _ _=>
   have e:R.bind (d τ S1) (λas S2=>.ok (a::as) S2)=.ok as S':=e;rw[hd]at e;cases e
  | no=>
   have e:R.bind (d τ S1) (λas S2=>.ok (a::as) S2)=.ok as S':=e;rw[hd]at e;cases e
 | ex _ _=>rw[hc]at e;cases e
 | no=>rw[hc]at e;cases e
end
section
variable {X:Cx}{pos:Pos}{a b c d:aE}
abbrev Wm (f':A->A->jJ->R A)(cc:Ex)(τ:ad)(b k:A)(S:jJ):R A:=match k with
 | .bl true=>(cc τ S).bind λc S4=>f' b c S4
 | .bl false=>.ok (.bl false) S
 | _=>.no
abbrev NW (f f':A->A->jJ->R A)(ca cb cc:Ex):Ex:=λτ S=>(ca τ S).bind λa S1=>(cb τ S1).bind λb S2=>(f a b S2).bind λk S3=>Wm f' cc τ b k S3
def Qs{f f':A->A->jJ->R A}{ca cb cc:Ex}{H:Hp}{Q:VK}(h:tE X (NW f f' ca cb cc) σ H Q):HA (r2 X f) (r2 X f') (tE X ca) (tE X cb) (tE X cc) σ H Q:=by
 kln_w;refine⟨ρ,S,τ,R,r,jH (jM h) .refl λa S1 h1 ρ1 H1 x e1 R1 v1=>⟨ρ1,S1,τ,R1,r.ext e1,jH (jM h1) e1 λb S2 h2 ρ2 H2 y e2 R2 v2=>?_⟩⟩;have e12:=e1.trans e2;refine⟨ρ2,S2,a,b,R2,v1.ext e2,v2,jH (jM h2) e12 λk S3 h3 ρ3 H3 z e3 R3 v3=>?_⟩;have e13:=e12.trans e3
 cases k with
 | bl k=>
  cases AY v3
  refine⟨k,rfl,?_⟩
  cases k with
  | true=>
   rw[aN rfl];exact⟨ρ3,S3,τ,R3,r.ext e13,jH (jM h3) e13 λc S4 h4 ρ4 H4 w e4 R4 v4=>⟨ρ4,S4,b,c,R4,v2.ext (e3.trans e4),v4,jH h4 (e13.trans e4) λ_ _ q=>q.ext (e13.trans e4)⟩⟩
  | false=>
   rw[aM aY];exact h3 ρ3 H3 _ e13 R3 (.bl false)
 | _=>exact h3.elim
def TM{f f':A->A->jJ->R A}{ca cb cc:Ex}(ho:n8 X (compareOp op) (r2 X f))(ho':n8 X (compareOp op') (r2 X f'))(ha:AE X a ca)(hb:AE X b cb)(hc:AE X c cc)(hm:lastMarks [op,op'] [b,c]=false:=by with_unfolding_all rfl) :
  AE X (.Compare a [op,op'] [b,c] pos) (NW f f' ca cb cc):=PE.imp (JB ho ho' ha hb hc hm) λ_ _ _ h=>Qs h
abbrev A.flat:A->Bool
 | .non=>true
 | .bl _=>true
 | .int _=>true
 | .str _=>true
 | _=>false
abbrev T4:A->A->Bool
 | .non,.non=>true
 | .bl a,.bl b=>a == b
 | .bl a,.int b=>(if a then 1 else 0) == b
 | .int a,.bl b=>a == (if b then 1 else 0)
 | .int a,.int b=>a == b
 | .str a,.str b=>a == b
 | _,_=>false
def DU{K:au}{H:Hp}{x:A}{v:V}(h:AV K ρ H x v)(f:x.flat=true):qG v=true:=by cases h<;>first|rfl|cases f
def CN{K:au}{H:Hp}{x y:A}{v:V}(h:AV K ρ H x v)(h':AV K ρ H y u)(f:x.flat=true)(f':y.flat=true):Dm v u=T4 x y:=by
 cases h<;>cases h'<;>first|rfl|(cases f;done)|(cases f';done)
theorem HF{K:au}{H:Hp}{x:A}{v:V}(h:AV K ρ H x v)(f:x.flat=true):∀{ys:ad}{us:List V},AVs K ρ H ys us->ys.all A.flat=true->Ws v us=(ys.any λz=>T4 z x)/\us.all qG=true
 | _,_,.nil,_=>⟨rfl,rfl⟩
 | y::ys,u::us,.cons hy t,fs=>by
  rw[jd,dM]at fs;obtain⟨h1,h2⟩:=HF h f t fs.2;refine⟨?_,by rw[jd,DU hy fs.1,h2];rfl⟩;show(Dm u v || Ws v us)=_;rw[h1,CN hy h fs.1 f];rfl
abbrev P1 (o:A)(as:ad)(S:jJ):R A:=match as with
 | [x]=>opt (o.seq S) λys=>gd (x.flat=true/\ys.all A.flat=true) (opt (ys.findIdx? λz=>T4 z x) λk=>.ok (.int (k:Nat)) S)
 | _=>.no
abbrev Nx (co:Ex)(d:qt):Ex:=λτ S=>(co τ S).bind λo S1=>opt (o.seq S1) λ_=>(d τ S1).bind λas S2=>P1 o as S2
abbrev A.isTup:A->Bool
 | .tup _=>true
 | _=>false
def BK{K:au}{H:Hp}{x:A}{v:V}(R:Rel K ρ H S)(h:AV K ρ H x v)(e:x.seq S=some xs):∃p vs,v=.ref p/\(if x.isTup=true then m9 K H p vs else nB K H p vs)/\AVs K ρ H xs vs:=by
 cases h with
 | tup h r=>cases aW e;exact⟨_,_,rfl,(m9.of h),r⟩
 | frz h r=>cases aW e;exact⟨_,_,rfl,h.JS,r⟩
 | ref h=>
  obtain⟨vs,h1,r1⟩:=R.lst h (jT e);exact⟨_,vs,rfl,nB.of h1,r1⟩
 | _=>cases e
def Pd{K:au}{H:Hp}{x:A}{v:V}{ys:ad}{us:List V}{k:Nat}(h:AV K ρ H x v)(f:x.flat=true)(r:AVs K ρ H ys us)(fs:ys.all A.flat=true)(e:(ys.findIdx? λz=>T4 z x)=some k) :
  us.all qG=true/\∃z,us[k]?=some z/\Dm z v=true/\∀(m:Nat) (z':V),m<k->us[m]?=some z'->Dm z' v=false:=by
 rw[gE]at e;obtain⟨hk,h1,h2⟩:=e;have fl:∀m (hm:m<ys.length),ys[m].flat=true:=λm hm=>ig.mp fs _ (c7 hm);refine⟨(HF h f r fs).2,?_⟩;obtain⟨z,hz,vz⟩:=r.get (aH hk);refine⟨z,hz,by rw[CN vz h (fl k hk) f];exact h1,λm z' hm hz'=>?_⟩;have hm':m<ys.length:=()
 obtain⟨z2,hz2,vz2⟩:=r.get (aH hm');rw[hz']at hz2;cases hz2;rw[CN vz2 h (fl m hm') f];have:=h2 m hm;simpa using this
def P8{e:aE}{apos cpos:Pos}{co:Ex}{d:qt}(ho:AE X o co)(ha:AL X (e::es) d)
  (hbase:attributeBase o "index" X.env (eval o X.env)=eval o X.env:=by rfl)
  (hfew:((backTo cpos (starEach (e::es) X.env)).all (λx=>!x.1) && (backToKw cpos (keywordEach [] X.env)).all (λx=>x.1.isSome)
   && decide ((e::es).length+([]:List Keyword).length+(if ([]:List Keyword).isEmpty then 0 else 1)<30))=true:=by rfl)
  (hline:(apos.endLine == cpos.line)=true:=by rfl) (hs:starEach (e::es) X.env=(false,eval e X.env)::starEach es X.env:=by rfl) (hplain:(backTo cpos (starEach es X.env)).any (·.1)=false:=by rfl) :
  AE X (.Call (.Attribute o "index" apos) (e::es) [] cpos) (Nx co d):=PE.imp (Rg ho ha hbase hfew hline hs hplain) λσ H Q h9=>by
 room;refine⟨ρ,S,τ,R,r,jH (jM h) .refl λx S1 h1 ρ1 H1 v e1 R1 v1=>?_⟩;obtain⟨xs,hx,h1⟩:=jK h1;obtain⟨p,vs,hv,hq,_⟩:=BK R1 v1 hx;refine⟨x.isTup,p,vs,hv,hq,ρ1,S1,τ,R1,r.ext e1,jH (jM h1) e1 λas S2 h2 ρ2 H2 ws e2 R2 v2=>?_⟩;unfold P1 at h2
 match as,v2,h2 with
 | [],_,h2=>exact h2.elim
 | _::_::_,_,h2=>exact h2.elim
 | [y],v2,h2=>
  obtain⟨w,rfl,hw⟩:=CA v2;obtain⟨ys,hy,h2⟩:=jK h2;obtain⟨⟨f1,f2⟩,h2⟩:=j4 h2;obtain⟨k,hk,h2⟩:=jK h2;obtain⟨p',us,hv',hq',rr⟩:=BK R2 (v1.ext e2) hy;obtain⟨g1,z,g2,g3,g4⟩:=Pd hw f1 rr f2 hk;exact⟨p',w,us,k,z,hv',rfl,hq',DU hw f1,g1,g2,g3,g4,h2 _ _ _ (e1.trans e2) R2 (.int _)⟩
end
abbrev QC (o:A)(as:ad)(S:jJ):R A:=match o,as with
 | .ref n,[x]=>(match x with
  | .bl b=>opt (jF S n) λxs=>opt (A.AJ xs) λbs=>.ok (.int (bs.countP (· == b):Nat)) S
  | _=>.no)
 | _,_=>.no
theorem Bv{K:au}{H:Hp}:∀{xs:ad}{bs:List Bool}{us:List V}{its:ap},A.AJ xs=some bs->AVs K ρ H xs us->Vals us its->xs=bs.map A.bl/\its=bs.map Value.bool
 | [],bs,_,_,h,.nil,.nil=>by cases aW h;exact⟨rfl,rfl⟩
 | x::xs,bs,_,_,h,.cons hx hxs,.cons r rs=>by
  cases x with
  | bl b=>
   have h:(A.AJ xs).map (b::·)=some bs:=h;obtain⟨bs',h1,rfl⟩:=bw.mp h;obtain⟨e1,e2⟩:=Bv h1 hxs rs
   cases hx
   cases r
   exact⟨by rw[e1];rfl,by rw[e2];rfl⟩
  | _=>cases h
abbrev Tn (b:Bool):af->Bool
 | .bool c=>c == b
 | _=>false
theorem HL(b:Bool):∀(bs:List Bool),(bs.map Value.bool).countP (Tn b)=bs.countP (· == b)
 | []=>rfl
 | c::bs=>by rw[b9,bO,bO,HL b bs];rfl
section
variable {X:Cx}
def wz(hu:X.A.units+64<cLine):II X "list.count" (rM X QC):=λpins s σ H x vs v us Q I rx rv h9=>by
 obtain⟨ρ,S,o,as,R,vo,va,h⟩:=h9
 cases vo with
 | @ref p n hp=>
  match as,va,h with
  | [],_,h=>exact h.elim
  | _::_::_,_,h=>exact h.elim
  | [y],va,h=>
   cases y with
   | bl b=>
    obtain⟨w,rfl,hw⟩:=CA va;kt_k;obtain⟨bs,hbs,h⟩:=jK h;obtain⟨ws,h1,r⟩:=R.lst hp (jT hn)
    cases rx
    obtain⟨u,rfl,ru⟩:=rv.one;obtain⟨its,rv,pl,hsz⟩:=I.list (nB.of h1);obtain⟨⟨cls,dd,data,sl⟩,ho,hc,nn,hd⟩:=id pl.isList;simp only at hc hd;subst hc hd;obtain⟨ex,ei⟩:=Bv hbs r rv;subst ei;refine fM F.slot_list_count ⟨_,ho,rfl⟩ F.entry_list_count (F.args_list_count_2 _ _) (SeqAt.list_countAt p (bs.map Value.bool).toArray nn dd sl u (Tn b)) ⟨ho,λz hz=>?_,.int (bs.countP (· == b):Nat),H,I.tok _,⟨s.toks,by rw[List.toList_toArray,HL]⟩,h _ _ _ .refl R (.int _)⟩
    ·obtain⟨c,_,rfl⟩:=bH.mp (List.mem_toArray.mp hz);exact(AR I R 12 X.A.in1 (.bl c) (.bl b) (.bl c) w (.bool c) u (c == b) (by rw[in1_units];lia) (.bl c) hw rfl ru rfl).2.1
   | _=>exact h.elim
 | _=>exact h.elim
end
abbrev j8 (S:jJ)(n:Nat):Option (List (ae×A)):=match S[n]? with
 | some (.dct xs)=>some xs
 | _=>none
def nh{n:Nat}(h:j8 S n=some xs):S[n]?=some (.dct xs):=by
 unfold j8 at h;split at h
 ·rename_i e;cases h;exact e
 ·cases h
def uf{S:jJ}{n:Nat}(h:S[n]?=some (.dct xs)):j8 S n=some xs:=by
 unfold j8;rw[h]
abbrev nA (kvs:List (ae×A))(k:ae):Option A:=(kvs.find? λkv=>decide (kv.1=k)).map (·.2)
abbrev putD (kvs:List (ae×A))(k:ae)(v:A):List (ae×A):=
 if (nA kvs k).isSome=true then kvs.map (λkv=>if kv.1=k then(kv.1,v)else kv)else kvs++[(k,v)]
theorem Aw:∀{a b:ae},a.map (Sum.inl:Int->Key)=b.map Sum.inl->a=b
 | [],[],_=>rfl
 | [],_::_,e=>by simp at e
 | _::_,[],e=>by simp at e
 | x::xs,y::ys,e=>by
  rw[b9,b9]at e
  injection e with e1 e2
  injection e1 with e1
  rw[e1,Aw e2]
def wF(ns:ae):(ns.map (Sum.inl:Int->Key)).map kV=ns.map V.int:=by rw[bK];rfl
section
variable {K:au}{ρ:ar}{H:Hp}
def rZ{p:ae×A}{r:List (ae×A)}{k:ae}(e:p.1=k):nA (p::r) k=some p.2:=by simp[nA,dW,e]
def sF{p:ae×A}{r:List (ae×A)}{k:ae}(e:¬p.1=k):nA (p::r) k=nA r k:=by simp[nA,dW,e]
theorem DV.look:∀{kvs:List (ae×A)}{ks:List (List Key×V)}(k:ae),DV K ρ H kvs ks->(nA kvs k).isSome=(uN ks (k.map Sum.inl)).isSome/\∀x,nA kvs k=some x->∃v,uN ks (k.map Sum.inl)=some v/\AV K ρ H x v
 | [],[],k,_=>⟨rfl,λx h=>nomatch h⟩
 | p::r,q::r',k,⟨⟨e,a⟩,t⟩=>by
  by_cases c:p.1=k
  ·have c':q.1=k.map Sum.inl:=by rw[e,c]
   rw[rZ c,uC c'];exact⟨rfl,λx h=>by cases h;exact⟨_,rfl,a⟩⟩
  ·have c':¬q.1=k.map Sum.inl:=λz=>c (Aw (e.symm.trans z));rw[sF c,uz c'];exact DV.look k t
theorem DV.repl{x:A}{v:V}(h:AV K ρ H x v)(k:ae):∀{kvs:List (ae×A)}{ks:List (List Key×V)},DV K ρ H kvs ks->DV K ρ H (kvs.map λkv=>if kv.1=k then(kv.1,x)else kv) (ks.map λkv=>if kv.1=k.map Sum.inl then(kv.1,v)else kv)
 | [],[],_=>trivial
 | p::r,q::r',⟨⟨e,a⟩,t⟩=>by
  refine⟨?_,DV.repl h k t⟩;dsimp only;by_cases c:p.1=k
  ·rw[aN c,aN (by rw[e,c])];exact⟨e,h⟩
  ·rw[aM c,aM (λz=>c (Aw (e.symm.trans z)))];exact⟨e,a⟩
theorem DV.snoc{x:A}{v:V}(h:AV K ρ H x v)(k:ae):∀{kvs:List (ae×A)}{ks:List (List Key×V)},DV K ρ H kvs ks->DV K ρ H (kvs++[(k,x)]) (ks++[(k.map Sum.inl,v)])
 | [],[],_=>⟨⟨rfl,h⟩,trivial⟩
 | p::r,q::r',⟨a,t⟩=>⟨a,DV.snoc h k t⟩
def DV.put{x:A}{v:V}(h:AV K ρ H x v)(k:ae)(d:DV K ρ H kvs ks):DV K ρ H (putD kvs k x) (putK ks (k.map Sum.inl) v):=by
 unfold putD putK;rw[xj,<- (d.look k).1];by_cases c:(nA kvs k).isSome=true
 ·rw[aN c,aN c];exact DV.repl h k d
 ·rw[aM c,aM c];exact DV.snoc h k d
def DV.length:∀{kvs:List (ae×A)}{ks:List (List Key×V)},DV K ρ H kvs ks->kvs.length=ks.length
 | [],[],_=>rfl
 | _::_,_::_,⟨_,t⟩=>dJ (·+1) t.length
def Rel.dct{n:Nat}{a:ak}(R:Rel K ρ H S)(ha:ρ[n]?=some a)(hS:S[n]?=some (.dct xs)):∃vs,H a=some (.dT vs)/\DV K ρ H xs vs:=R.at n a _ ha hS
def Rel.putD{S:jJ}{n:Nat}{a:ak}(R:Rel K ρ H S)(ha:ρ[n]?=some a)(hS:S[n]?=some (.dct xs))(r:DV K ρ H ys ws):Ext ρ ρ H (upd H a (.dT ws))/\Rel K ρ (upd H a (.dT ws)) (S.set n (.dct ys)):=by
 obtain⟨vs,e,_⟩:=R.at n a _ ha hS;have ex:Ext ρ ρ H (upd H a (.dT ws)):=⟨⟨d_ _,λb u i h=>by
  have:b≠a:=by
   intro z;subst z;rw[e]at h;cases h;exact i
  rw[jR this];exact h⟩,λb u h n=>by
  rw[jR (λz=>n (by rw[z];exact aZ ha))];exact h,λ_ h=>.inl h⟩
 refine⟨ex,by rw[bR];exact R.len,R.nd,λm b o h1 h2=>?_⟩;by_cases hm:m=n
 ·subst hm;rw[ha]at h1;cases h1;rw[cB (aK.mp hS).1]at h2
  cases h2
  exact⟨ws,kq,r.ext ex⟩
 ·rw[b8 (gp hm)]at h2;have nb:b≠a:=λz=>by
   subst z;obtain⟨l1,e1⟩:=aK.mp ha;obtain⟨l2,e2⟩:=aK.mp h1;exact hm ((d8 R.nd).mp (e2.trans e1.symm))
  have:=R.at m b o h1 h2
  cases o with
  | lst ys=>obtain⟨ws',e',q⟩:=this;exact⟨ws',by rw[jR nb];exact e',q.ext ex⟩
  | dct _|dki _=>obtain⟨ws',e',q⟩:=this;exact⟨ws',by rw[jR nb];exact e',q.ext ex⟩
  | ins _ _=>obtain⟨oo,uu,e'⟩:=this;exact⟨oo,uu,by rw[jR nb];exact e'⟩
end
section
variable {X:Cx}{pos:Pos}{a b:aE}
def zZ{H:Hp}{p q:ak}{n:Nat}{ns:ae}(R:Rel X.K ρ H S)(hp:ρ[n]?=some p)(hn:j8 S n=some kvs)(hq:H q=some (.tup vs))(r:AVs X.K ρ H xs vs)(hi:A.ints xs=some ns) :
  ∃ks,H p=some (.dT ks)/\DV X.K ρ H kvs ks/\H q=some (.tup ((ns.map (Sum.inl:Int->Key)).map kV))/\zQ H p (.ref q) (uN ks (ns.map Sum.inl)):=by
 obtain⟨ks,e,d⟩:=R.dct hp (nh hn);have z:=qf r hi;subst z;rw[<- wF]at hq;exact⟨ks,e,d,hq,zQ.t e hq⟩
abbrev Gk (x y:A)(S:jJ):R A:=match x,y with
 | .ref n,.tup xs=>opt (j8 S n) λkvs=>opt (A.ints xs) λns=>opt (nA kvs ns) λv=>.ok v S
 | _,_=>.no
def Ud(hu:X.A.units+64<cLine):PN X (r2 X Gk):=λvalue slice pins s σ H x y v u Q I rx ry ⟨ρ,S,a,b,R,va,vb,h⟩ hs=>by
 cases va with
 | @ref p n hp=>
  cases vb with
  | @tup q xs vs hq r=>
   obtain⟨kvs,hn,h⟩:=jK h;obtain⟨ns,hi,h⟩:=jK h;obtain⟨z,hz,h⟩:=jK h;obtain⟨ks,e,d,hq',g⟩:=zZ R hp hn hq r hi;obtain⟨w,hw,aw⟩:=(d.look ns).2 z hz;rw[hw]at g;exact MH () value slice pins s σ H _ _ v u Q I rx ry ⟨p,w,rfl,g,h _ _ _ .refl R aw⟩ hs
  | _=>exact h.elim
 | _=>exact h.elim
def JJ(hu:X.A.units+64<cLine){ca cb:Ex}(ha:AE X a ca)(hb:AE X b cb)(hs:Av b:=by exact λ_ _=>rfl):AE X (.Subscript a b pos) (jN Gk ca cb):=PE.imp (O0 (Ud hu) ha hb hs) λσ H Q h=>uh h
abbrev Qm (neg:Bool)(x y:A)(S:jJ):R A:=match x,y with
 | .tup xs,.ref n=>opt (j8 S n) λkvs=>opt (A.ints xs) λns=>.ok (.bl (if neg then !(nA kvs ns).isSome else(nA kvs ns).isSome)) S
 | _,_=>.no
def Ie(hu:X.A.units+64<cLine):n8 X (compareOp .NotIn) (r2 X (Qm true)):=λpins s σ H x y v u Q I rx ry h9=>by
 z_go
 cases va with
 | @tup q xs vs hq r=>
  cases vb with
  | @ref p n hp=>
   obtain⟨kvs,hn,h⟩:=jK h;obtain⟨ns,hi,h⟩:=jK h;obtain⟨ks,e,d,hq',g⟩:=zZ R hp hn hq r hi;exact GB (by omega) pins s σ H _ _ v u Q I rx ry ⟨p,_,rfl,g,by rw[<- (d.look ns).1];exact h _ _ _ .refl R (.bl _)⟩
  | _=>exact h.elim
 | _=>exact h.elim
abbrev Bh (o i v:A)(S:jJ):R Unit:=match o,i with
 | .ref n,.tup xs=>opt (j8 S n) λkvs=>opt (A.ints xs) λns=>gd (kvs.length<sizeLine) (.ok Unit.unit (S.set n (.dct (putD kvs ns v))))
 | _,_=>.no
abbrev VU (X:Cx):CL:=λo i v H Q=>∃ρ S ao ai av,Rel X.K ρ H S/\AV X.K ρ H ao o/\AV X.K ρ H ai i/\AV X.K ρ H av v/\(Bh ao ai av S).post (λ_ S'=>∀ρ' H',Ext ρ ρ' H H'->Rel X.K ρ' H' S'->Q H') (XE X ρ H)
def Nt(hu:X.A.units+64<cLine):GL X (VU X):=λpins s σ H o i v ov iv u Q I ro ri rv h9=>by
 obtain⟨ρ,S,ao,ai,av,R,h1,h2,h3,h⟩:=h9
 cases h1 with
 | @ref p n hp=>
  cases h2 with
  | @tup q xs vs hq r=>
   obtain⟨kvs,hn,h⟩:=jK h;obtain⟨ns,hi,h⟩:=jK h;obtain⟨hl,h⟩:=j4 h;obtain⟨ks,e,d,hq',g⟩:=zZ R hp hn hq r hi;obtain⟨ex,R'⟩:=R.putD hp (nh hn) (d.put h3 ns);exact set_dict () pins s σ H _ _ v ov iv u Q I ro ri rv ⟨p,_,rfl,K1.t e hq' (by rw[<- d.length];exact hl),h _ _ ex R'⟩
  | _=>exact h.elim
 | _=>exact h.elim
abbrev Gi (co ci:Ex):Tg:=λa τ S=>(co τ S).bind λo S1=>(ci τ S1).bind λi S2=>(Bh o i a S2).bind λ_ S3=>.ok τ S3
def DQ(hu:X.A.units+64<cLine){co ci:Ex}(ho:AE X o co)(hi:AE X i ci)
  (ha:∀v,assign (.Subscript o i pos) X.env v=(do
   let ov <- holding [v] (eval o X.env)
   let iv <- holding [v,ov] (eval i X.env)
   standAt pos
   holding [v,ov,iv] (setItem ov iv v)
   release [v,ov,iv] []):=by intro _;rfl):AG X (.Subscript o i pos) (Gi co ci):=PG.imp (LY ho hi (Nt hu) ha) λv σ H Q h9=>by
 obtain⟨ρ,S,τ,a,R,r,va,h⟩:=h9;refine⟨ρ,S,τ,R,r,jH (jM h) .refl λo S1 h1 ρ1 H1 x e1 R1 v1=>⟨ρ1,S1,τ,R1,r.ext e1,jH (jM h1) e1 λi S2 h2 ρ2 H2 y e2 R2 v2=>?_⟩⟩;refine⟨ρ2,S2,o,i,a,R2,v1.ext e2,v2,va.ext (e1.trans e2),jH (jM h2) (e1.trans e2) λ_ S3 h3 ρ3 H3 e3 R3=>?_⟩;exact h3 ρ3 H3 σ ((e1.trans e2).trans e3) R3 (r.ext ((e1.trans e2).trans e3))
abbrev yg (ck cv:Ex):Ex:=λτ S=>(ck τ S).bind λk S1=>(cv τ S1).bind λv S2=>match k with
 | .tup xs=>opt (A.ints xs) λns=>.ok (.ref S2.length) (S2++[.dct [(ns,v)]])
 | _=>.no
def Rel.Uc{K:au}{H:Hp}{S:jJ}{D:ak}(R:Rel K ρ H S)(hD:H D=some (.dT us))(hn:D∉ρ)(r:DV K ρ H xs vs):Ext0 ρ (ρ++[D]) H (upd H D (.dT vs))/\Rel K (ρ++[D]) (upd H D (.dT vs)) (S++[.dct xs])/\(ρ++[D])[S.length]?=some D:=by
 have ex:Ext0 ρ (ρ++[D]) H (upd H D (.dT vs)):=⟨gq _ _,λb u i h=>by
  have:b≠D:=by
   intro z;subst z;rw[hD]at h;cases h;exact i
  rw[jR this];exact h⟩
 have last:(ρ++[D])[S.length]?=some D:=by rw[<- R.len];simp
 refine⟨ex,⟨by simp[R.len],?_,λn a o h1 h2=>?_⟩,last⟩
 ·rw[cP];refine⟨R.nd,by simp,λa ha b hb e=>?_⟩;have:b=D:=by simpa using hb
  exact hn (by rw[<- this,<- e];exact ha)
 ·by_cases hs:n<S.length
  ·rw[bF (by rw[R.len];exact hs)]at h1;rw[bF hs]at h2;have na:a≠D:=λz=>hn (by rw[<- z];exact aZ h1);have:=R.at n a o h1 h2
   cases o with
   | lst ys=>obtain⟨ws,e,q⟩:=this;exact⟨ws,by rw[jR na];exact e,AVs.lU ex q⟩
   | dct _|dki _=>obtain⟨ws,e,q⟩:=this;exact⟨ws,by rw[jR na];exact e,q.lU ex⟩
   | ins _ _=>obtain⟨oo,uu,e⟩:=this;exact⟨oo,uu,by rw[jR na];exact e⟩
  ·have e:n=S.length:=by
    have:=(aK.mp h2).1;simp at this
    lia
   subst e;rw[last]at h1
   cases h1
   simp at h2;subst h2;exact⟨vs,kq,r.lU ex⟩
def Fb(hu:X.A.units+64<cLine){k v:aE}{ck cv:Ex}(hk:AE X k ck)(hv:AE X v cv):AE X (.Dict [some k] [v] pos) (yg ck cv):=PE.imp (JO () hk hv) λσ H Q ⟨ρ,S,τ,R,r,h⟩ p hp=>by
 obtain⟨e0,R0⟩:=R.im (u:=.dT []) hp;have np:p∉ρ:=R.Lp hp;refine⟨ρ,S,τ,R0,r.ext e0,jH (jM h) e0 λa S1 h1 ρ1 H1 x e1 R1 v1=>⟨ρ1,S1,τ,R1,(r.ext e0).ext e1,jH (jM h1) (e0.trans e1) λb S2 h2 ρ2 H2 y e2 R2 v2=>?_⟩⟩;have e12:=e1.trans e2;have hp2:H2 p=some (.dT []):=e12.fr p _ kq np;have np2:p∉ρ2:=λhm=>(e12.nw p hm).elim np λz=>by rw[kq]at z;cases z
 cases v1.ext e2 with
 | @tup q xs vs hq rr=>
  obtain⟨ns,hi,h2⟩:=jK h2;have z:=qf rr hi;subst z;refine⟨hp2,q,ns.map Sum.inl,rfl,by rw[wF];exact hq,?_⟩;obtain⟨e3,R3,hl⟩:=R2.Uc (xs:=[(ns,b)]) (vs:=[(ns.map Sum.inl,y)]) hp2 np2 ⟨⟨rfl,v2⟩,trivial⟩;refine h2 _ _ _ ⟨⟨(e0.trans e12).pre.trans e3.pre,λc u i hc=>e3.im c u i ((e0.trans e12).im c u i hc)⟩,λc u hc nc=>?_,λc hc=>?_⟩ R3 (.ref hl)
  ·rw[jR (j3 hc hp)];exact(e0.trans e12).fr c u hc nc
  ·rcases bq.mp hc with z|z
   ·exact(e0.trans e12).nw c z
   ·have:c=p:=by simpa using z
    rw[this];exact .inr hp
 | _=>exact h2.elim
end
section
variable {X:Cx}{a b:aE}
abbrev Gp (p:ae×A):A:=.tup [.tup (p.1.map .int),p.2]
abbrev V0 (a:A)(S:jJ):R Src:=match a with
 | .ref n=>opt (j8 S n) λkvs=>.ok (nH (kvs.map Gp)) (S.set n (.ins "" []))
 | _=>.no
abbrev GV (c:Ex):Ic:=λτ S=>(c τ S).bind λa S1=>V0 a S1
theorem KN{K:au}{H:Hp}:∀{kvs:List (ae×A)}{ks:List (List Key×V)}{i:Nat}{p:ae×A},DV K ρ H kvs ks->kvs[i]?=some p->∃q,ks[i]?=some q/\q.1=p.1.map Sum.inl/\AV K ρ H p.2 q.2
 | [],[],_,_,_,h=>by simp at h
 | a::kvs,b::ks,0,p,⟨z,_⟩,h=>by
  have:a=p:=by simpa using h
  subst this;exact⟨b,rfl,z⟩
 | a::kvs,b::ks,i+1,p,⟨_,t⟩,h=>KN (kvs:=kvs) (ks:=ks) (i:=i) t (by simpa using h)
def Rel.gone{K:au}{H:Hp}{S:jJ}{n:Nat}{a:ak}(R:Rel K ρ H S)(ha:ρ[n]?=some a)(hS:S[n]?=some (.dct xs)):Ext ρ ρ H (upd H a (.frz o u))/\Rel K ρ (upd H a (.frz o u)) (S.set n (.ins "" [])):=by
 obtain⟨vs,e,_⟩:=R.at n a _ ha hS;have ex:Ext ρ ρ H (upd H a (.frz o u)):=⟨⟨d_ _,λb u' i h=>by
  have:b≠a:=by
   intro z;subst z;rw[e]at h;cases h;exact i
  rw[jR this];exact h⟩,λb u' h nb=>by
  rw[jR (λz=>nb (by rw[z];exact aZ ha))];exact h,λ_ h=>.inl h⟩
 refine⟨ex,by rw[bR];exact R.len,R.nd,λm b ob h1 h2=>?_⟩;by_cases hm:m=n
 ·subst hm;rw[ha]at h1;cases h1;rw[cB (aK.mp hS).1]at h2
  cases h2
  exact⟨o,u,kq⟩
 ·rw[b8 (gp hm)]at h2;have nb:b≠a:=λz=>by
   subst z;obtain⟨l1,e1⟩:=aK.mp ha;obtain⟨l2,e2⟩:=aK.mp h1;exact hm ((d8 R.nd).mp (e2.trans e1.symm))
  have:=R.at m b ob h1 h2
  cases ob with
  | lst ys=>obtain⟨ws',e',q⟩:=this;exact⟨ws',by rw[jR nb];exact e',q.ext ex⟩
  | dct _|dki _=>obtain⟨ws',e',q⟩:=this;exact⟨ws',by rw[jR nb];exact e',q.ext ex⟩
  | ins _ _=>obtain⟨oo,uu,e'⟩:=this;exact⟨oo,uu,by rw[jR nb];exact e'⟩
def Iq{apos cpos:Pos}{e:aE}{c:Ex}(ha:AE X e c)(hbase:attributeBase e "items" X.env (eval e X.env)=eval e X.env:=by rfl)(hline:(apos.endLine == cpos.line)=true:=by rfl) :
  AI X (.Tuple elts x1 tpos) (.Call (.Attribute e "items" apos) [] [] cpos) (GV c):=λpins s σ H Q I h9=>by
 room;refine Ly ha hbase hline pins s σ H Q I ⟨ρ,S,τ,R,r,jH (jM h) .refl λx S1 h1 ρ1 H1 v e1 R1 v1=>?_⟩
 cases v1 with
 | @ref p n hp=>
  obtain⟨kvs,hn,h1⟩:=jK h1;obtain⟨ks,g1,dv⟩:=R1.dct hp (nh hn);refine⟨p,ks,rfl,g1,λo ps pl pat=>?_⟩;obtain⟨ex,R2⟩:=R1.gone (o:=o) (u:=.dT ks) hp (nh hn);have dl:=dv.length;refine h1 ρ1 _ _ (e1.trans ex) R2 ⟨λi S2 H2 ρ2 y e2 R3 g=>?_,λS2 H2 ρ2 e2 R3 _=>⟨?_,e2.im _ _ trivial kq⟩⟩
  ·have g:(kvs.map Gp)[i]?=some y:=g;rw[aQ]at g;obtain⟨kv,hk,rfl⟩:=bw.mp g;obtain⟨q,hq,q1,q2⟩:=KN dv hk;have hi:i<ps.length:=by rw[pl];exact(aK.mp hq).1
   obtain⟨k',e3,e4⟩:=pat i ps[i].1 ps[i].2 (aH hi);rw[hq]at e3
   cases e3
   refine⟨⟨ps[i].1,ps[i].2,aH hi,e2.im _ _ trivial kq⟩,λw' H' qq=>?_⟩;obtain⟨T,hT,rfl,hz⟩:=qq;have hz':=hz _ _ (aH hi);subst hz';obtain⟨ex3,R4⟩:=R3.im (u:=.tup [.ref ps[i].1,ps[i].2]) hT;have ka:H2 ps[i].1=some (.tup (k'.map kV)):=e2.im _ _ trivial (ex.toExt0.im _ _ trivial e4);have kk:k'.map kV=kv.1.map V.int:=by rw[show k'=kv.1.map Sum.inl from q1,wF]
   rw[kk]at ka;exact⟨ex3,R4,.tup kq (.cons ((AV.tup ka (nS _)).ext ex3) (.cons (((q2.lU ex.toExt0).lU e2).ext ex3) .nil))⟩
  ·show(kvs.map Gp).length=ps.length;rw[aL,dl,pl]
 | _=>exact h1.elim
end
abbrev pO (s:Src)(g:Tg)(t:Te)(e:Ex):Nat->Nat->ad->jJ->R (ad×ad)
 | 0,_=>λτ S=>if s.fin S then .ok ([],τ) S else .no
 | k+1,i=>λτ S=>opt (s.get i S) λx=>(g x τ S).lJ λτ1 S1=>(t τ1 S1).lJ λb S2=>match b with
  | true=>(e τ1 S2).lJ λy S3=>(pO s g t e k (i+1) τ1 S3).lJ λp S4=>.ok (y::p.1,p.2) S4
  | false=>pO s g t e k (i+1) τ1 S2
abbrev ow (s:Src)(g:Tg)(t:Te)(src2:Ic)(g2:Tg)(t2:Te)(e:Ex):Nat->Nat->ad->jJ->R (ad)
 | 0,_=>λ_ S=>if s.fin S then .ok [] S else .no
 | k+1,i=>λτ S=>opt (s.get i S) λx=>(g x τ S).lJ λτ1 S1=>(t τ1 S1).lJ λb S2=>match b with
  | true=>(src2 τ1 S2).lJ λs2 S3=>(pO s2 g2 t2 e s2.k 0 τ1 S3).lJ λp S4=>(ow s g t src2 g2 t2 e k (i+1) p.2 S4).lJ λys S5=>.ok (p.1++ys) S5
  | false=>ow s g t src2 g2 t2 e k (i+1) τ1 S2
abbrev CH (cap:List (bi))(src:Ic)(g:Tg)(t:Te)(src2:Ic)(g2:Tg)(t2:Te)(e:Ex):Ex:=λτ S=>(src τ S).bind λs S1=>(ow s g t src2 g2 t2 e s.k 0 (nM cap τ) S1).lJ λys S2=>newL ys S2
def Bo{s:Src}{g:Tg}{t:Te}{e:Ex}{k:Nat}{T:Prop}(h:pO s g t e (k+1) i τ S=.ok (zs,τ') S')
  (q:∀x τ1 S1 b S2,s.get i S=some x->g x τ S=.ok τ1 S1->t τ1 S1=.ok b S2->(b=true->∃y S3 ws,e τ1 S2=.ok y S3/\pO s g t e k (i+1) τ1 S3=.ok (ws,τ') S'/\zs=y::ws)->(b=false->pO s g t e k (i+1) τ1 S2=.ok (zs,τ') S')->T):T:=by
 obtain⟨x,hx,h⟩:=C9 h;obtain⟨τ1,S1,h1,h⟩:=k6 h;obtain⟨b,S2,h2,h⟩:=k6 h;refine q x τ1 S1 b S2 hx h1 h2 (λhb=>?_) λhb=>?_
 ·subst hb;obtain⟨y,S3,h3,h⟩:=k6 h;obtain⟨⟨ws,τ2⟩,S4,h4,h⟩:=k6 h
  cases h
  exact⟨y,S3,ws,h3,h4,rfl⟩
 ·subst hb;exact h
def z7{s:Src}{g:Tg}{t:Te}{src2:Ic}{g2:Tg}{t2:Te}{e:Ex}{k:Nat}{T:Prop}(h:ow s g t src2 g2 t2 e (k+1) i τ S=.ok zs S')
  (q:∀x τ1 S1 b S2,s.get i S=some x->g x τ S=.ok τ1 S1->t τ1 S1=.ok b S2->(b=true->∃s2 S3 ps τ2 S4 ws,src2 τ1 S2=.ok s2 S3/\pO s2 g2 t2 e s2.k 0 τ1 S3=.ok (ps,τ2) S4/\ow s g t src2 g2 t2 e k (i+1) τ2 S4=.ok ws S'/\zs=ps++ws)->(b=false->ow s g t src2 g2 t2 e k (i+1) τ1 S2=.ok zs S')->T):T:=by
 obtain⟨x,hx,h⟩:=C9 h;obtain⟨τ1,S1,h1,h⟩:=k6 h;obtain⟨b,S2,h2,h⟩:=k6 h;refine q x τ1 S1 b S2 hx h1 h2 (λhb=>?_) λhb=>?_
 ·subst hb;obtain⟨s2,S3,h3,h⟩:=k6 h;obtain⟨⟨ps,τ2⟩,S4,h4,h⟩:=k6 h;obtain⟨ws,S5,h5,h⟩:=k6 h
  cases h
  exact⟨s2,S3,ps,τ2,S4,ws,h3,h4,h5,rfl⟩
 ·subst hb;exact h
abbrev WJ (K:au)(c:Ic):TI:=λσ H Q=>∃ρ S τ s S',Rel K ρ H S/\SR K ρ H τ σ/\c τ S=.ok s S'/\∀ρ' H' J,Ext ρ ρ' H H'->Rel K ρ' H' S'->JR K s J ρ' H'->Q J H'
section
variable {X:Cx}{pos:Pos}{tg iter tg2 iter2 elt e:aE}{ifs ifs2:List aE}{scope:Scope}{N:am}{cap:List (bi)}{src src2:Ic}{g g2:Tg}{t t2:Te}{c:Ex}
def AI.i0{K:au}(hK:X.K=K)(h:AI X tg e src):PI X tg e (WJ K src):=λpins s σ H Q I ⟨ρ,S,τ,a,S',R,r,hc,q⟩=>h pins s σ H Q I ⟨ρ,S,τ,by rw[hK];exact R,by rw[hK];exact r,by rw[hc];exact λρ' H' J e R' v'=>q ρ' H' J e (by rw[<- hK];exact R') (by rw[<- hK];exact v')⟩
def JW(hc:X.calm=true)(Sc:CpScope X scope N cap)(hi:AI X tg iter src)(hg:∀C s₀ H₀ ex,AG (kO X scope N C s₀ H₀ ex) tg g)(ht:∀C s₀ H₀ ex,Sq (kO X scope N C s₀ H₀ ex) ifs t)(hi2:∀C s₀ H₀ ex,AI (kO X scope N C s₀ H₀ ex) tg2 iter2 src2)
  (hg2:∀C s₀ H₀ ex,AG (kO X scope N C s₀ H₀ ex) tg2 g2) (ht2:∀C s₀ H₀ ex,Sq (kO X scope N C s₀ H₀ ex) ifs2 t2) (he:∀C s₀ H₀ ex,AE (kO X scope N C s₀ H₀ ex) elt c)
  (hs:∀x,foldedSetIterable iter X.env x=pure x:=by intro _;rfl) (hs2:∀env x,foldedSetIterable iter2 env x=pure x:=by intro _ _;rfl):AE X (.ListComp elt [⟨tg,iter,ifs,0⟩,⟨tg2,iter2,ifs2,0⟩] scope pos) (CH cap src g t src2 g2 t2 c):=by
 refine PE.imp (QA hc Sc hi (g:=Ss X.K g) (tc:=Pz X.K t) (wi2:=WJ X.K src2) (g2:=Ss X.K g2) (tc2:=Pz X.K t2) (te:=TJ X.K c) (λC s₀ H₀ ex=>(hg C s₀ H₀ ex).g0 rfl) (λC s₀ H₀ ex=>ht C s₀ H₀ ex) (λC s₀ H₀ ex=>(hi2 C s₀ H₀ ex).i0 rfl) (λC s₀ H₀ ex=>(hg2 C s₀ H₀ ex).g0 rfl) (λC s₀ H₀ ex=>ht2 C s₀ H₀ ex) (λC s₀ H₀ ex=>(he C s₀ H₀ ex).e0 rfl) hs hs2) λσ H Q h9=>?_;room;refine⟨ρ,S,τ,R,r,jH (jM h) .refl λs S1 h1 ρ1 H1 J e1 R1 jr D hD=>?_⟩;obtain⟨ys,S2,hcg,h1⟩:=yk h1;obtain⟨hlen,h1⟩:=j4 h1;have h1:wk X ρ H Q (.ref S2.length) (S2++[.lst ys]):=h1;obtain⟨eD,RD⟩:=R1.im (u:=.lst []) hD;refine⟨Cq X.K ρ1 H1 D ys s.k (λ_ _=>True) λm i τ S zs=>ow s g t src2 g2 t2 c m i τ S=.ok zs S2,⟨s.k,.of rfl ⟨eD.toExt0,λa u na hu _=>by rw[jR na];exact hu,λa ha=>.inl ha,R1.Lp hD,kq⟩ trivial RD (OV ((r.ext e1).ext eD) cap) .nil hcg rfl⟩,?_⟩;intro i m σ3 H3 hw;refine hw.el λρ3 S3 τ3 acc zs accV hm o3 _ R3 r3 ac3 cg3 eys=>?_;clear hw
 cases m with
 | zero=>
  left;have cg3:(if s.fin S3 then Am.R.ok [] S3 else .no)=.ok zs S2:=cg3
  cases hf:s.fin S3 with
  | false=>rw[hf]at cg3;cases cg3
  | true=>
   rw[hf]at cg3
   cases cg3
   rw[cW]at eys;subst eys;refine⟨by rw[show i=s.k by lia];exact jr.stop _ H3 ρ3 o3.e0 R3 hf,?_⟩;obtain⟨RT,gt⟩:=R3.take o3.hD o3.nD ac3;exact h1 (ρ3++[D]) H3 _ (e1.trans (o3.end hD)) RT (.ref gt)
 | succ m=>
  right;refine z7 cg3 λx τ4 S4 b S5 hx hg4 ht5 hT hF=>?_;have jg:=jr.go i S3 H3 ρ3 x o3.e0 R3 hx;refine⟨jg.1,λv H4 y=>?_⟩;obtain⟨e4,R4,v4⟩:=jg.2 v H4 y;refine⟨ρ3,S3,τ3,x,τ4,S4,R4,r3.ext e4,v4,hg4,λρ5 H5 σ5 e5 R5 r5=>⟨ρ5,S4,τ4,b,S5,R5,r5,ht5,λρ6 H6 e6 R6=>?_⟩⟩;have e36:=(e4.trans e5).trans e6
  cases b with
  | false=>
   dsimp only;rw[aM aY];exact⟨m,c6 _,.of () (o3.stay hD e36) trivial R6 (r5.ext e6) (ac3.ext e36) (hF rfl) eys⟩
  | true=>
   dsimp only;rw[aN rfl];obtain⟨s2,S6,ps,τ7,S7,ws,hs6,ci7,co7,ezs⟩:=hT rfl;refine⟨ρ6,S5,τ4,s2,S6,R6,r5.ext e6,hs6,λρ8 H8 J2 e8 R8 jr2=>?_⟩;have e38:=e36.trans e8;refine⟨Cq X.K ρ1 H1 D (acc++ps) s2.k (λρ' H'=>Ext0 ρ8 ρ' H8 H') λm i τ S qs=>pO s2 g2 t2 c m i τ S=.ok (qs,τ7) S7,⟨s2.k,.of rfl (o3.stay hD e38) ⟨d_ _,λ_ _ _ h=>h⟩ R8 (r5.ext (e6.trans e8)) (ac3.ext e38) ci7 rfl⟩,?_⟩;intro i2 m2 σ9 H9 hw;refine hw.el λρ9 S9 τ9 acc9 qs accV9 hm2 o9 e89 R9 r9 ac9 ci9 eqs=>?_;clear hw
   cases m2 with
   | zero=>
    left;have ci9:(if s2.fin S9 then Am.R.ok ([],τ9) S9 else .no)=.ok (qs,τ7) S7:=ci9
    cases hf:s2.fin S9 with
    | false=>rw[hf]at ci9;cases ci9
    | true=>
     rw[hf]at ci9
     cases ci9
     rw[cW]at eqs;subst eqs;exact⟨by rw[show i2=s2.k by lia];exact jr2.stop _ H9 ρ9 e89 R9 hf,m,c6 _,.of () o9 trivial R9 r9 ac9 co7 (by rw[bJ,<- ezs,eys])⟩
   | succ m2=>
    right;refine Bo ci9 λx9 τ10 S10 b10 S11 hx9 hg10 ht11 hT9 hF9=>?_;have jg2:=jr2.go i2 S9 H9 ρ9 x9 e89 R9 hx9;refine⟨jg2.1,λv10 H10 y10=>?_⟩;obtain⟨e10,R10,v10'⟩:=jg2.2 v10 H10 y10;refine⟨ρ9,S9,τ9,x9,τ10,S10,R10,r9.ext e10,v10',hg10,λρ11 H11 σ11 e11 R11 r11=>⟨ρ11,S10,τ10,b10,S11,R11,r11,ht11,λρ12 H12 e12 R12=>?_⟩⟩;have e912:=(e10.trans e11).trans e12;have o12:=o9.stay hD e912;have e812:Ext0 ρ8 ρ12 H8 H12:=⟨e89.pre.trans e912.pre,λa u i h=>e912.im a u i (e89.im a u i h)⟩
    cases b10 with
    | false=>
     dsimp only;rw[aM aY];exact⟨m2,c6 _,.of () o12 e812 R12 (r11.ext e12) (ac9.ext e912) (hF9 rfl) eqs⟩
    | true=>
     dsimp only;rw[aN rfl];obtain⟨y,S13,us,he13,ci13,eus⟩:=hT9 rfl;refine⟨ρ12,S11,τ10,y,S13,R12,r11.ext e12,he13,λρ14 H14 w e14 R14 v14=>?_⟩;have o14:=o12.stay hD e14;obtain⟨ex15,R15⟩:=R14.out (ws:=accV9++[w]) o14.hD o14.nD;have l1:=ac9.length;refine⟨accV9,o14.hD,?_,m2,c6 _,.of () (o14.put ex15) ⟨e812.pre.trans e14.pre,λa u i h=>ex15.im a u i (e14.im a u i (e812.im a u i h))⟩ R15 ((r11.ext (e12.trans e14)).lU ex15) (AVs.lU ex15 ((ac9.ext (e912.trans e14)).append (.one v14))) ci13 ?_⟩
     ·have:((acc++ps)++ws).length<=sizeLine:=by rw[bJ,<- ezs,eys];exact hlen
      rw[<- eqs,eus,aU,aU,bE]at this
      lia
     ·rw[bJ,<- eqs,eus];rfl
end
abbrev VJ (F:ad->jJ->R A)(d:qt):Ex:=λτ S=>(d τ S).bind λas S1=>F as S1
abbrev Wn:ap:=[.type "ValueError",.type "Exception",.type "BaseException",.type "object"]
abbrev Me:List (Str ⊕ Ex)->ad->jJ->R Unit
 | [],_,S=>.ok Unit.unit S
 | .inl _::ps,τ,S=>Me ps τ S
 | .inr e::ps,τ,S=>(e τ S).bind λv S1=>match v with
  | .int i=>gd (i.natAbs.log2<64) (Me ps τ S1)
  | _=>.no
abbrev Pu (c:Str)(ps:List (Str ⊕ Ex)):Sm:=λτ S=>.of (Me ps τ S) λ_ S1=>.ex c S1
abbrev OC (i:Nat):RS->RS
 | .nx τ S=>.nx (τ.set i .unb) S
 | .bk τ S=>.bk (τ.set i .unb) S
 | .ct τ S=>.ct (τ.set i .unb) S
 | .rt a S=>.rt a S
 | _=>.no
abbrev UG (i n:Nat)(cs:am)(c d:Sm):Sm:=λτ S=>match c τ S with
 | .ex x S1=>if x∈cs then OC i (d ((List.replicate n .unb).set i (.exn x)) S1)else .no
 | r=>r
abbrev V1 (f:Str->bd)(c:Ex):Ex:=λτ S=>(c τ S).bind λv S1=>match v with
 | .exn x=>opt (f x) λb=>.ok (.bl b) S1
 | _=>.no
structure ExcK (K:au)(U:ak)(c:Str)(C:ak):Prop where
 n:VV K c C
 q:PySem.W.excIn K C Wn "ValueError.__new__" = true
 r:L2.mroIn K C=some (.ref U::Wn)
 x:XCls K C
 cl:(PySem.W.clsIn K C).isSome=true
 v:PySem.W.kitOne K (.ref C) (.type "ValueError")=some true
abbrev W4 (tb:List (Str×Bool)):Str->bd:=λx=>tb.lookup x
abbrev TR (F:ad->jJ->R A)(d:qt):Ex:=λτ S=>match d τ S with
 | .ok as S1=>F as S1
 | _=>.no
section
variable {d:qt}
abbrev SQ (t:Te)(c d:Sm):Sm:=λτ S=>match t τ S with
 | .ok true S1=>c τ S1
 | .ok false S1=>d τ S1
 | _=>.no
end
abbrev OM (i:Nat)(cs:am)(c d:Sm):Sm:=λτ S=>match c τ S with
 | .ex x S1=>if x∈cs then OC i (d (τ.set i (.exn x)) S1)else .no
 | r=>r
abbrev UT:Sm:=λ_ _=>.no
def HH{X:Cx}{st:aF}:AS X st UT:=PS.imp HZ λD σ H ⟨ρ,S,τ,R,r,h⟩=>h.elim
def GA{K:au}{H:Hp}{a:ak}{ns:ae}{F:ad->jJ->R A}(hO:Mc H)(hS:nB K H a (ns.map V.int))(h:∃S',F [.frz (ns.map .int)] []=.ok (.bl true) S'):rz K 1 F [.ref a] H (λv _=>v=.bl true) λ_ _ _=>False:=by
 obtain⟨S',h⟩:=h;have fz:Fz K H a (ns.map V.int):=by
  rcases hS with(h|⟨o,h⟩)|h
  ·rcases hO a with z|⟨ob,xs,z⟩
   ·rw[h]at z;cases z
   ·rw[h]at z;cases z
  ·exact .inl ⟨o,h⟩
  ·exact .inr h
 exact⟨rfl,[],[],_,_,S',⟨rfl,List.nodup_nil,λn a o h=>by simp at h⟩,.cons (.frz fz (nS ns)) .nil,h,λρ' H' v _ _ hv=>AY hv⟩
def G7{P:ap->Prop}(h:∀a0,P [a0]):∀us:ap,us.length=1->P us
 | [_],_=>h _
def Ht{P:ap->Prop}(h:∀a0 a1,P [a0,a1]):∀us:ap,us.length=2->P us
 | [_,_],_=>h _ _
def BY{n:Nat}{us:ap}(h:us.length=n+1):∃a t,us=a::t/\t.length=n:=by
 cases us with
 | nil=>simp at h
 | cons a t=>exact⟨a,t,rfl,by simpa using h⟩
def Wg{P:ap->Prop}(h:∀a0 a1 a2,P [a0,a1,a2]):∀us:ap,us.length=3->P us:=λus e=>by
 obtain⟨a0,t0,rfl,e0⟩:=BY e;obtain⟨a1,t1,rfl,e1⟩:=BY e0;obtain⟨a2,t2,rfl,e2⟩:=BY e1
 cases dj.mp e2
 exact h _ _ _
def W3{P:ap->Prop}(h:∀a0 a1 a2 a3 a4,P [a0,a1,a2,a3,a4]):∀us:ap,us.length=5->P us:=λus e=>by
 obtain⟨a0,t0,rfl,e0⟩:=BY e;obtain⟨a1,t1,rfl,e1⟩:=BY e0;obtain⟨a2,t2,rfl,e2⟩:=BY e1;obtain⟨a3,t3,rfl,e3⟩:=BY e2;obtain⟨a4,t4,rfl,e4⟩:=BY e3
 cases dj.mp e4
 exact h _ _ _ _ _
end Am
namespace Am
open PySem L2
section
variable {α β:Type}{a b:A}{S S1:jJ}{τ:ad}{x:α}
@[simp]def R.lI {f:α->jJ->R β}:(R.ok x S).bind f=f x S:=rfl
@[simp]def R.Dy {f:α->jJ->R β}{c:Str}:(R.ex c S:R α).bind f=.ex c S:=rfl
@[simp]def R.k_ {f:α->jJ->R β}:(R.ok x S).lJ f=f x S:=rfl
@[simp]def RS.of_ok {f:α->jJ->RS}:RS.of (R.ok x S) f=f x S:=rfl
@[simp]def RS.N6 {f:α->jJ->RS}{c:Str}:RS.of (R.ex c S:R α) f=.ex c S:=rfl
@[simp]def jX {f:β->R α}{y:β}:opt (some y) f=f y:=rfl
@[simp]def Eh {r:R α}:gd True r=r:=aN trivial
theorem lq{c:Prop}[Decidable c]{r:R α}(h:c):gd c r=r:=aN h
@[simp]def D9 {i:Nat}:jD i τ S=bif (τ.getD i .unb).nU then .no else .ok (τ.getD i .unb) S:=by unfold jD;cases(τ.getD i .unb).nU<;>rfl
@[simp]def F_ {xs:ad}:A.nU (.tup xs)=false:=rfl
@[simp]def F4 {xs:ad}:A.nU (.frz xs)=false:=rfl
@[simp]def FF {i:Int}:A.nU (.int i)=false:=rfl
@[simp]def KJ {i:Bool}:A.nU (.bl i)=false:=rfl
@[simp]def D6 {i:Str}:A.nU (.str i)=false:=rfl
@[simp]def Et {i:Nat}:A.nU (.ref i)=false:=rfl
@[simp]def Fc:A.nU .non=false:=rfl
@[simp]def DG {i j:Int}:A.nU (.rng i j)=false:=rfl
@[simp]def DJ {c:Str}:A.nU (.exn c)=false:=rfl
@[simp]def N2:eC a τ S=.ok a S:=rfl
abbrev SW (f:A->A->jJ->R A)(cb:Ex)(τ:ad)(a:A)(S:jJ):R A:=(cb τ S).bind (f a)
@[simp]def DC {f:A->A->jJ->R A}{cb:Ex}:SW f cb τ a S=(cb τ S).bind (f a):=rfl
@[simp]def D3 {f:A->A->jJ->R A}{ca cb:Ex}:jN f ca cb τ S=(ca τ S).bind (SW f cb τ):=rfl
@[simp]def K3 {f:A->jJ->R A}{ca:Ex}:N7 f ca τ S=(ca τ S).bind f:=rfl
@[simp]def D7 {c:Ex}:rF c τ S=(c τ S).bind λa S1=>opt (a.QW S1) λb=>.ok b S1:=rfl
abbrev aB (a:A)(S:jJ):R Bool:=match a with
 | .bl b=>.ok b S
 | _=>.no
@[simp]def Ou {b:Bool}:aB (.bl b) S=.ok b S:=rfl
@[simp]def Jl {c:Ex}:tY c τ S=(c τ S).bind aB:=rfl
@[simp]def FT {c:Te}:CS c τ S=(c τ S).bind λb S1=>.ok (!b) S1:=rfl
abbrev RJ (d:Te)(τ:ad)(b:Bool)(S:jJ):R Bool:=match b with|true=>d τ S|false=>.ok false S
abbrev V6 (d:Te)(τ:ad)(b:Bool)(S:jJ):R Bool:=match b with|true=>.ok true S|false=>d τ S
@[simp]def LD {d:Te}:RJ d τ true S=d τ S:=rfl
@[simp]def Iw {d:Te}:RJ d τ false S=.ok false S:=rfl
@[simp]def N8 {d:Te}:V6 d τ true S=.ok true S:=rfl
@[simp]def Oc {d:Te}:V6 d τ false S=d τ S:=rfl
@[simp]def EF {c d:Te}:VN c d τ S=(c τ S).bind (RJ d τ):=rfl
@[simp]def KP {c d:Te}:Qf c d τ S=(c τ S).bind (V6 d τ):=rfl
@[simp]def EA:sH τ S=.ok true S:=rfl
abbrev Km (d:Ex)(τ:ad)(a:A)(S:jJ):R A:=match a with | .bl true=>d τ S | .bl false=>.ok (.bl false) S|_=>.no
abbrev Px (d:Ex)(τ:ad)(a:A)(S:jJ):R A:=match a with | .bl true=>.ok (.bl true) S | .bl false=>d τ S|_=>.no
@[simp]def FG {d:Ex}:Km d τ (.bl true) S=d τ S:=rfl
@[simp]def Ga {d:Ex}:Km d τ (.bl false) S=.ok (.bl false) S:=rfl
@[simp]def Ls {d:Ex}:Px d τ (.bl true) S=.ok (.bl true) S:=rfl
@[simp]def Ka {d:Ex}:Px d τ (.bl false) S=d τ S:=rfl
@[simp]def DF {c d:Ex}:Jb c d τ S=(c τ S).bind (Km d τ):=by
 unfold Jb
 cases c τ S with
 | ok a S1=>cases a<;>first|rfl|(rename_i b;cases b<;>rfl)
 | _=>rfl
@[simp]def Ll {c d:Ex}:Wx c d τ S=(c τ S).bind (Px d τ):=by
 unfold Wx
 cases c τ S with
 | ok a S1=>cases a<;>first|rfl|(rename_i b;cases b<;>rfl)
 | _=>rfl
abbrev Oe (a:A)(S:jJ):R A:=match a with | .bl b=>.ok (.bl !b) S|_=>.no
@[simp]def BC {b:Bool}:Oe (.bl b) S=.ok (.bl !b) S:=rfl
@[simp]def EZ {c:Ex}:NY c τ S=(c τ S).bind Oe:=rfl
abbrev Rp (c d:Ex)(τ:ad)(b:Bool)(S:jJ):R A:=match b with|true=>c τ S|false=>d τ S
@[simp]def J8 {c d:Ex}:Rp c d τ true S=c τ S:=rfl
@[simp]def JV {c d:Ex}:Rp c d τ false S=d τ S:=rfl
@[simp]def JK {t:Te}{c d:Ex}:WS t c d τ S=(t τ S).bind (Rp c d τ):=rfl
@[simp]def FQ:jO τ S=.ok [] S:=rfl
abbrev C2 (a:A)(as:ad)(S:jJ):R (ad):=.ok (a::as) S
abbrev OU (d:qt)(τ:ad)(a:A)(S:jJ):R (ad):=(d τ S).bind (C2 a)
@[simp]def zp {as:ad}:C2 a as S=.ok (a::as) S:=rfl
@[simp]def A7 {d:qt}:OU d τ a S=(d τ S).bind (C2 a):=rfl
@[simp]def Bp {c:Ex}{d:qt}:jE c d τ S=(c τ S).bind (OU d τ):=rfl
@[simp]def DS {d:qt}:t9 d τ S=(d τ S).bind λas S1=>gd (as.length<=sizeLine) (.ok (.tup as) S1):=rfl
@[simp]def Fv {d:qt}:wO d τ S=(d τ S).bind newL:=rfl
theorem kD{as:ad}(h:as.length<=16777216):newL as S=.ok (.ref S.length) (S++[.lst as]):=lq (by rw[c5];exact h)
@[simp]def Ca {f:ad->jJ->R A}{d:qt}:jZ f d τ S=(d τ S).bind f:=rfl
abbrev U4 (r:R A):R A:=match r with
 | .ok a S=>.ok a S
 | _=>.no
@[simp]def IC:U4 (.ok a S)=.ok a S:=rfl
abbrev Wk (f:ad->jJ->R A)(as:ad)(S:jJ):R A:=U4 (f as S)
@[simp]def Ke {f:ad->jJ->R A}{as:ad}:Wk f as S=U4 (f as S):=rfl
@[simp]def JL {f:ad->jJ->R A}{d:qt}:eFn f d τ S=(d τ S).bind (Wk f):=rfl
@[simp]def Oq {g:A->jJ->R A}:f1 g [a] S=g a S:=rfl
@[simp]def OD {g:A->A->jJ->R A}:f2 g [a,b] S=g a b S:=rfl
abbrev Q7 (h:Pt)(τ:ad)(a:A)(l:bb)(S:jJ):R A:=(h τ S).bind (Hl a l)
abbrev WH (l h:Pt)(τ:ad)(a:A)(S:jJ):R A:=(l τ S).bind (Q7 h τ a)
@[simp]def E_ {h:Pt}{l:bb}:Q7 h τ a l S=(h τ S).bind (Hl a l):=rfl
@[simp]def LJ {l h:Pt}:WH l h τ a S=(l τ S).bind (Q7 h τ a):=rfl
@[simp]def IV {c:Ex}{l h:Pt}:Sk c l h τ S=(c τ S).bind (WH l h τ):=rfl
@[simp]def Bm:Dz τ S=.ok none S:=rfl
abbrev Wh (a:A)(S:jJ):R (bb):=match a with
 | .int i=>.ok (some i) S
 | _=>.no
@[simp]def EC {i:Int}:Wh (.int i) S=.ok (some i) S:=rfl
@[simp]def BO {c:Ex}:vV c τ S=(c τ S).bind Wh:=rfl
abbrev QF (f:A->ad->jJ->R A)(d:qt)(τ:ad)(o:A)(S:jJ)(_:ad):R A:=(d τ S).bind (f o)
abbrev Wv (f:A->ad->jJ->R A)(d:qt)(τ:ad)(o:A)(S:jJ):R A:=opt (o.lst? S) (QF f d τ o S)
@[simp]def DW {f:A->ad->jJ->R A}{d:qt}{xs:ad}:QF f d τ a S xs=(d τ S).bind (f a):=rfl
@[simp]def JU {f:A->ad->jJ->R A}{d:qt}:Wv f d τ a S=opt (a.lst? S) (QF f d τ a S):=rfl
@[simp]def Lj {f:A->ad->jJ->R A}{c:Ex}{d:qt}:Jv f c d τ S=(c τ S).bind (Wv f d τ):=rfl
@[simp]def DT {f:A->ad->jJ->R A}{c:Ex}:PZ f c τ S=(c τ S).bind λo S1=>opt (o.lst? S1) λ_=>f o [] S1:=rfl
@[simp]def lst?_ref {n:Nat}:A.lst? S (.ref n)=jF S n:=rfl
abbrev RS.seq (r:RS)(d:Sm):RS:=match r with
 | .nx τ S=>d τ S
 | r=>r
@[simp]def RS.LS {d:Sm}:RS.seq (.nx τ S) d=d τ S:=rfl
@[simp]def RS.Lh {d:Sm}:RS.seq (.rt a S) d=.rt a S:=rfl
@[simp]def RS.KY {d:Sm}{c:Str}:RS.seq (.ex c S) d=.ex c S:=rfl
@[simp]def RS.HC {d:Sm}:RS.seq (.bk τ S) d=.bk τ S:=rfl
@[simp]def RS.K_ {d:Sm}:RS.seq (.ct τ S) d=.ct τ S:=rfl
@[simp]def Fo {c d:Sm}:kr c d τ S=RS.seq (c τ S) d:=by unfold kr RS.seq;cases c τ S<;>rfl
@[simp]def DR:qI τ S=.nx τ S:=rfl
@[simp]def yX:Rr τ S=.bk τ S:=rfl
@[simp]def Bq:S_ τ S=.ct τ S:=rfl
@[simp]def BD {e:Ex}:uI e τ S=RS.of (e τ S) λ_ S1=>.nx τ S1:=rfl
@[simp]def FY {e:Ex}:lE e τ S=RS.of (e τ S) .rt:=rfl
@[simp]def Cm:IQ τ S=.rt .non S:=rfl
abbrev UY (c d:Sm)(τ:ad)(b:Bool)(S:jJ):RS:=match b with|true=>c τ S|false=>d τ S
@[simp]def OG {c d:Sm}:UY c d τ true S=c τ S:=rfl
@[simp]def Oi {c d:Sm}:UY c d τ false S=d τ S:=rfl
@[simp]def ID {t:Te}{c d:Sm}:AN t c d τ S=RS.of (t τ S) (UY c d τ):=rfl
abbrev Sv (g:Tg)(τ:ad)(a:A)(S:jJ):RS:=RS.of (g a τ S) .nx
@[simp]def DP {g:Tg}:Sv g τ a S=RS.of (g a τ S) .nx:=rfl
@[simp]def Eg {e:Ex}{g:Tg}:lg e g τ S=RS.of (e τ S) (Sv g τ):=rfl
@[simp]def Kf {i:Nat}:kN i a τ S=.ok (τ.set i a) S:=rfl
abbrev QI (a o:A)(τ:ad)(i:A)(S:jJ):R (ad):=(BS o i a S).bind λ_ S3=>.ok τ S3
abbrev Wz (ci:Ex)(τ:ad)(a o:A)(S:jJ):R (ad):=(ci τ S).bind (QI a o τ)
@[simp]def Fi {o i:A}:QI a o τ i S=(BS o i a S).bind λ_ S3=>.ok τ S3:=rfl
@[simp]def IX {ci:Ex}{o:A}:Wz ci τ a o S=(ci τ S).bind (QI a o τ):=rfl
@[simp]def IB {co ci:Ex}:Sj co ci a τ S=(co τ S).bind (Wz ci τ a):=rfl
@[simp]def HM {n:Nat}{gs:L8}{xs:ad}:AK n gs (.tup xs) τ S=gd (xs.length=n) (gs xs τ S):=rfl
@[simp]def LO:AH [] τ S=.ok τ S:=rfl
@[simp]def J4 {g:Tg}{gs:L8}{as:ad}:sD g gs (a::as) τ S=(g a τ S).bind (gs as):=rfl
abbrev WI (i j:Nat)(τ:ad)(as:ad)(S:jJ):RS:=match as with
 | [a,b]=>.nx ((τ.set i a).set j b) S
 | _=>.no
@[simp]def Kr {i j:Nat}:WI i j τ [a,b] S=.nx ((τ.set i a).set j b) S:=rfl
@[simp]def Ei {i j:Nat}{c:qt}:VP i j c τ S=RS.of (c τ S) (WI i j τ):=rfl
abbrev L5 (i:Nat)(τ:ad)(c:A)(S:jJ):RS:=.nx (τ.set i c) S
abbrev TH (i:Nat)(f:A->A->jJ->R A)(τ:ad)(b:A)(S:jJ):RS:=.of (f (τ.getD i .unb) b S) (L5 i τ)
@[simp]def BB {i:Nat}:L5 i τ a S=.nx (τ.set i a) S:=rfl
@[simp]def Ez {i:Nat}{f:A->A->jJ->R A}:TH i f τ a S=.of (f (τ.getD i .unb) a S) (L5 i τ):=rfl
@[simp]def EV {i:Nat}{f:A->A->jJ->R A}{e:Ex}:Hy i f e τ S=bif (τ.getD i .unb).nU then .no else .of (e τ S) (TH i f τ):=by
 unfold Hy;cases(τ.getD i .unb).nU<;>rfl
abbrev U8 (o i:A)(τ:ad)(z:A)(S:jJ):RS:=.of (BS o i z S) λ_ S6=>.nx τ S6
abbrev We (f:A->A->jJ->R A)(o i x:A)(τ:ad)(y:A)(S:jJ):RS:=.of (f x y S) (U8 o i τ)
abbrev Vv (ce:Ex)(f:A->A->jJ->R A)(o i:A)(τ:ad)(x:A)(S:jJ):RS:=.of (ce τ S) (We f o i x τ)
abbrev Vr (ce:Ex)(f:A->A->jJ->R A)(o:A)(τ:ad)(i:A)(S:jJ):RS:=.of (JI o i S) (Vv ce f o i τ)
abbrev WA (ci ce:Ex)(f:A->A->jJ->R A)(τ:ad)(o:A)(S:jJ):RS:=.of (ci τ S) (Vr ce f o τ)
@[simp]def K9 {o i:A}:U8 o i τ a S=.of (BS o i a S) λ_ S6=>.nx τ S6:=rfl
@[simp]def Ja {f:A->A->jJ->R A}{o i x:A}:We f o i x τ a S=.of (f x a S) (U8 o i τ):=rfl
@[simp]def IU {ce:Ex}{f:A->A->jJ->R A}{o i:A}:Vv ce f o i τ a S=.of (ce τ S) (We f o i a τ):=rfl
@[simp]def IK {ce:Ex}{f:A->A->jJ->R A}{o:A}:Vr ce f o τ a S=.of (JI o a S) (Vv ce f o a τ):=rfl
@[simp]def Iu {ci ce:Ex}{f:A->A->jJ->R A}:WA ci ce f τ a S=.of (ci τ S) (Vr ce f a τ):=rfl
@[simp]def A0 {co ci ce:Ex}{f:A->A->jJ->R A}:vO co ci ce f τ S=RS.of (co τ S) (WA ci ce f τ):=rfl
abbrev RS.end (r:RS):R A:=match r with
 | .rt a S'=>.ok a S'
 | .nx _ S'=>.ok .non S'
 | .ex c S'=>.ex c S'
 | _=>.no
@[simp]def RS.K2:RS.end (.rt a S)=.ok a S:=rfl
@[simp]def RS.LF:RS.end (.nx τ S)=.ok .non S:=rfl
@[simp]def RS.Jw {c:Str}:RS.end (.ex c S)=.ex c S:=rfl
theorem t7 {N:am}{m:Sm}{as:ad}:mw N m as S=RS.end (m (as++List.replicate (N.length-as.length) .unb) S):=by
 unfold mw RS.end;cases m (as++List.replicate (N.length-as.length) .unb) S<;>rfl
@[simp]def HR {i j:Int}:l7 (.int i) (.int j) S=.ok (.int (i+j)) S:=rfl
@[simp]def K6 {i j:Int}:aSub (.int i) (.int j) S=.ok (.int (i-j)) S:=rfl
@[simp]def Jj {i j:Int}:CK (.int i) (.int j) S=.ok (.int (i+j)) S:=rfl
theorem IT{i j:Int}(h:-18446744073709551616<i)(h':i<18446744073709551616):uB (.int i) (.int j) S=.ok (.int (i * j)) S:=lq (by unfold Bb;simp;left;exact⟨by omega,by omega⟩)
def mul_r{i j:Int}(h:-18446744073709551616<j)(h':j<18446744073709551616):uB (.int i) (.int j) S=.ok (.int (i * j)) S:=lq (by unfold Bb;simp;right;exact⟨(),()⟩)
def Ij{i j:Int}(h:0<j)(h':j<1073741824):DM (.int i) (.int j) S=.ok (.int (i / j)) S:=lq ⟨h,()⟩
def Ck{i j:Int}(h:0<j):zL (.int i) (.int j) S=.ok (.int (i % j)) S:=lq h
@[simp]def Ob {i j:Int}:ES (.int i) (.int j) S=.ok (.bl (decide (i<j))) S:=rfl
@[simp]def OB {i j:Int}:UW (.int i) (.int j) S=.ok (.bl (decide (i<=j))) S:=rfl
@[simp]def OO {i j:Int}:Bu (.int i) (.int j) S=.ok (.bl (decide (j<i))) S:=rfl
@[simp]def Og {i j:Int}:WK (.int i) (.int j) S=.ok (.bl (decide (j<=i))) S:=rfl
@[simp]def Oz {i j:Bool}:GO false (.bl i) (.bl j) S=.ok (.bl (i == j)) S:=rfl
@[simp]def KZ {i j:Bool}:GO true (.bl i) (.bl j) S=.ok (.bl (i != j)) S:=rfl
@[simp]def Jz {i:Int}:HV (.int i) S=.ok (.int (-i)) S:=rfl
@[simp]def JP {xs:ad}:m8 (.tup xs) S=.ok (.int xs.length) S:=rfl
@[simp]def Im {xs:ad}:m8 (.frz xs) S=.ok (.int xs.length) S:=rfl
@[simp]def HJ {n:Nat}:m8 (.ref n) S=opt (jF S n) λxs=>.ok (.int xs.length) S:=rfl
@[simp]def Kg {i:Int}:PU (.int i) S=.ok (.int (if i<0 then -i else i)) S:=rfl
@[simp]def FN {i j:Int}:Ih (.int i) (.int j) S=.ok (.int (if j>i then j else i)) S:=rfl
@[simp]def FI {i j:Int}:LI (.int i) (.int j) S=.ok (.int (if j<i then j else i)) S:=rfl
@[simp]def E5 {i:Int}:Ol (.int i) S=.ok (.int i) S:=rfl
@[simp]def Em {i:Bool}:Ol (.bl i) S=.ok (.int (if i then 1 else 0)) S:=rfl
@[simp]def ze {i j:Int}:qg (.int i) (.int j) S=.ok (.rng i j) S:=rfl
@[simp]def ON {xs:ad}{i:Int}:nX (.tup xs) (.int i) S=opt (nQ xs i) λx=>.ok x S:=rfl
@[simp]def Oj {xs:ad}{i:Int}:nX (.frz xs) (.int i) S=opt (nQ xs i) λx=>.ok x S:=rfl
@[simp]def Od {n:Nat}{i:Int}:nX (.ref n) (.int i) S=opt (jF S n) λxs=>opt (nQ xs i) λx=>.ok x S:=rfl
@[simp]def J1 {n:Nat}{k:Int}:BS (.ref n) (.int k) a S=opt (jF S n) λxs=>opt (yy xs.length k) λj=>.ok Unit.unit (S.set n (.lst (xs.set j a))):=rfl
@[simp]def JF {n:Nat}{i:Int}:JI (.ref n) (.int i) S=opt (jF S n) λxs=>gd (0<=i) (opt (xs[i.toNat]?) λx=>.ok x S):=rfl
theorem Gm{i j:Int}(h:xh i j):ya (.rng i j) S=.ok (.ref S.length) (S++[.lst ((jV i j).map .int)]):=lq h
def CM{i j:Int}(h:xh i j):nY (.rng i j) S=.ok (.tup ((jV i j).map .int)) S:=lq h
@[simp]def DA {xs:ad}:ya (.tup xs) S=.ok (.ref S.length) (S++[.lst xs]):=rfl
@[simp]def ET {xs:ad}:ya (.frz xs) S=.ok (.ref S.length) (S++[.lst xs]):=rfl
@[simp]def D4 {n:Nat}:ya (.ref n) S=opt (jF S n) λxs=>.ok (.ref S.length) (S++[.lst xs]):=rfl
@[simp]def Bc {xs:ad}:nY (.tup xs) S=.ok (.tup xs) S:=rfl
@[simp]def Bg {n:Nat}:nY (.ref n) S=opt (jF S n) λxs=>.ok (.tup xs) S:=rfl
@[simp]def KR {xs:ad}:G8 (.tup xs) S=.ok (.tup xs.reverse) S:=rfl
@[simp]def H_ {n:Nat}:G8 (.ref n) S=opt (jF S n) λxs=>.ok (.ref S.length) (S++[.lst xs.reverse]):=rfl
@[simp]def O1 {n:Nat}{l u:bb}:Hl (.ref n) l u S=opt (jF S n) λxs=>.ok (.ref S.length) (S++[.lst (ug xs l u)]):=rfl
@[simp]def xm {n:Nat}:se (.ref n) [a] S=opt (jF S n) λxs=>gd (xs.length<sizeLine) (.ok .non (S.set n (.lst (xs++[a])))):=rfl
@[simp]def IG {b:Bool}:A.QW (.bl b) S=some b:=rfl
@[simp]def EI {i:Int}:A.QW (.int i) S=some (i != 0):=rfl
theorem Q5{o:O}:(S++[o])[S.length]?=some o:=by simp
@[simp]def jY {xs:ad}:jF (S++[.lst xs]) S.length=some xs:=ur Q5
theorem qE{o:O}{n:Nat}(h:jF S n=some xs):jF (S++[o]) n=some xs:=by
 have h':=jT h;exact ur (by rw[bF (aK.mp h').1];exact h')
def oR{n:Nat}(h:jF S n=some xs):n<S.length:=(aK.mp (jT h)).1
def nu{n:Nat}(h:n<S.length):jF (S.set n (.lst ys)) n=some ys:=ur (cB h)
def nK{n:Nat}(h:n≠m):jF (S.set n (.lst ys)) m=jF S m:=by unfold jF;rw[b8 h]
def Dv{xs:ad}{i:Int}{k:Nat}{x:A}(h:i=k)(hx:xs[k]?=some x):nQ xs i=some x:=by rw[h];exact Nz hx
def vF{n:Nat}{i:Int}{k:Nat}(h:i=k)(hk:k<n):yy n i=some k:=by
 subst h;unfold yy;rw[aN (),aN ()];simp
end
structure Kp (b:Nat->Prop)(S S':jJ):Prop where
 len:S.length<=S'.length
 obj:∀(n:Nat) (o:O),¬b n->S[n]?=some o->S'[n]?=some o
meta abbrev qk:=Kp λ_=>False
def Kp.lst{b:Nat->Prop}(h:Kp b S S')(n:Nat)(xs:ad)(hb:¬b n)(e:jF S n=some xs):jF S' n=some xs:=ur (h.obj n _ hb (jT e))
def Kp.dct{b:Nat->Prop}(h:Kp b S S')(n:Nat)(xs:List (ae×A))(hb:¬b n)(e:j8 S n=some xs):j8 S' n=some xs:=uf (h.obj n _ hb (nh e))
def Kp.refl{b:Nat->Prop}:Kp b S S:=⟨aP _,λ_ _ _ h=>h⟩
def Kp.trans{b:Nat->Prop}(h:Kp b S S1)(h':Kp b S1 S2):Kp b S S2:=⟨bV h.len h'.len,λn xs hb e=>h'.obj n xs hb (h.obj n xs hb e)⟩
def Cs{S:jJ}{n:Nat}(e:S[n]?=some o):n<S.length:=(aK.mp e).1
def Kp.lay{b:Nat->Prop}{o:O}(h:Kp b S S1):Kp b S (S1++[o]):=⟨bV h.len (by simp),λn xs hb e=>by
 have:=h.obj n xs hb e;rw[bF (Cs this)];exact this⟩
def Kp.MU{b:Nat->Prop}{S S1:jJ}(h:Kp b S S1)(hm:b m\/S.length<=m):Kp b S (S1.set m o):=⟨by rw[bR];exact h.len,λn xs hb e=>by
 have:m≠n:=λz=>by
  subst z
  rcases hm with z|z
  ·exact hb z
  ·exact absurd (Cs e) ()
 rw[b8 this];exact h.obj n xs hb e⟩
def Kp.set{b:Nat->Prop}{S S1:jJ}(h:Kp b S S1)(hm:b m\/S.length<=m):Kp b S (S1.set m (.lst ys)):=h.MU hm
def Kp.old{b c:Nat->Prop}{S:jJ}(h:Kp b S S1)(h':Kp c S1 S2)(hc:∀n,n<S.length->¬b n->¬c n):Kp b S S2:=⟨bV h.len h'.len,λn xs hb e=>h'.obj n xs (hc n (Cs e) hb) (h.obj n xs hb e)⟩
theorem qQ{t:Te}{c:Sm}(Inv:ad->jJ->Prop)(μ:ad->jJ->Nat)(Post:RS->Prop)
  (h:∀τ S,Inv τ S->(∃S1,t τ S=.ok false S1/\Post (.nx τ S1))\/(∃S1,t τ S=.ok true S1/\((∃τ' S',c τ S1=.nx τ' S'/\Inv τ' S'/\μ τ' S'<μ τ S)\/(∃a S',c τ S1=.rt a S'/\Post (.rt a S'))))) :
  ∀n τ S,Inv τ S->μ τ S<n->Post (l_ t c n τ S)
 | 0,_,_,_,hn=>absurd hn (iI _)
 | n+1,τ,S,hi,hn=>by
  unfold l_
  rcases h τ S hi with⟨S1,e,q⟩|⟨S1,e,⟨τ',S',e2,hi',hm⟩|⟨a,S',e2,q⟩⟩
  ·rw[e];exact q
  ·rw[e];show Post (match c τ S1 with
    | .nx τ' S'=>l_ t c n τ' S'
    | .ct τ' S'=>l_ t c n τ' S'
    | .bk τ' S'=>.nx τ' S'
    | r=>r)
   rw[e2];exact qQ Inv μ Post h n τ' S' hi' ()
  ·rw[e];show Post (match c τ S1 with
    | .nx τ' S'=>l_ t c n τ' S'
    | .ct τ' S'=>l_ t c n τ' S'
    | .bk τ' S'=>.nx τ' S'
    | r=>r)
   rw[e2];exact q
theorem C1{s:Src}{g:Tg}{c:Sm}(Inv:Nat->ad->jJ->Prop)(Post:RS->Prop)
  (step:∀i τ S,i<s.k->Inv i τ S->∃x τ1 S1,s.get i S=some x/\g x τ S=.ok τ1 S1/\((∃τ' S',c τ1 S1=.nx τ' S'/\Inv (i+1) τ' S')\/(∃a S',c τ1 S1=.rt a S'/\Post (.rt a S'))))
  (fin:∀τ S,Inv s.k τ S->s.fin S=true/\Post (.nx τ S)):∀k i τ S,k+i=s.k->Inv i τ S->Post (pq s g c k i τ S)
 | 0,i,τ,S,hk,hi=>by
  have:i=s.k:=()
  subst this;obtain⟨hf,q⟩:=fin τ S hi;unfold pq;rw[aN hf];exact q
 | k+1,i,τ,S,hk,hi=>by
  obtain⟨x,τ1,S1,hx,hg,h⟩:=step i τ S () hi;unfold pq;rw[hx];show Post (RS.of (g x τ S) λτ1 S1=>match c τ1 S1 with
   | .nx τ' S'=>pq s g c k (i+1) τ' S'
   | .ct τ' S'=>pq s g c k (i+1) τ' S'
   | .bk τ' S'=>.nx τ' S'
   | r=>r)
  rw[hg];show Post (match c τ1 S1 with
   | .nx τ' S'=>pq s g c k (i+1) τ' S'
   | .ct τ' S'=>pq s g c k (i+1) τ' S'
   | .bk τ' S'=>.nx τ' S'
   | r=>r)
  rcases h with⟨τ',S',e,hi'⟩|⟨a,S',e,q⟩
  ·rw[e];exact C1 Inv Post step fin k (i+1) τ' S' () hi'
  ·rw[e];exact q
def wo{lo hi:Int}{c:Sm}{src:Ic}{τ:ad}(hs:src τ S=.ok (kL lo hi) S1)(Inv:Nat->ad->jJ->Prop)(Post:RS->Prop)(h0:Inv 0 τ S1)
  (step:∀(i:Nat) τ S,(i:Int)<hi-lo->Inv i τ S->(∃τ' S',c (τ.set j (.int (lo+i))) S=.nx τ' S'/\Inv (i+1) τ' S')\/(∃a S',c (τ.set j (.int (lo+i))) S=.rt a S'/\Post (.rt a S')))
  (fin:∀τ S,Inv (hi-lo).toNat τ S->Post (.nx τ S)):Post (qM src (kN j) c τ S):=by
 unfold qM;rw[hs];refine C1 (s:=kL lo hi) Inv Post (λi τ S hi' h=>?_) (λτ S h=>⟨rfl,fin τ S h⟩) _ 0 τ S1 rfl h0;have hi':i<(hi-lo).toNat:=hi';exact⟨.int (lo+i),_,S,aN hi',rfl,step i τ S () h⟩
def wI{n:Nat}{xs:ad}{g:Tg}{c:Sm}{src:Ic}(hs:src τ S=.ok (mJ n xs.length) S1)(Inv:Nat->ad->jJ->Prop)(Post:RS->Prop)(h0:Inv 0 τ S1)(hl:∀i τ S,Inv i τ S->jF S n=some xs)
  (step:∀(i:Nat) x τ S,xs[i]?=some x->Inv i τ S->∃τ1 S1,g x τ S=.ok τ1 S1/\((∃τ' S',c τ1 S1=.nx τ' S'/\Inv (i+1) τ' S')\/(∃a S',c τ1 S1=.rt a S'/\Post (.rt a S'))))
  (fin:∀τ S,Inv xs.length τ S->Post (.nx τ S)):Post (qM src g c τ S):=by
 unfold qM;rw[hs];refine C1 (s:=mJ n xs.length) Inv Post (λi τ S hi' h=>?_) (λτ S h=>⟨?_,fin τ S h⟩) _ 0 τ S1 rfl h0
 ·have hi':i<xs.length:=hi';obtain⟨τ1,S1,e,q⟩:=step i xs[i] τ S (aH hi') h;exact⟨xs[i],τ1,S1,by show(jF S n).bind _=_;rw[hl i τ S h];exact aH hi',e,q⟩
 ·show(match jF S n with
   | some ys=>decide (ys.length<=xs.length)
   | none=>false)=true
  rw[hl _ τ S h];exact br (aP _)
@[simp]def oK {c:Ex}{τ:ad}{S S1:jJ}{j:Int}(h:c τ S=.ok (.int j) S1)(hb:bnd j):oh c τ S=.ok (kL 0 j) S1:=by
 unfold oh;rw[h];exact lq hb
def uL{c d:Ex}{i j:Int}(h:c τ S=.ok (.int i) S1)(h':d τ S1=.ok (.int j) S2)(hb:bnd i)(hb':bnd j):om c d τ S=.ok (kL i j) S2:=by
 unfold om;rw[h];show(d τ S1).bind _=_;rw[h'];exact lq ⟨hb,hb'⟩
def QV{c:Ex}(h:c τ S=.ok (.tup xs) S1):qh c τ S=.ok (nH xs) S1:=by unfold qh;rw[h];rfl
def rA{c:Ex}{n:Nat}{xs:ad}(h:c τ S=.ok (.ref n) S1)(hl:jF S1 n=some xs):qh c τ S=.ok (mJ n xs.length) S1:=by
 unfold qh;rw[h];show opt (jF S1 n) _=_;rw[hl];rfl
theorem o4{s:Src}{g:Tg}{t:Te}{e:Ex}{P:jJ->Prop}{T:ad->Prop}(it:Nat->A)(p:Nat->Bool)(f:Nat->A)
  (hget:∀i S,i<s.k->P S->s.get i S=some (it i)) (hfin:∀S,P S->s.fin S=true)
  (step:∀i τ S,i<s.k->T τ->P S->∃τ1 S1 S2,g (it i) τ S=.ok τ1 S1/\t τ1 S1=.ok (p i) S2/\T τ1/\(p i=false->P S2)/\(p i=true->∃S3,e τ1 S2=.ok (f i) S3/\P S3)) :
  ∀k i τ S,k+i=s.k->T τ->P S->∃S',l9 s g t e k i τ S=.ok (((List.range' i k).filter p).map f) S'/\P S'
 | 0,i,τ,S,hk,hT,hP=>⟨S,by unfold l9;rw[aN (hfin S hP)];rfl,hP⟩
 | k+1,i,τ,S,hk,hT,hP=>by
  obtain⟨τ1,S1,S2,hg,ht,hT1,hF,hTr⟩:=step i τ S (by omega) hT hP;unfold l9;rw[hget i S (by omega) hP,jX,hg,R.k_,ht,R.k_,d9,iw]
  cases hp:p i with
  | false=>
   obtain⟨S',h1,h2⟩:=o4 it p f hget hfin step k (i+1) τ1 S2 (by omega) hT1 (hF hp);exact⟨S',by simpa using h1,h2⟩
  | true=>
   obtain⟨S3,he,hP3⟩:=hTr hp;obtain⟨S',h1,h2⟩:=o4 it p f hget hfin step k (i+1) τ1 S3 (by omega) hT1 hP3;refine⟨S',?_,h2⟩
   skip
   rw[he,R.k_,h1];rfl
def vq{s:Src}{src:Ic}{t:Te}{e:Ex}{S1:jJ}(hs:src τ S=.ok s S1)(it:Nat->A)(p:Nat->Bool)(f:Nat->A)(hget:∀i,i<s.k->s.get i S1=some (it i))(hfin:s.fin S1=true)
  (ht:∀i,i<s.k->t (it i::nM cap τ) S1=.ok (p i) S1) (he:∀i,i<s.k->p i=true->e (it i::nM cap τ) S1=.ok (f i) S1) (hl:s.k<=16777216) :
  kK (none::cap) src (kN 0) t e τ S=.ok (.ref S1.length) (S1++[.lst (((List.range s.k).filter p).map f)]):=by
 unfold kK;rw[hs,R.lI];obtain⟨S',h1,h2⟩:=o4 (s:=s) (g:=kN 0) (t:=t) (e:=e) (P:=λS=>S=S1) (T:=λτ'=>∃y,τ'=y::nM cap τ) it p f (λi S hi h=>by subst h;exact hget i hi) (λS h=>by subst h;exact hfin)
  (λi τ' S hi ⟨y,hy⟩ h=>by
   subst h hy;exact⟨it i::nM cap τ,S,S,rfl,ht i hi,⟨_,rfl⟩,λ_=>rfl,λhp=>⟨S,he i hi hp,rfl⟩⟩) s.k 0 (nM (none::cap) τ) S1 rfl ⟨_,rfl⟩ rfl
 subst h2;rw[h1,R.k_,cC];refine kD ?_;rw[aL];refine bV (eo _ _) ?_;rw[List.length_range'];exact hl
def nL{α β:Type}(xs:List α)(p:α->Bool)(f:α->β):∀(d:α) ,(((List.range xs.length).filter λi=>p (xs.getD i d)).map λi=>f (xs.getD i d))=(xs.filter p).map f:=by
 intro d
 induction xs with
 | nil=>rfl
 | cons x xs ih=>
  rw[bE,gM,iw,iw];have e:((List.filter (λi=>p ((x::xs).getD i d)) (List.map Nat.succ (List.range xs.length))).map λi=>f ((x::xs).getD i d))=(xs.filter p).map f:=by
   rw[iJ,bK];rw[<- ih];rfl
  show List.map _ (if p x=true then _ else _)=List.map f (if p x=true then _ else _);by_cases hp:p x=true
  ·rw[aN hp,aN hp,b9,b9,e];rfl
  ·rw[aM hp,aM hp,e]
def Iz{xs:ad}{src:Ic}{t:Te}{e:Ex}{S1:jJ}(hs:src τ S=.ok (nH xs) S1)(p:A->Bool)(f:A->A)
  (ht:∀x∈xs,t (x::nM cap τ) S1=.ok (p x) S1) (he:∀x∈xs,p x=true->e (x::nM cap τ) S1=.ok (f x) S1) (hl:xs.length<=16777216) :
  kK (none::cap) src (kN 0) t e τ S=.ok (.ref S1.length) (S1++[.lst ((xs.filter p).map f)]):=by
 have hm:∀i,i<xs.length->xs.getD i .unb∈xs:=λi hi=>by
  rw[aI,aH hi];exact c7 hi
 rw[vq hs (λi=>xs.getD i .unb) (λi=>p (xs.getD i .unb)) (λi=>f (xs.getD i .unb)) (λi hi=>by
  have hi:i<xs.length:=hi;show xs[i]?=_;rw[aI,aH hi];rfl) rfl (λi hi=>ht _ (hm i hi)) (λi hi=>he _ (hm i hi)) hl]
 have:=nL xs p f .unb;show R.ok _ (S1++[O.lst (((List.range xs.length).filter _).map _)])=_;rw[this]
def Kx{xs:ad}{src:Ic}{e:Ex}{S1:jJ}(hs:src τ S=.ok (nH xs) S1)(f:A->A)
  (he:∀x∈xs,e (x::nM cap τ) S1=.ok (f x) S1) (hl:xs.length<=16777216) :
  kK (none::cap) src (kN 0) sH e τ S=.ok (.ref S1.length) (S1++[.lst (xs.map f)]):=by
 rw[Iz hs (λ_=>true) f (λ_ _=>rfl) (λx hx _=>he x hx) hl,eX.mpr (λ_ _=>rfl)]
def xK{lo hi:Int}{src:Ic}{t:Te}{e:Ex}{S1:jJ}(hs:src τ S=.ok (kL lo hi) S1)(p:Int->Bool)(f:Int->A)
  (ht:∀k,lo<=k->k<hi->t (.int k::nM cap τ) S1=.ok (p k) S1) (he:∀k,lo<=k->k<hi->p k=true->e (.int k::nM cap τ) S1=.ok (f k) S1) (hl:(hi-lo).toNat<=16777216) :
  kK (none::cap) src (kN 0) t e τ S=.ok (.ref S1.length) (S1++[.lst (((jV lo hi).filter p).map f)]):=by
 rw[vq hs (λi=>.int (lo+i)) (λi=>p (lo+i)) (λi=>f (lo+i)) (λi hi'=>aN hi') rfl (λi hi'=>ht _ () (by have:i<(hi-lo).toNat:=hi';lia)) (λi hi'=>he _ () (by have:i<(hi-lo).toNat:=hi';lia)) hl];unfold jV;rw[iJ,bK];rfl
@[simp]def K5 {cap:List (bi)}{τ:ad}:nM (none::cap) τ=.unb::nM cap τ:=rfl
@[simp]def Jq {cap:List (bi)}{τ:ad}{j:Nat}:nM (some j::cap) τ=τ.getD j .unb::nM cap τ:=rfl
@[simp]def BN {τ:ad}:nM [] τ=[]:=rfl
theorem LH{x:A}:nQ (x::xs) 0=some x:=Dv (k:=0) rfl rfl
def HB{x:A}:nQ (x::y::xs) 1=some y:=Dv (k:=1) rfl rfl
def uU{ns:ae}{i:Int}{k:Nat}{x:Int}(h:i=k)(hx:ns[k]?=some x):nQ (ns.map A.int) i=some (.int x):=Dv h (by rw[aQ,hx];rfl)
def mU{j:Int}(h:-4611686018427387904<=j)(h':j<4611686018427387904):bnd j:=⟨(),()⟩
def Cj{i j:Int}(h1:-1000000<=i)(h2:i<=1000000)(h3:-1000000<=j)(h4:j<=1000000)(h5:j-i<=1000):xh i j:=⟨⟨(),(),(),()⟩,()⟩
theorem ints_map:∀(ns:ae),A.ints (ns.map .int)=some ns
 | []=>rfl
 | n::ns=>by show(A.ints (ns.map .int)).map (n::·)=_;rw[ints_map ns];rfl
theorem yR{n:Nat}:∀(xs ys:ae),v9 (B9 S (n+1)) (xs.map .int) (ys.map .int)=some (decide (xs=ys))
 | [],[]=>rfl
 | [],_::_=>rfl
 | _::_,[]=>rfl
 | x::xs,y::ys=>by
  skip
  skip
  show Option.map _ (v9 (B9 S (n+1)) (xs.map .int) (ys.map .int))=_;rw[yR xs ys]
  skip
  by_cases h1:x=y<;>by_cases h2:xs=ys<;>simp[h1,h2]
@[simp]def OX {S:jJ}{x y:Bool}:Hj false (.bl x) (.bl y) S=.ok (.bl (x == y)) S:=rfl
@[simp]def Oa {S:jJ}{x y:Bool}:Hj true (.bl x) (.bl y) S=.ok (.bl (!(x == y))) S:=rfl
@[simp]def N9 {S:jJ}{x y:Int}:Hj false (.int x) (.int y) S=.ok (.bl (x == y)) S:=rfl
@[simp]def OF {S:jJ}{x y:Int}:Hj true (.int x) (.int y) S=.ok (.bl (!(x == y))) S:=rfl
@[simp]def FJ {S:jJ}:GO false .non .non S=.ok (.bl true) S:=rfl
@[simp]def F7 {S:jJ}{xs:ad}:GO false (.tup xs) .non S=.ok (.bl false) S:=rfl
@[simp]def ED {S:jJ}{n:Nat}:GO false (.ref n) .non S=.ok (.bl false) S:=rfl
@[simp]def B_ {S:jJ}:GO true .non .non S=.ok (.bl false) S:=rfl
@[simp]def B5 {S:jJ}{xs:ad}:GO true (.tup xs) .non S=.ok (.bl true) S:=rfl
@[simp]def BL {S:jJ}{n:Nat}:GO true (.ref n) .non S=.ok (.bl true) S:=rfl
@[simp]def FU {S:jJ}{x:A}{c:String}:LZ x (.ty c) S=opt (x.kd S) λk=>opt (CG k c) λb=>.ok (.bl b) S:=rfl
@[simp]def OJ {S:jJ}{b:Bool}:A.kd (.bl b) S=some .bl:=rfl
@[simp]def KL {S:jJ}{b:Int}:A.kd (.int b) S=some .int:=rfl
@[simp]def IY {S:jJ}{b:ad}:A.kd (.tup b) S=some .tup:=rfl
@[simp]def HY {S:jJ}:A.kd .non S=some .non:=rfl
@[simp]def Ku {S:jJ}{b:Str}:A.kd (.str b) S=some .str:=rfl
@[simp]def Ko {S:jJ}{n:Nat}:A.kd (.ref n) S=(jF S n).map λ_=>.lst:=rfl
@[simp]def Hr {S:jJ}:newL [] S=.ok (.ref S.length) (S++[.lst []]):=kD (by simp)
@[simp]def IL {S:jJ}{x0:A}:newL [x0] S=.ok (.ref S.length) (S++[.lst [x0]]):=kD (by simp)
@[simp]def L1 {S:jJ}{x0 x1:A}:newL [x0,x1] S=.ok (.ref S.length) (S++[.lst [x0,x1]]):=kD (by simp)
@[simp]def Jd {S:jJ}{x0 x1 x2:A}:newL [x0,x1,x2] S=.ok (.ref S.length) (S++[.lst [x0,x1,x2]]):=kD (by simp)
@[simp]def KU {S:jJ}{x0 x1 x2 x3:A}:newL [x0,x1,x2,x3] S=.ok (.ref S.length) (S++[.lst [x0,x1,x2,x3]]):=kD (by simp)
@[simp]def JT {S:jJ}{x0 x1 x2 x3 x4:A}:newL [x0,x1,x2,x3,x4] S=.ok (.ref S.length) (S++[.lst [x0,x1,x2,x3,x4]]):=kD (by simp)
@[simp]def K7 {S:jJ}{x0 x1 x2 x3 x4 x5:A}:newL [x0,x1,x2,x3,x4,x5] S=.ok (.ref S.length) (S++[.lst [x0,x1,x2,x3,x4,x5]]):=kD (by simp)
@[simp]def HG {S:jJ}{x0 x1 x2 x3 x4 x5 x6:A}:newL [x0,x1,x2,x3,x4,x5,x6] S=.ok (.ref S.length) (S++[.lst [x0,x1,x2,x3,x4,x5,x6]]):=kD (by simp)
@[simp]def L0 {S:jJ}{x0 x1 x2 x3 x4 x5 x6 x7:A}:newL [x0,x1,x2,x3,x4,x5,x6,x7] S=.ok (.ref S.length) (S++[.lst [x0,x1,x2,x3,x4,x5,x6,x7]]):=kD (by simp)
@[simp]def Je {S:jJ}{x0 x1 x2 x3 x4 x5 x6 x7 x8:A}:newL [x0,x1,x2,x3,x4,x5,x6,x7,x8] S=.ok (.ref S.length) (S++[.lst [x0,x1,x2,x3,x4,x5,x6,x7,x8]]):=kD (by simp)
@[simp]def EM {S:jJ}{x0 x1 x2 x3 x4 x5 x6 x7 x8 x9:A}:newL [x0,x1,x2,x3,x4,x5,x6,x7,x8,x9] S=.ok (.ref S.length) (S++[.lst [x0,x1,x2,x3,x4,x5,x6,x7,x8,x9]]):=kD (by simp)
theorem z6{α:Type}{n:Nat}{r:R α}(h:n<=16777216):gd (n<=sizeLine) r=r:=lq (by rw[c5];exact h)
def Fx{α:Type}{n:Nat}{r:R α}(h:n<16777216):gd (n<sizeLine) r=r:=lq (by rw[c5];exact h)
def Ot {x:A}{xs:ad}:(x::xs).getD 0 .unb=x:=rfl
def N3 {x:A}{xs:ad}{n:Nat}:(x::xs).getD (n+1) .unb=xs.getD n .unb:=rfl
def T5 {x y:A}{xs:ad}:(x::xs).set 0 y=y::xs:=rfl
def sets {x y:A}{xs:ad}{n:Nat}:(x::xs).set (n+1) y=x::xs.set n y:=rfl
def rep0 {x:A}:List.replicate 0 x=[]:=rfl
def reps {x:A}{n:Nat}:List.replicate (n+1) x=x::List.replicate n x:=rfl
def SS {x:A}{xs ys:ad}:(x::xs)++ys=x::(xs++ys):=rfl
def TX {ys:ad}:[]++ys=ys:=rfl
def kC:type_of% (anI @R.lI (anI @R.Dy (anI @R.k_ (anI @RS.of_ok (anI @RS.N6 (anI @jX (anI @Eh (anI @D9 (anI @F_ (anI @F4 (anI @FF (anI @KJ (anI @D6 (anI @Et (anI @Fc (anI @DG (anI @DJ (anI @N2 (anI @D3 (anI @K3 (anI @D7 (anI @Ou (anI @Jl (anI @FT (anI @EF (anI @KP (anI @EA (anI @FG (anI @Ga (anI @Ls (anI @Ka (anI @DF (anI @Ll (anI @BC (anI @EZ (anI @JK (anI @FQ (anI @Bp (anI @DS (anI @Fv (anI @Ca (anI @IC (anI @JL (anI @Oq (anI @OD (anI @IV (anI @Bm (anI @EC (anI @BO (anI @Lj (anI @DT (anI @lst?_ref (anI @RS.LS (anI @RS.Lh (anI @RS.KY (anI @RS.HC (anI @RS.K_ (anI @Fo (anI @DR (anI @yX (anI @Bq (anI @BD (anI @FY (anI @Cm (anI @ID (anI @Eg (anI @Kf (anI @IB (anI @HM (anI @LO (anI @J4 (anI @Kr (anI @Ei (anI @EV (anI @A0 (anI @RS.K2 (anI @RS.LF (anI @RS.Jw (anI @HR (anI @K6 (anI @Jj (anI @Ob (anI @OB (anI @OO (anI @Og (anI @Oz (anI @KZ (anI @Jz (anI @JP (anI @Im (anI @HJ (anI @Kg (anI @FN (anI @FI (anI @E5 (anI @Em (anI @ze (anI @ON (anI @Oj (anI @Od (anI @J1 (anI @JF (anI @DA (anI @ET (anI @D4 (anI @Bc (anI @Bg (anI @KR (anI @H_ (anI @O1 (anI @xm (anI @IG (anI @EI (anI @jY (anI @K5 (anI @Jq (anI @BN (anI @OX (anI @Oa (anI @N9 (anI @OF (anI @FJ (anI @F7 (anI @ED (anI @B_ (anI @B5 (anI @BL (anI @FU (anI @OJ (anI @KL (anI @IY (anI @HY (anI @Ku (anI @Ko (anI @Hr (anI @IL (anI @L1 (anI @Jd (anI @KU (anI @JT (anI @K7 (anI @HG (anI @L0 (anI @Je (anI @EM (anI @Ot (anI @N3 (anI @T5 (anI @sets (anI @rep0 (anI @reps (anI @SS (anI @TX (anI @t7 (anI @DC (anI @LD (anI @Iw (anI @N8 (anI @Oc (anI @J8 (anI @JV (anI @zp (anI @A7 (anI @Ke (anI @E_ (anI @LJ (anI @DW (anI @JU (anI @OG (anI @Oi (anI @DP (anI @Fi (anI @IX (anI @BB (anI @Ez (anI @Iu (anI @IK (anI @IU (anI @Ja (@K9)))))))))))))))))))))))))))))))))))))))))))))))))))))))))))))))))))))))))))))))))))))))))))))))))))))))))))))))))))))))))))))))))))))))))))))))))))))))))))))))))))))))))))))))))))):=anI @R.lI (anI @R.Dy (anI @R.k_ (anI @RS.of_ok (anI @RS.N6 (anI @jX (anI @Eh (anI @D9 (anI @F_ (anI @F4 (anI @FF (anI @KJ (anI @D6 (anI @Et (anI @Fc (anI @DG (anI @DJ (anI @N2 (anI @D3 (anI @K3 (anI @D7 (anI @Ou (anI @Jl (anI @FT (anI @EF (anI @KP (anI @EA (anI @FG (anI @Ga (anI @Ls (anI @Ka (anI @DF (anI @Ll (anI @BC (anI @EZ (anI @JK (anI @FQ (anI @Bp (anI @DS (anI @Fv (anI @Ca (anI @IC (anI @JL (anI @Oq (anI @OD (anI @IV (anI @Bm (anI @EC (anI @BO (anI @Lj (anI @DT (anI @lst?_ref (anI @RS.LS (anI @RS.Lh (anI @RS.KY (anI @RS.HC (anI @RS.K_ (anI @Fo (anI @DR (anI @yX (anI @Bq (anI @BD (anI @FY (anI @Cm (anI @ID (anI @Eg (anI @Kf (anI @IB (anI @HM (anI @LO (anI @J4 (anI @Kr (anI @Ei (anI @EV (anI @A0 (anI @RS.K2 (anI @RS.LF (anI @RS.Jw (anI @HR (anI @K6 (anI @Jj (anI @Ob (anI @OB (anI @OO (anI @Og (anI @Oz (anI @KZ (anI @Jz (anI @JP (anI @Im (anI @HJ (anI @Kg (anI @FN (anI @FI (anI @E5 (anI @Em (anI @ze (anI @ON (anI @Oj (anI @Od (anI @J1 (anI @JF (anI @DA (anI @ET (anI @D4 (anI @Bc (anI @Bg (anI @KR (anI @H_ (anI @O1 (anI @xm (anI @IG (anI @EI (anI @jY (anI @K5 (anI @Jq (anI @BN (anI @OX (anI @Oa (anI @N9 (anI @OF (anI @FJ (anI @F7 (anI @ED (anI @B_ (anI @B5 (anI @BL (anI @FU (anI @OJ (anI @KL (anI @IY (anI @HY (anI @Ku (anI @Ko (anI @Hr (anI @IL (anI @L1 (anI @Jd (anI @KU (anI @JT (anI @K7 (anI @HG (anI @L0 (anI @Je (anI @EM (anI @Ot (anI @N3 (anI @T5 (anI @sets (anI @rep0 (anI @reps (anI @SS (anI @TX (anI @t7 (anI @DC (anI @LD (anI @Iw (anI @N8 (anI @Oc (anI @J8 (anI @JV (anI @zp (anI @A7 (anI @Ke (anI @E_ (anI @LJ (anI @DW (anI @JU (anI @OG (anI @Oi (anI @DP (anI @Fi (anI @IX (anI @BB (anI @Ez (anI @Iu (anI @IK (anI @IU (anI @Ja (@K9)))))))))))))))))))))))))))))))))))))))))))))))))))))))))))))))))))))))))))))))))))))))))))))))))))))))))))))))))))))))))))))))))))))))))))))))))))))))))))))))))))))))))))))))))))
def bools:(∀b:Bool,cond false b b=b)/\(∀(α:Type) (x y:α),cond false x y=y)/\(∀(α:Type) (x y:α),cond true x y=x):=⟨λ_=>rfl,λ_ _ _=>rfl,λ_ _ _=>rfl⟩
def nE:(∀(x:Str) (xs:am),(x::xs).length=xs.length+1)/\([]:am).length=0/\(∀(x:A) (xs:ad),(x::xs).length=xs.length+1)/\([]:ad).length=0:=⟨λ_ _=>rfl,rfl,λ_ _=>rfl,rfl⟩
section
variable {τ:ad}{S:jJ}
def EU {f:ad->jJ->R A}{d:qt}:VJ f d τ S=(d τ S).bind f:=rfl
abbrev WG (c:Str):Unit->jJ->RS:=λ_ S1=>.ex c S1
def LP {c:Str}{u:Unit}:WG c u S=.ex c S:=rfl
def yO {c:Str}{ps:List (Str ⊕ Ex)}:Pu c ps τ S=RS.of (Me ps τ S) (WG c):=rfl
def Ey:Me [] τ S=.ok Unit.unit S:=rfl
def EK {x:Str}{ps:List (Str ⊕ Ex)}:Me (.inl x::ps) τ S=Me ps τ S:=rfl
abbrev WT (ps:List (Str ⊕ Ex))(τ:ad):A->jJ->R Unit:=λv S1=>match v with
 | .int i=>gd (i.natAbs.log2<64) (Me ps τ S1)
 | _=>.no
def Ea {e:Ex}{ps:List (Str ⊕ Ex)}:Me (.inr e::ps) τ S=(e τ S).bind (WT ps τ):=rfl
abbrev RS.try (i n:Nat)(cs:am)(d:Sm):RS->RS
 | .ex x S1=>if x∈cs then OC i (d ((List.replicate n .unb).set i (.exn x)) S1)else .no
 | r=>r
def E9 {i n:Nat}{cs:am}{c d:Sm}:UG i n cs c d τ S=RS.try i n cs d (c τ S):=by
 unfold UG RS.try;cases c τ S<;>rfl
def Ii {i n:Nat}{cs:am}{d:Sm}:RS.try i n cs d (.nx τ S)=.nx τ S:=rfl
def LR {i n:Nat}{cs:am}{d:Sm}{a:A}:RS.try i n cs d (.rt a S)=.rt a S:=rfl
def IW {i n:Nat}{x:Str}{cs:am}{d:Sm}:RS.try i n (x::cs) d (.ex x S)=OC i (d ((List.replicate n .unb).set i (.exn x)) S):=aN (.head _)
def Hq {i:Nat}{a:A}:OC i (.rt a S)=.rt a S:=rfl
def Lx {i:Nat}:OC i (.nx τ S)=.nx (τ.set i .unb) S:=rfl
abbrev SX (f:Str->bd):A->jJ->R A:=λv S1=>match v with
 | .exn x=>opt (f x) λb=>.ok (.bl b) S1
 | _=>.no
def E7 {f:Str->bd}{c:Ex}:V1 f c τ S=(c τ S).bind (SX f):=rfl
def La {x:Str}{b:Bool}{tb:List (Str×Bool)}:SX (W4 ((x,b)::tb)) (.exn x) S=.ok (.bl b) S:=by
 show opt (List.lookup x ((x,b)::tb)) _=_;rw[fS,bQ];rfl
abbrev R.L4 {α β:Type}(r:R α)(f:α->jJ->R β):R β:=match r with
 | .ok a S=>f a S
 | _=>.no
def Bs {α β:Type}{a:α}{f:α->jJ->R β}:R.L4 (.ok a S) f=f a S:=rfl
def Ep {f:ad->jJ->R A}{d:qt}:TR f d τ S=R.L4 (d τ S) f:=by unfold TR R.L4;cases d τ S<;>rfl
abbrev RS.Vw {α:Type}(r:R α)(f:α->jJ->RS):RS:=match r with
 | .ok a S=>f a S
 | _=>.no
def Ld {α:Type}{a:α}{f:α->jJ->RS}:RS.Vw (.ok a S) f=f a S:=rfl
def DK {t:Te}{c d:Sm}:SQ t c d τ S=RS.Vw (t τ S) (UY c d τ):=by
 unfold SQ RS.Vw
 cases t τ S with
 | ok b S1=>cases b<;>rfl
 | ex _ _=>rfl
 | no=>rfl
abbrev RS.LC (i:Nat)(cs:am)(d:Sm)(τ:ad):RS->RS
 | .ex x S1=>if x∈cs then OC i (d (τ.set i (.exn x)) S1)else .no
 | r=>r
def Be {i:Nat}{cs:am}{c d:Sm}:OM i cs c d τ S=RS.LC i cs d τ (c τ S):=by
 unfold OM RS.LC;cases c τ S<;>rfl
def Fd {i:Nat}{cs:am}{d:Sm}{τ':ad}:RS.LC i cs d τ (.nx τ' S)=.nx τ' S:=rfl
def Ec {i:Nat}{cs:am}{d:Sm}{a:A}:RS.LC i cs d τ (.rt a S)=.rt a S:=rfl
def E6 {i:Nat}{x:Str}{cs:am}{d:Sm}:RS.LC i (x::cs) d τ (.ex x S)=OC i (d (τ.set i (.exn x)) S):=aN (.head _)
def B8:A.AJ []=some []:=rfl
def vd {b:Bool}{xs:ad}:A.AJ (.bl b::xs)=(A.AJ xs).map (b::·):=rfl
end
def yT:type_of% (anI @EU (anI @yO (anI @LP (anI @Ey (anI @EK (anI @Ea (anI @E9 (anI @Ii (anI @LR (anI @IW (anI @Hq (anI @Lx (anI @E7 (anI @La (anI @B8 (anI @vd (anI @Bs (anI @Ep (anI @Ld (anI @DK (anI @Be (anI @Fd (anI @Ec (anI @E6 (trivial))))))))))))))))))))))))):=anI @EU (anI @yO (anI @LP (anI @Ey (anI @EK (anI @Ea (anI @E9 (anI @Ii (anI @LR (anI @IW (anI @Hq (anI @Lx (anI @E7 (anI @La (anI @B8 (anI @vd (anI @Bs (anI @Ep (anI @Ld (anI @DK (anI @Be (anI @Fd (anI @Ec (anI @E6 (trivial))))))))))))))))))))))))
end Am
namespace L2
open PySem PySem.Spec PyProof.Rows
section
variable {P:aj}{w:ah}{A:aA}{E:af->aC->Prop}{s:aC}{it d:ak}{i ep:Nat}{es:Array DictEntry}{o:Obj}
def QY{Q:ba->aC->Prop}(hi:s.heap.IsKeyIter it d i es.size ep)(ho:s.heap.get? d=some o)(hd:o.data=.dict es ep)(lt:i<es.size)
  (q:∀h',h'.IsKeyIter it d (i+1) es.size ep->Heap.SameBut it s.heap h'->Q (some es[i].key) { s with heap:=h' }):wpAny (model P w) A (pyNext (.ref it)) Q E s:=by
 have ty:=hi.typeIs;obtain⟨oi,hoi,hci,hdi⟩:=id hi;have own:Builtin.Dict_items.ownsTuple "dict_keyiterator" = false:=by decide
 kpc_g;have n0:¬((i:Int)<0):=by omega
 unfold pyNext;refine aG (fG (cN (name:=Str.ofString "__next__") ty cT (bT cT ty gc ?_ (f6 _))));refine aG (aJ (aG (aG ?_)))
 first
  | refine aG (dP ty (aJ (aG (dD hoi hdi ?_))))
  | refine aG (eO ty (aJ (aG (dD hoi hdi ?_))))
 dsimp[own,bZ,bA];show wpAny (model P w) _ (if (Value.ref d == Value.none)=true then _ else _) _ _ s;rw[aM nn];cb_eq;kcj_m;o_rec;kcj_m;refine aJ ?_;dsimp[n0,bZ,cu,cQ lt];refine aG ?_
 first
  | refine aG (dP ty (aJ (aG (gY ty ?_))))
  | refine aG (eO ty (aJ (aG (gY ty ?_))))
 show wpAny (model P w) _ (setField (.ref it) 1 (rawInt ((i:Int)+1)) >>= _) _ _ s;refine aG (gH hoi hdi (show _ by simp) ?_);have hi':(s.heap.update it (Obj.mapFields λfs=>fs.setIfInBounds 1 (rawInt ((i:Int)+1)))).IsKeyIter it d (i+1) es.size ep:=
  ⟨_,gW _ hoi (Obj.isFreed_of_fields (gu hdi _)),(Obj.cls_mapFields ..).trans hci,by
   rw[gu hdi];simp[rawInt]⟩
 have ty':Shared.TypeIs { s with heap:=s.heap.update it (Obj.mapFields λfs=>fs.setIfInBounds 1 (rawInt ((i:Int)+1)))} (.ref it) "dict_keyiterator" := Heap.IsKeyIter.typeIs (s:={ s with heap:=_ }) hi';refine aG (dg (aG (gY ty' ?_)))
 skip
 exact aJ (aJ ⟨_,rfl,aJ (q _ hi' (eW ..))⟩)
def Ms{Q:ba->aC->Prop}(hh:A.handled=none)(hi:s.heap.IsKeyIter it d i es.size ep)(ho:s.heap.get? d=some o)(hd:o.data=.dict es ep)(ge:es.size<=i)
  (q:∀h',Heap.ExtBut it s.heap h'->Q none { s with heap:=h' }):wpAny (model P w) A (pyNext (.ref it)) Q E s:=by
 have ty:=hi.typeIs;obtain⟨oi,hoi,hci,hdi⟩:=id hi;have own:Builtin.Dict_items.ownsTuple "dict_keyiterator" = false:=by decide
 kpc_g;have n0:¬((i:Int)<0):=by omega
 unfold pyNext;refine aG (fG (cN (name:=Str.ofString "__next__") ty cT (bT cT ty gc ?_ (f6 _))));refine aG (aJ (aG (aG ?_)))
 first
  | refine aG (dP ty (aJ (aG (dD hoi hdi ?_))))
  | refine aG (eO ty (aJ (aG (dD hoi hdi ?_))))
 dsimp[own,bZ,bA];show wpAny (model P w) _ (if (Value.ref d == Value.none)=true then _ else _) _ _ s;rw[aM nn];cb_eq;kcj_m;o_rec;kcj_m;refine aJ ?_;dsimp[n0,bZ,cu,dF ge];refine aG ?_
 first
  | refine aG (dP ty (aJ ?_))
  | refine aG (eO ty (aJ ?_))
 show wpAny (model P w) _ (setField (.ref it) 0 .none >>= _) _ _ s;refine aG (gH hoi hdi (show _ by simp) ?_)
 skip
 refine aG ?_;dsimp[newExc,newTuple];refine aG (bC (aG (m:=firstArgMember _ _) (wpAny_of_eq (a:=Value.none) (by first|rfl|(dsimp[firstArgMember];rfl)) (bC ?_ (by size_fits)))) (by size_fits));dsimp[raiseNew];have hn:A.in1.handled=none:=hh;refine aG (wpAny_handled (?_));rw[hn];refine aG (aJ (wpAny_throw (?_)));kj_on
def C8{Q:af->aC->Prop}(ty:s.TypeIs (.ref d) "dict")(hs:(d == sysModules)=false)(ho:s.heap.get? d=some o)(hd:o.data=.dict es ep)
  (q:Q (.ref s.heap.objs.size) { s with heap:=s.heap.push { cls:=.type "dict_keyiterator",data:=.fields #[.ref d,.int 0 0,.int es.size 0,.int ep 0]}}):wpAny (model P w) A (pyIter (.ref d)) Q E s:=by
 refine gI ty PySem.F.slot_dict_iter (bT PySem.F.slot_dict_iter ty PySem.F.entry_dict_iter ?_ (PySem.F.args_dict_iter_1 _));delta Builtin.«dict.__iter__»;refine aG ?_;delta Builtin.Dict.dictSlotNone;refine aG (gX ty ?_)
 skip
 refine aJ ?_;show wpAny (model P w) _ (Builtin.Dict.showsAll d >>= _) _ _ s;delta Builtin.Dict.showsAll;have nd:¬((d == sysModules)=true):=by rw[hs];exact aY
 rw[aM nd];refine aG (aJ (aG (c9 ho hd (aG (dH ho hd ?_)))));refine aG (bC (aJ ⟨_,rfl, "dict_keyiterator",_,⟨_,bg _ rfl,rfl⟩,cT.lookup,?_⟩));simpa[rawInt]using q
end
section
variable {P:aj}{w:ah}
def Gw{A:aA}(hh:A.handled=none)(it d:ak)(ne:d≠it){es:Array DictEntry}{o:Obj}(hd:o.data=.dict es ep) :
  Walks P w A it [it,d] [it] es.size (λi v=>(es[i]?).map (λe=>e.key)=some v) (λi h=>h.IsKeyIter it d i es.size ep/\h.get? d=some o) where
 sub:=λb hb=>by
  rw[bh.mp hb];exact aR ..
 frame:=λ_ _ _ st hk=>⟨st.1.at λx e=>hk it (aR ..) x e,hk d (aT _ (aR ..)) o st.2⟩
 item:=λi s Q E lt st q=>QY st.1 st.2 hd lt λh' k1 k2=>q _ h' s.toks (by rw[cQ lt];rfl) ⟨k1,k2.extBut d o ne st.2⟩ λb x nb e=>k2.extBut b x (λz=>nb (bh.mpr z)) e
 done:=λs Q E st q=>Ms hh st.1 st.2 hd (aP _) λh' k=>q h' s.toks λb x nb e=>k b x (λz=>nb (bh.mpr z)) e
 self:=λ_ _ _ _ st q=>wpAny_pyIter_keyiter st.1 q
def MR{es:Array DictEntry}{o:Obj}(hs:(d == sysModules)=false)(hc:o.cls=.type "dict")(hd:o.data=.dict es ep) :
  PySem.W.KdlSrc P w "dict" d d es.size (λi v=>(es[i]?).map (λe=>e.key)=some v) (λh=>h.get? d=some o) where
 type:=λ_ hm=>⟨o,hm,hc⟩
 there:=λ_ hm=>⟨aX hm,aX hm⟩
 keep:=λ_ _ hm hk=>hk d (.inl rfl) o hm
 notList:=by decide
 notTuple:=by decide
 hint:=λ_ _ _ _ hm hq=>PySem.W.kdl_hint_dict ⟨o,hm,hc⟩ hq
 iter:=λ_ s hh hm=>⟨_,_,(λ_ _ hq=>C8 ⟨o,hm,hc⟩ hs hm hd hq),Gw hh _ d (bD (aX hm)) hd,⟨⟨_,bg _ rfl,rfl,rfl⟩,aO _ hm⟩⟩
end
section
variable {X:Cx}
def Qu{H:Hp}{s:aC}{kvs:List (List Key×V)}(I:Inv X pins σ H s)(ed:H d=some (.dT kvs)) :
  ∃(ob:Obj) (es:Array DictEntry) (ep:Nat) (rs:ar),s.heap.get? d=some ob/\ob.cls=.type "dict" /\ ob.data=.dict es ep/\(d == sysModules)=false/\kvs.length<=sizeLine/\rs.length=kvs.length/\es.size=kvs.length /\
   (∀i:Nat,(es[i]?).map (λe:DictEntry=>e.key)=(rs[i]?).map Value.ref)/\∀(i:Nat) r p,rs[i]?=some r->kvs[i]?=some p->H r=some (.tup (p.1.map kV)):=by
 obtain⟨z,hd,xs,rel,dd⟩:=Ce I.hok ed;obtain⟨ob,es,ep,g1,g2,g3,g4,g5,g6⟩:=id dd;obtain⟨kl,kt⟩:=kt_at rel;have hes:es.size=xs.length:=by have:=dJ List.length g4;simpa using this
 refine⟨ob,es,ep,xs.map λy=>y.2.1,g1,g2.1,g3,hd,z,by rw[aL,kl],by rw[hes,kl],λi=>?_,λi r p e1 e2=>?_⟩
 ·rw[<- cZ,g4,aQ,aQ,jA,jA]
  cases xs[i]?<;>rfl
 ·obtain⟨y,h1,h2,h3,h4⟩:=kt i p e2;rw[aQ,h1]at e1
  cases e1
  exact h3
end
section
variable {P:aj}{w:ah}{A:aA}{E:af->aC->Prop}{s:aC}{it d:ak}{i ep:Nat}{es:Array DictEntry}{o:Obj}
def PM{Q:ba->aC->Prop}(hi:s.heap.IsValIter it d i es.size ep)(ho:s.heap.get? d=some o)(hd:o.data=.dict es ep)(lt:i<es.size)
  (q:∀h',h'.IsValIter it d (i+1) es.size ep->Heap.SameBut it s.heap h'->Q (some es[i].val) { s with heap:=h' }):wpAny (model P w) A (pyNext (.ref it)) Q E s:=by
 have ty:=hi.typeIs;obtain⟨oi,hoi,hci,hdi⟩:=id hi;have own:Builtin.Dict_items.ownsTuple "dict_valueiterator" = false:=by decide
 kpc_g;have n0:¬((i:Int)<0):=()
 unfold pyNext;refine aG (fG (cN (name:=Str.ofString "__next__") ty cJ (bT cJ ty fW ?_ (fR _))));refine aG (aJ (aG (aG ?_)));refine aG (dQ ty (aJ (aG (dD hoi hdi ?_))));dsimp[own,bZ,bA];show wpAny (model P w) _ (if (Value.ref d == Value.none)=true then _ else _) _ _ s;rw[aM nn];cb_eq;kcj_m;o_rec;kcj_m;refine aJ ?_;dsimp[n0,bZ,cu,cQ lt];refine aG (aG (dQ ty (aJ (aG (gZ ty ?_)))));show wpAny (model P w) _ (setField (.ref it) 1 (rawInt ((i:Int)+1)) >>= _) _ _ s;refine aG (gH hoi hdi (show _ by simp) ?_);have hi':(s.heap.update it (Obj.mapFields λfs=>fs.setIfInBounds 1 (rawInt ((i:Int)+1)))).IsValIter it d (i+1) es.size ep:=
  ⟨_,gW _ hoi (Obj.isFreed_of_fields (gu hdi _)),(Obj.cls_mapFields ..).trans hci,by
   rw[gu hdi];simp[rawInt]⟩
 have ty':Shared.TypeIs { s with heap:=s.heap.update it (Obj.mapFields λfs=>fs.setIfInBounds 1 (rawInt ((i:Int)+1)))} (.ref it) "dict_valueiterator" := Heap.IsValIter.typeIs (s:={ s with heap:=_ }) hi';refine aG (dg (aG (gZ ty' (aG (gZ ty' ?_)))));show wpAny (model P w) _ (pure es[i].val) _ _ _;exact aJ (aJ ⟨_,rfl,aJ (q _ hi' (eW ..))⟩)
def My{Q:ba->aC->Prop}(hh:A.handled=none)(hi:s.heap.IsValIter it d i es.size ep)(ho:s.heap.get? d=some o)(hd:o.data=.dict es ep)(ge:es.size<=i)
  (q:∀h',Heap.ExtBut it s.heap h'->Q none { s with heap:=h' }):wpAny (model P w) A (pyNext (.ref it)) Q E s:=by
 have ty:=hi.typeIs;obtain⟨oi,hoi,hci,hdi⟩:=id hi;have own:Builtin.Dict_items.ownsTuple "dict_valueiterator" = false:=by decide
 kpc_g;have n0:¬((i:Int)<0):=()
 unfold pyNext;refine aG (fG (cN (name:=Str.ofString "__next__") ty cJ (bT cJ ty fW ?_ (fR _))));refine aG (aJ (aG (aG ?_)));refine aG (dQ ty (aJ (aG (dD hoi hdi ?_))));dsimp[own,bZ,bA];show wpAny (model P w) _ (if (Value.ref d == Value.none)=true then _ else _) _ _ s;rw[aM nn];cb_eq;kcj_m;o_rec;kcj_m;refine aJ ?_;dsimp[n0,bZ,cu,dF ge];refine aG (aG (dQ ty (aJ ?_)));show wpAny (model P w) _ (setField (.ref it) 0 .none >>= _) _ _ s;refine aG (gH hoi hdi (show _ by simp) ?_);show wpAny (model P w) _ (newExc (.type "StopIteration") [] >>= _) _ _ _;refine aG ?_;dsimp[newExc,newTuple];refine aG (bC (aG (m:=firstArgMember _ _) (wpAny_of_eq (a:=Value.none) (by first|rfl|(dsimp[firstArgMember];rfl)) (bC ?_ (by size_fits)))) (by size_fits));dsimp[raiseNew];have hn:A.in1.handled=none:=hh;refine aG (wpAny_handled (?_));rw[hn];refine aG (aJ (wpAny_throw (?_)));kj_on
def Dj{v:ak}{Q:af->aC->Prop}(hv:s.heap.IsValuesView v d)(ho:s.heap.get? d=some o)(hd:o.data=.dict es ep)
  (q:Q (.ref s.heap.objs.size) { s with heap:=s.heap.push { cls:=.type "dict_valueiterator",data:=.fields #[.ref d,.int 0 0,.int es.size 0,.int ep 0]}}):wpAny (model P w) A (pyIter (.ref v)) Q E s:=by
 obtain⟨ov,hov,hcv,hdv⟩:=id hv;refine gI hv.typeIs iE (bT iE hv.typeIs PySem.F.entry_dict_values_iter ?_ (PySem.F.args_dict_values_iter_1 _));delta Builtin.«dict_values.__iter__»;refine aG (aJ (aG ?_));delta Builtin.Dict_items.dictOf;refine aG (dZ hov hdv (x:=.ref d) rfl (aJ (aG ?_)));delta Builtin.Dict_items.newIterator;refine aG (c9 ho hd (aG (dH ho hd ?_)));have own:Builtin.Dict_items.ownsTuple "dict_valueiterator" = false:=by decide
 dsimp[own,bA,bZ];refine bC (aJ ⟨_,rfl, "dict_valueiterator",_,⟨_,bg _ rfl,rfl⟩,cJ.lookup,?_⟩);simpa[rawInt]using q
def C7{Q:af->aC->Prop}(ty:s.TypeIs (.ref d) "dict")(hd:(d == sysModules)=false)
  (q:Q (.ref s.heap.objs.size) { s with heap:=s.heap.push { cls:=.type "dict_values",data:=.fields #[.ref d]}}):wpAny (model P w) A (call (.builtin "dict.values") [.ref d]) Q E s:=by
 refine bT PySem.F.slot_dict_values ty PySem.F.entry_dict_values ?_ (PySem.F.args_dict_values_1 _);delta Builtin.«dict.values»;refine aG ?_;delta Builtin.Dict.noArgs;refine aG (gX ty ?_);show wpAny (model P w) _ (pure d) _ _ s;refine aJ ?_;show wpAny (model P w) _ (Builtin.Dict.showsAll d >>= _) _ _ s;delta Builtin.Dict.showsAll;have nd:¬((d == sysModules)=true):=by rw[hd];exact aY
 rw[aM nd];exact aG (aJ (aG (bC (aJ ⟨_,rfl,q⟩))))
end
section
variable {P:aj}{w:ah}
def GS{A:aA}(hh:A.handled=none)(it d:ak)(ne:d≠it){es:Array DictEntry}{o:Obj}(hd:o.data=.dict es ep) :
  Walks P w A it [it,d] [it] es.size (λi v=>(es[i]?).map (λe=>e.val)=some v) (λi h=>h.IsValIter it d i es.size ep/\h.get? d=some o) where
 sub:=λb hb=>by
  rw[bh.mp hb];exact aR ..
 frame:=λ_ _ _ st hk=>⟨let⟨x,e,r⟩:=st.1;⟨x,hk it (aR ..) x e,r⟩,hk d (aT _ (aR ..)) o st.2⟩
 item:=λi s Q E lt st q=>PM st.1 st.2 hd lt λh' k1 k2=>q _ h' s.toks (by rw[cQ lt];rfl) ⟨k1,k2.extBut d o ne st.2⟩ λb x nb e=>k2.extBut b x (λz=>nb (bh.mpr z)) e
 done:=λs Q E st q=>My hh st.1 st.2 hd (aP _) λh' k=>q h' s.toks λb x nb e=>k b x (λz=>nb (bh.mpr z)) e
 self:=λ_ _ _ _ st q=>wpAny_pyIter_valiter st.1 q
def MV{r:ak}{es:Array DictEntry}{o:Obj}(hd:o.data=.dict es ep) :
  PySem.W.KdlSrc P w "dict_values" r d es.size (λi v=>(es[i]?).map (λe=>e.val)=some v) (λh=>h.IsValuesView r d/\h.get? d=some o) where
 type:=λ_ hm=>hm.1.typeIs
 there:=λ_ hm=>⟨let⟨_,ho,_⟩:=hm.1;aX ho,aX hm.2⟩
 keep:=λ_ _ hm hk=>⟨let⟨o,ho,x⟩:=hm.1;⟨o,hk r (.inl rfl) o ho,x⟩,hk d (.inr rfl) o hm.2⟩
 notList:=by decide
 notTuple:=by decide
 hint:=λ_ _ _ _ hm hq=>PySem.W.kdl_hint_values hm.1.typeIs hq
 iter:=λ_ s hh hm=>⟨_,_,(λ_ _ hq=>Dj hm.1 hm.2 hd hq),GS hh _ d (bD (aX hm.2)) hd,⟨⟨_,bg _ rfl,rfl,rfl⟩,aO _ hm.2⟩⟩
end
section
variable {X:Cx}
def N1{H:Hp}{s:aC}{kvs:List (List Key×V)}(I:Inv X pins σ H s)(ed:H d=some (.dT kvs)) :
  ∃(ob:Obj) (es:Array DictEntry) (ep:Nat) (us:ap),s.heap.get? d=some ob/\ob.cls=.type "dict" /\ ob.dict=none/\ob.data=.dict es ep/\(d == sysModules)=false/\kvs.length<=sizeLine/\es.size=kvs.length/\Vals (kvs.map (·.2)) us/\∀i:Nat,(es[i]?).map (λe:DictEntry=>e.val)=us[i]?:=by
 obtain⟨z,hd,xs,rel,dd⟩:=Ce I.hok ed;obtain⟨ob,es,ep,g1,g2,g3,g4,g5,g6⟩:=id dd;have hes:es.size=xs.length:=by have:=dJ List.length g4;simpa using this
 refine⟨ob,es,ep,xs.map (·.2.2),g1,g2.1,g2.2.1,g3,hd,z,by rw[hes,(kt_at rel).1],?_,λi=>?_⟩
 ·clear g4 g5 g6 dd hes ed z
  induction rel with
  | nil=>exact .nil
  | cons a _ ih=>exact .cons a.2.2 ih
 ·rw[<- cZ,g4,aQ,aQ,jA]
  cases xs[i]?<;>rfl
def C3(hc:X.calm=true):j5 X (.type "list") (λxs H Q=>∃(d:ak) (kvs:List (List Key×V)),xs=[.ref d]/\H d=some (.dT kvs) /\
  ∀(rs:ar) l,rs.length=kvs.length->(∀(i:Nat) r p,rs[i]?=some r->kvs[i]?=some p->H r=some (.tup (p.1.map kV)))->H l=none->Q (.ref l) (upd H l (.lst (rs.map V.ref)))):=by
 w_up;obtain⟨d,kvs,rfl,ed,q⟩:=h;kcf_m
 cases rx
 obtain⟨ob,es,ep,rs,g1,g2,g3,g4,g5,g6,g7,g8,g9⟩:=Qu I ed;refine PySem.W.kdl_call (MR g4 g2 g3) (I.ok.hd hc) g1 (by rw[g7];exact g5) λh' tk acc c' hk hl hacc=>?_;have ea:acc.toList=rs.map Value.ref:=by
  refine bW λj=>?_;rw[cZ,aQ,<- g8 j]
  cases e:acc[j]? with
  | some v=>exact(hacc.2 j v e).symm
  | none=>
   have:acc.size<=j:=iZ.mp e;rw[dF (by rw[<- hacc.1];exact this)];rfl
 refine⟨.ref s.heap.objs.size,_,I.laid (o:=.lst (rs.map V.ref)) (t':=tk) hk (aP _) ⟨by rw[aL,g6];exact g5,rs.map Value.ref,c',vB rs,by rw[<- ea];simpa using hl⟩,rfl,q rs _ g6 g9 I.fresh⟩
abbrev WY (to:TE):TE:=λσ H Q=>to σ H λx H1=>∃d kvs,x=.ref d/\H1 d=some (.dT kvs)/\∀(r:ak) (o:Obj),o.cls=.type "dict_values" -> o.data=.fields #[.ref d]->H1 r=none->Q (.ref r) (upd H1 r (.frz o (.own r)))
def M7{apos cpos:Pos}{e:aE}{to:TE}(he:PE X e to)(hbase:attributeBase e "values" X.env (eval e X.env)=eval e X.env:=by rfl)(hline:(apos.endLine == cpos.line)=true:=by rfl) :
  PE X (.Call (.Attribute e "values" apos) [] [] cpos) (WY to):=by
 x_go;refine gC hbase hline (kR (he pins s σ H _ I h) λv s1 h9=>?_);obtain⟨x,H1,I1,r1,d,kvs,ex,ed,q1⟩:=h9;subst ex
 cases r1
 obtain⟨ob,es,ep,us,g1,g2,g3,g4,g5,_⟩:=N1 I1 ed;refine⟨"dict", "dict.values",PySem.F.plainAttrs_dict,PySem.F.slot_dict_values,PySem.F.type_dict_values,⟨ob,g1,g2⟩,λa ea=>?_,dB rfl (iP (C7 ⟨ob,g1,g2⟩ g5 ?_))⟩
 ·cases ea
  exact⟨ob,g1,g3⟩
 have hn:(s1.heap.push { cls:=.type "dict_values",data:=.fields #[.ref d]}).get? s1.heap.objs.size=some { cls:=.type "dict_values",data:=.fields #[.ref d]}:=bg _ rfl;exact⟨.ref s1.heap.objs.size,_,I1.laid (o:=.frz { cls:=.type "dict_values",data:=.fields #[.ref d]} (.own s1.heap.objs.size)) (t':=s1.toks) (λb o eb=>aO _ eb) (aP _) ⟨hn,_,hn⟩,rfl,q1 _ _ rfl rfl I1.fresh⟩
def Cz(hc:X.calm=true):j5 X (.type "list") (λxs H Q=>∃(r d:ak) (o:Obj) (u:HO) (kvs:List (List Key×V)),xs=[.ref r]/\H r=some (.frz o u)/\o.cls=.type "dict_values" /\ o.data=.fields #[.ref d]/\H d=some (.dT kvs) /\
  ∀l,H l=none->Q (.ref l) (upd H l (.lst (kvs.map (·.2))))):=by
 w_up;obtain⟨r',d,o,u,kvs,rfl,er,oc,od,ed,q⟩:=h;obtain⟨v,rfl,rx⟩:=vals1 r
 cases rx
 obtain⟨ob,es,ep,us,g1,g2,g3,g4,g5,g6,g7,g8,g9⟩:=N1 I ed;have ho:s.heap.get? r'=some o:=(show kP _ _ H s.heap r' (.frz o u)from I.hok r' _ er).1;refine PySem.W.kdl_call (MV g4) (I.ok.hd hc) ⟨⟨o,ho,oc,od⟩,g1⟩ (by rw[g7];exact g6) λh' tk acc c' hk hl hacc=>?_;have ea:acc.toList=us:=by
  refine bW λj=>?_;rw[cZ,<- g9 j]
  cases e:acc[j]? with
  | some v=>exact(hacc.2 j v e).symm
  | none=>
   have:acc.size<=j:=iZ.mp e;rw[dF (by rw[<- hacc.1];exact this)];rfl
 refine⟨.ref s.heap.objs.size,_,I.laid (o:=.lst (kvs.map (·.2))) (t':=tk) hk (aP _) ⟨by rw[aL];exact g6,us,c',g8,by rw[<- ea];simpa using hl⟩,rfl,q _ I.fresh⟩
end
end L2
namespace Am
open PySem PySem.Spec PyProof.Rows L2
section
abbrev Tf (p:ae×A):A:=.tup (p.1.map .int)
end
section
@[irreducible] noncomputable def big:Nat:=2 ^ 4096
end
abbrev kA (p:Int×Int):A:=.ktu [.int p.1,.int p.2]
section
variable {X:Cx}
abbrev IP (x:A)(S:jJ):R A:=match x with
 | .ref n=>opt (j8 S n) λkvs=>.ok (.ref S.length) (S++[.lst (kvs.map Tf)])
 | _=>.no
def MD(hc:X.calm=true):j5 X (.type "list") (rN X (f1 IP)):=j5.imp (C3 hc) λvs H Q h0=>by
 kd_p;clear h0
 cases hv with
 | ref hp=>
  rename_i p n;obtain⟨kvs,hn,h⟩:=jK h;obtain⟨ks,g1,dv⟩:=R.dct hp (nh hn);refine⟨p,ks,rfl,g1,λrs l hl hh hl'=>?_⟩;have dl:=dv.length;have av:AVs X.K ρ H (kvs.map Tf) (rs.map V.ref):=by
   have e1:kvs.map Tf=(List.range rs.length).map λi=>Tf (kvs.getD i ([],.non)):=by
    refine iy (by simp[hl,dl]) λi h1 h2=>?_;simp at h1;simp[aH h1]
   have e2:rs.map V.ref=(List.range rs.length).map λi=>V.ref (rs.getD i 0):=by
    refine iy (by simp) λi h1 h2=>?_;simp at h1;simp[aH h1]
   rw[e1,e2];refine Dk λi hi=>?_;have hi:=cU.mp hi;have h1:i<kvs.length:=by rw[dl,<- hl];exact hi
   obtain⟨q,hq,q1,_⟩:=KN dv (aH h1);have:=hh i _ q (aH hi) hq;rw[q1,wF]at this;rw[aI,aH h1,aI,aH hi];exact .tup this (nS _)
  exact lK R av .refl h l hl'
 | _=>exact h.elim
abbrev Tc (a:A)(S:jJ):R A:=match a with
 | .ref n=>opt (j8 S n) λkvs=>.ok (.ref S.length) (S++[.lst (kvs.map (·.2))])
 | _=>.no
abbrev Tw (c:Ex):Ex:=λτ S=>(c τ S).bind λa S1=>Tc a S1
theorem Ho{K:au}{H:Hp}:∀{kvs:List (ae×A)}{ks:List (List Key×V)},DV K ρ H kvs ks->AVs K ρ H (kvs.map (·.2)) (ks.map (·.2))
 | [],[],_=>.nil
 | _::_,_::_,⟨z,t⟩=>.cons z.2 (Ho t)
def Lc{x:Str}{p apos cpos:Pos}{e:aE}{c:Ex}(hc:X.calm=true)(hm:X.mg x=none)(hv:bootBuiltins x=some (.type "list"))(ha:AE X e c)(hg:Gl X x:=by rfl)(hn:x ≠ "__name__" := by decide)(hdb:(x == ("__debug__" : Str))=false:=by decide)
  (hbase:attributeBase e "values" X.env (eval e X.env)=eval e X.env:=by rfl) (hline:(apos.endLine == cpos.line)=true:=by rfl)
  (he:starEach [.Call (.Attribute e "values" apos) [] [] cpos] X.env=(false,eval (.Call (.Attribute e "values" apos) [] [] cpos) X.env)::starEach [] X.env:=by rfl) (hpl:(backTo pos (starEach [] X.env)).any (·.1)=false:=by rfl) :
  AE X (.Call (.Name x p) [.Call (.Attribute e "values" apos) [] [] cpos] [] pos) (Tw c):=
 PE.imp (yK (Cz hc) hg hm hv (uw (M7 ha hbase hline) zB he) hn hdb he hpl) λσ H Q h9=>by
  room;refine⟨ρ,S,τ,R,r,jH (jM h) .refl λa S1 h1 ρ1 H1 v e1 R1 v1=>?_⟩
  cases v1 with
  | ref hp=>
   rename_i p' n;obtain⟨kvs,hn,h1⟩:=jK h1;obtain⟨ks,g1,dv⟩:=R1.dct hp (nh hn);refine⟨p',ks,rfl,g1,λr' o oc od hr=>?_⟩;obtain⟨ex,R2⟩:=R1.im (u:=.frz o (.own r')) hr;exact⟨r',p',o,_,ks,rfl,kq,oc,od,by rw[jR (j3 g1 hr)];exact g1,lK R2 ((Ho dv).ext ex) (e1.trans ex) h1⟩
  | _=>exact h1.elim
end
abbrev um (o:A)(as:ad)(S:jJ):R A:=match o,as with
 | .ref n,[x]=>(match x with
  | .int b=>opt (jF S n) λxs=>opt (A.ints xs) λbs=>.ok (.int (bs.countP (· == b):Nat)) S
  | _=>.no)
 | _,_=>.no
abbrev isIn (b:Int):af->Bool
 | .int c _=>c == b
 | _=>false
theorem L6(b:Int):∀{bs:ae}{its:ap},Vals (bs.map V.int) its->its.countP (isIn b)=bs.countP (· == b)/\∀z∈its,∃c t,z=.int c t
 | [],_,.nil=>⟨rfl,nofun⟩
 | c::bs,_::its,.cons r rs=>by
  obtain⟨h1,h2⟩:=L6 b (bs:=bs) rs;obtain⟨t,rfl⟩:=r;refine⟨by rw[bO,bO,h1];rfl,λz hz=>?_⟩
  rcases bL.mp hz with rfl|hz
  ·exact⟨c,t,rfl⟩
  ·exact h2 z hz
section
variable {X:Cx}
def Kz(hu:X.A.units+64<cLine):II X "list.count" (rM X um):=λpins s σ H x vs v us Q I rx rv h9=>by
 obtain⟨ρ,S,o,as,R,vo,va,h⟩:=h9
 cases vo with
 | @ref p n hp=>
  match as,va,h with
  | [],_,h=>exact h.elim
  | _::_::_,_,h=>exact h.elim
  | [y],va,h=>
   cases y with
   | int b=>
    obtain⟨w,rfl,hw⟩:=CA va;kt_k;obtain⟨bs,hbs,h⟩:=jK h;obtain⟨ws,h1,r⟩:=R.lst hp (jT hn)
    cases rx
    obtain⟨u,rfl,ru⟩:=rv.one;obtain⟨its,rv,pl,hsz⟩:=I.list (nB.of h1);obtain⟨⟨cls,dd,data,sl⟩,ho,hc,nn,hd⟩:=id pl.isList;simp only at hc hd;subst hc hd;have ew:=qf r hbs;subst ew;obtain⟨c1,c2⟩:=L6 b rv;refine fM F.slot_list_count ⟨_,ho,rfl⟩ F.entry_list_count (F.args_list_count_2 _ _) (SeqAt.list_countAt p its.toArray nn dd sl u (isIn b)) ⟨ho,λz hz=>?_,.int (bs.countP (· == b):Nat),H,I.tok _,⟨s.toks,by rw[List.toList_toArray,c1]⟩,h _ _ _ .refl R (.int _)⟩
    ·obtain⟨c,t,rfl⟩:=c2 z (List.mem_toArray.mp hz);exact(AR I R 12 X.A.in1 (.int c) (.int b) (.int c) w (.int c t) u (c == b) (by rw[in1_units];lia) (.int c) hw ⟨t,rfl⟩ ru rfl).2.1
   | _=>exact h.elim
 | _=>exact h.elim
end
abbrev Df (K:au)(x:Str)(st:aF):Prop:=∃(f:ak) (fd:FuncData),PySem.W.nsIn K mainGlobals x=some (some (.ref f))/\Fun K x x st f fd
inductive En (P:aj) (w:ah) (K:au) (mg:Str->ba) (base:aq):Prop
 | mk (h:aq) (X:K.In h) (G:h.Ns mainGlobals mg)
section
variable {P:aj}{w:ah}{K:au}{mg:Str->ba}{base:aq}{x:Str}{st:aF}{ps:am}{k:Nat}{F:ad->jJ->R A}
def En.at(E:En P w K mg base){f:ak}(h:PySem.W.nsIn K mainGlobals x=some (some (.ref f))):mg x=some (.ref f):=by
 obtain⟨_,X,G⟩:=E;exact gf X G h
def Df.of{f:ak}{kV pm ct:af}(a:PySem.W.nsIn K mainGlobals x=some (some (.ref f)))(l:K.lookup f=some ⟨oc,od,.func (PySem.W.fnOf x x (sA st) (o5 st) (jS st) .none kV doc pm an cdv ct),osl⟩)(c:PySem.W.codeIn K cdv x=true)(k:PySem.W.keepIn K (.ref f)=true):Df K x st:=⟨f,_,a,Qp l c k⟩
meta abbrev Bi (x:Str)(st:aF)(ps:am):Prop:=∀us:ap,us.length=ps.length->∀(kV doc pm:af) (an:Option ak) (cdv ct:af),bindArgs (PySem.W.fnOf x x (sA st) (o5 st) (jS st) .none kV doc pm an cdv ct) ⟨us,[]⟩=pure (ps.zip us)
def Df.get(d:Df K x st)(E:En P w K mg base)(b:Bi x st ps):∃f fd,Fun K x x st f fd/\mg x=some (.ref f)/\PySem.W.keepIn K (.ref f)=true/\Binds K fd ps []:=by
 obtain⟨f,fd,a,F⟩:=d;exact⟨f,fd,F,E.at a,F.kp,F.binds λkV doc pm an cdv ct us hl=>b us hl kV doc pm an cdv ct⟩
def Df.kA(d:Df K x st)(E:En P w K mg base)(h:∀{f fd},Fun K x x st f fd->FnOk P w K mg base qy k f fd ps (rz K ps.length F))(b:Bi x st ps):qK P w K mg base k x ps F:=by
 obtain⟨f,fd,a,c,e,g⟩:=d.get E b;exact⟨f,fd,h a,c,e,g⟩
end
section
variable {X:Cx}{pos p:Pos}{e1 e2 e3:aE}{x p1 p2 p3:Str}{k K0:Nat}{F:ad->jJ->R A}{c1 c2 c3:Ex}
def Ar(G:qK X.prog X.w X.K X.mg X.base k x [p1] F)(hr:Room K0 X.A)(h1:AE X e1 c1)(hk:k<=K0:=by decide)(hg:Gl X x:=by rfl)(hdb:(x == ("__debug__" : Str))=false:=by decide)(s1:starEach [e1] X.env=(false,eval e1 X.env)::starEach [] X.env:=by rfl)(hp:(backTo pos (starEach [] X.env)).any (·.1)=false:=by rfl):AE X (.Call (.Name x p) [e1] [] pos) (eFn F (jE c1 jO)):=D8 G (hr.mono hk) (jG h1 jQ s1) (lZ wD) hg hdb s1 hp
def yx(G:qK X.prog X.w X.K X.mg X.base k x [p1,p2] F)(hr:Room K0 X.A)(h1:AE X e1 c1)(h2:AE X e2 c2)(hk:k<=K0:=by decide)(hg:Gl X x:=by rfl)(hdb:(x == ("__debug__" : Str))=false:=by decide)(s1:starEach [e1,e2] X.env=(false,eval e1 X.env)::starEach [e2] X.env:=by rfl)(s2:starEach [e2] X.env=(false,eval e2 X.env)::starEach [] X.env:=by rfl)(hp:(backTo pos (starEach [e2] X.env)).any (·.1)=false:=by rfl):AE X (.Call (.Name x p) [e1,e2] [] pos) (eFn F (jE c1 (jE c2 jO))):=D8 G (hr.mono hk) (jG h1 (jG h2 jQ s2) s1) (lZ (lZ wD)) hg hdb s1 hp
def Wq(G:qK X.prog X.w X.K X.mg X.base k x [p1,p2,p3] F)(hr:Room K0 X.A)(h1:AE X e1 c1)(h2:AE X e2 c2)(h3:AE X e3 c3)(hk:k<=K0:=by decide)(hg:Gl X x:=by rfl)(hdb:(x == ("__debug__" : Str))=false:=by decide)(s1:starEach [e1,e2,e3] X.env=(false,eval e1 X.env)::starEach [e2,e3] X.env:=by rfl)(s2:starEach [e2,e3] X.env=(false,eval e2 X.env)::starEach [e3] X.env:=by rfl)(s3:starEach [e3] X.env=(false,eval e3 X.env)::starEach [] X.env:=by rfl)(hp:(backTo pos (starEach [e2,e3] X.env)).any (·.1)=false:=by rfl):AE X (.Call (.Name x p) [e1,e2,e3] [] pos) (eFn F (jE c1 (jE c2 (jE c3 jO)))):=D8 G (hr.mono hk) (jG h1 (jG h2 (jG h3 jQ s3) s2) s1) (lZ (lZ (lZ wD))) hg hdb s1 hp
def uY{N P:am}{sc:Scope}(a:sc.kind=.function)(b:sc.isCoroutine=false)(c:sc.isGenerator=false)(h:N.Nodup/\N.take P.length=P/\(∀x∈P,sc.names.lookup x=some .local\/sc.names.lookup x=some .cell)/\∀y∈sc.names,y.2≠.free):FnScope N P sc:=⟨a,b,c,h.1,h.2.1,h.2.2.1,h.2.2.2⟩
end
end Am
namespace Bl
open L2
abbrev cnt:ae->Int->Int
 | [],_=>0
 | x::l,j=>(if j<=x then 1 else 0)+cnt l j
abbrev Below (xs ys:ae):Prop:=∀(i:Nat) (j:Int),cnt (xs.take i) j<=cnt (ys.take i) j
def Below.refl(xs:ae):Below xs xs:=λ_ _=>d7 _
def Below.trans{a c:ae}(h:Below a b)(k:Below b c):Below a c:=λi j=>Int.le_trans (h i j) (k i j)
def cnt_append(a b:ae)(j:Int):cnt (a++b) j=cnt a j+cnt b j:=by
 induction a with
 | nil=>simp[cnt]
 | cons x a ih=>rw[List.cons_append,cnt,cnt,ih];lia
def p9{a:ae}(p:a.Perm b)(j:Int):cnt a j=cnt b j:=by
 induction p with
 | nil=>rfl
 | cons x _ ih=>rw[cnt,cnt,ih]
 | swap x y l=>rw[cnt,cnt,cnt,cnt];lia
 | trans _ _ h1 h2=>exact h1.trans h2
def take_snoc{l:ae}{i:Nat}(h:i<l.length):l.take (i+1)=l.take i++[l[i]]:=by
 rw[jB,aH h];rfl
def kT{l:ae}{i:Nat}(h:i<l.length)(j:Int):cnt (l.take (i+1)) j=cnt (l.take i) j+(if j<=l[i]then 1 else 0):=by
 rw[take_snoc h,cnt_append,cnt,cnt];lia
def we{l:ae}{p:Nat}(h:p<l.length)(v:Int)(i:Nat)(j:Int) :
  cnt ((l.set p v).take i) j=cnt (l.take i) j+(if p<i then(if j<=v then 1 else 0)-(if j<=l[p]then 1 else 0)else 0):=by
 induction l generalizing p i with
 | nil=>cases h
 | cons x l ih=>
  cases i with
  | zero=>simp[cnt]
  | succ i=>
   cases p with
   | zero=>
    show(if j<=v then 1 else 0)+cnt (l.take i) j=(if j<=x then 1 else 0)+cnt (l.take i) j+_;rw[aN (jn _)];show _=(if j<=x then 1 else 0)+cnt (l.take i) j+((if j<=v then 1 else 0)-(if j<=x then 1 else 0))
    lia
   | succ p=>
    show(if j<=x then 1 else 0)+cnt ((l.set p v).take i) j=(if j<=x then 1 else 0)+cnt (l.take i) j+_;have hp:p<l.length:=gP h;rw[ih hp];by_cases z:p<i
    ·rw[aN z,aN (Nat.succ_lt_succ z)];show _=(if j<=x then 1 else 0)+cnt (l.take i) j+((if j<=v then 1 else 0)-(if j<=l[p]then 1 else 0))
     lia
    ·rw[aM z,aM (λy=>z (gP y))]
     lia
def vQ{l:ae}{p q:Nat}(hp:p<l.length)(hq:q<l.length)(hpq:p<q)(h:l[p]<l[q]):Below l ((l.set p l[q]).set q l[p]):=by
 intro i j;have hq':q<(l.set p l[q]).length:=by rw[bR];exact hq
 rw[we hq',we hp];have e:(l.set p l[q])[q]=l[q]:=by rw[List.getElem_set_ne (bD hpq)]
 rw[e]
 (repeat' split)<;>lia
def Jr(l:ae)(i:Nat)(j:Int):cnt (l.drop i) j=cnt l j-cnt (l.take i) j:=by
 have:=cnt_append (l.take i) (l.drop i) j;rw[cA]at this
 lia
abbrev nZ (a b:ae):Prop:=a.length=b.length/\∀(p:Nat) (h:p<a.length),b[(a[p]-1).toNat]?=some ((p:Int)+1)
abbrev lH (f:Int->Int):ae->Int
 | []=>0
 | x::l=>f x+lH f l
def Di{f:Int->Int}{a:ae}(p:a.Perm b):lH f a=lH f b:=by
 induction p with
 | nil=>rfl
 | cons x _ ih=>rw[lH,lH,ih]
 | swap x y l=>rw[lH,lH,lH,lH];lia
 | trans _ _ h1 h2=>exact h1.trans h2
theorem qX{f g:Int->Int}:∀{l:ae},(∀x∈l,f x=g x)->lH f l=lH g l
 | [],_=>rfl
 | x::l,h=>by rw[lH,lH,h x aR,qX λy hy=>h y (aT _ hy)]
def HK(b:ae)(j:Int):∀(i s:Nat),lH (λt=>if t<=(s:Int)+i then(if j<=(b.getD (t-1-s).toNat 0)then 1 else 0)else 0) (jV ((s:Int)+1) ((s:Int)+1+b.length))=cnt (b.take i) j:=by
 induction b with
 | nil=>
  intro i s;have:jV ((s:Int)+1) ((s:Int)+1+(([]:ae).length:Nat))=[]:=by
   apply dj.mp;rw[kF];simp
  rw[this];simp[lH,cnt]
 | cons x b ih=>
  intro i s;have er:jV ((s:Int)+1) ((s:Int)+1+((x::b).length:Nat))=((s:Int)+1)::jV (((s+1:Nat):Int)+1) (((s+1:Nat):Int)+1+b.length):=by
   unfold jV;rw[show((s:Int)+1+((x::b).length:Nat)-((s:Int)+1)).toNat=b.length+1 by rw[bE];lia,show(((s+1:Nat):Int)+1+b.length-(((s+1:Nat):Int)+1)).toNat=b.length by lia,gM,b9,bK];refine List.cons_eq_cons.mpr ⟨(),?_⟩;apply cI;intro k _;show(s:Int)+1+((k+1:Nat):Int)=_
   lia
  rw[er,lH]
  cases i with
  | zero=>
   have z:lH (λt=>if t<=(s:Int)+(0:Nat)then(if j<=((x::b).getD (t-1-s).toNat 0)then 1 else 0)else 0) (jV (((s+1:Nat):Int)+1) (((s+1:Nat):Int)+1+b.length))=lH (λ_=>0) (jV (((s+1:Nat):Int)+1) (((s+1:Nat):Int)+1+b.length)):=qX λt ht=>by
    have:=kG.mp ht;rw[aM ()]
   rw[z,aM ()];have zz:∀l:ae,lH (λ_=>0) l=0:=λl=>by
    induction l with
    | nil=>rfl
    | cons y l ih=>rw[lH,ih];rfl
   rw[zz];rfl
  | succ i=>
   have:=ih i (s+1);show _=(if j<=x then 1 else 0)+cnt (b.take i) j;rw[<- this,aN (),show((s:Int)+1-1-s).toNat=0 by lia]
   skip
   congr 1;refine qX λt ht=>?_;have ht':=kG.mp ht;have e1:(t-1-(s:Int)).toNat=(t-1-((s+1:Nat):Int)).toNat+1:=()
   rw[e1,List.getD_cons_succ];by_cases z:t<=(s:Int)+((i+1:Nat):Int)
   ·have z':t<=((s+1:Nat):Int)+i:=()
    rw[aN z,aN z']
   ·have z':¬t<=((s+1:Nat):Int)+i:=()
    rw[aM z,aM z']
theorem xR(i:Int)(q:Nat):∀(a:ae) (s:Nat) (f:Int->Int),(∀(p:Nat) (h:p<a.length),f a[p]=if q<=s+p then(if a[p]<=i then 1 else 0)else 0)->lH f a=((a.drop (q-s)).length:Int)-cnt (a.drop (q-s)) (i+1)
 | [],s,f,_=>by simp[lH,cnt]
 | x::a,s,f,hf=>by
  have h0:=hf 0 (jn _);have ih:=xR i q a (s+1) f λp h=>by
   have:=hf (p+1) (Nat.succ_lt_succ h);rw[show s+1+p=s+(p+1)by lia];exact this
  rw[lH,ih];have h0':f x=if q<=s then(if x<=i then 1 else 0)else 0:=h0
  rw[h0'];by_cases z:q<=s
  ·rw[show q-s=0 by lia,show q-(s+1)=0 by lia,aN z];show _=(((x::a).length:Nat):Int)-cnt (x::a) (i+1);rw[cnt,bE,iY];split<;>split<;>lia
  ·rw[aM z,show q-s=(q-(s+1))+1 by lia];show 0+_=((a.drop (q-(s+1))).length:Int)-cnt (a.drop (q-(s+1))) (i+1)
   lia
def MA(n:Nat)(i:Int)(h0:0<=i)(h1:i<=n):cnt (jV 1 (n+1)) (i+1)=n-i:=by
 unfold jV;rw[show((n:Int)+1-1).toNat=n by lia]
 induction n with
 | zero=>simp[cnt];lia
 | succ n ih=>
  rw[jw,bP,cnt_append];show _+((if i+1<=1+(n:Int)then 1 else 0)+0)=_;by_cases z:i<=n
  ·rw[ih z,aN ()];lia
  ·have e:i=(n:Int)+1:=()
   rw[aM ()];have:cnt ((List.range n).map λk:Nat=>(1:Int)+k) (i+1)=0:=by
    have z2:∀l:ae,(∀x∈l,x<i+1)->cnt l (i+1)=0:=λl=>by
     induction l with
     | nil=>intro _;rfl
     | cons x l ih=>intro h;rw[cnt,aM (by have:=h x aR;lia),ih λy hy=>h y (aT _ hy)];rfl
    refine z2 _ λx hx=>?_;obtain⟨k,hk,rfl⟩:=bH.mp hx;have:=cU.mp hk
    lia
   rw[this];lia
def uD{a b:ae}{n:Nat}(p:a.Perm (jV 1 (n+1)))(h:nZ a b){i q:Nat}(hi:i<=n)(hq:q<=n):cnt (b.take i) ((q:Int)+1)=(i:Int)-q+cnt (a.take q) ((i:Int)+1):=by
 have hla:a.length=n:=by rw[p.length_eq,kF];lia
 have hlb:b.length=n:=by rw[<- h.1,hla]
 have s1:=HK b ((q:Int)+1) i 0;rw[hlb]at s1;have s2:lH (λt=>if t<=((0:Nat):Int)+i then(if (q:Int)+1<=(b.getD (t-1-((0:Nat):Int)).toNat 0)then 1 else 0)else 0) a=((a.drop (q-0)).length:Int)-cnt (a.drop (q-0)) ((i:Int)+1):=xR i q a 0 _ λk hk=>by
  have e:=h.2 k hk;have e2:b.getD (a[k]-1-((0:Nat):Int)).toNat 0=(k:Int)+1:=by
   rw[show a[k]-1-((0:Nat):Int)=a[k]-1 by lia,aI,e];rfl
  skip
  rw[e2]
  (repeat' split)<;>first|rfl|lia
 have s3:=Di (f:=λt=>if t<=((0:Nat):Int)+i then(if (q:Int)+1<=(b.getD (t-1-((0:Nat):Int)).toNat 0)then 1 else 0)else 0) p;have er:jV (((0:Nat):Int)+1) (((0:Nat):Int)+1+n)=jV 1 (n+1):=by
  rw[show(((0:Nat):Int)+1)=1 by lia,show((1:Int)+n)=n+1 by lia]
 rw[er]at s1;have c1:=Jr a q ((i:Int)+1);rw[p9 p,MA n i () ()]at c1;rw[jm,cM,hla]at s2
 lia
def CC{a b a' b':ae}{n:Nat}(pa:a.Perm (jV 1 (n+1)))(pb:b.Perm (jV 1 (n+1)))(ha:nZ a a')(hb:nZ b b')(pa':a'.Perm (jV 1 (n+1)))(pb':b'.Perm (jV 1 (n+1))):Below a' b' ↔ Below a b:=by
 have la:a.length=n:=by rw[pa.length_eq,kF];lia
 have lb:b.length=n:=by rw[pb.length_eq,kF];lia
 have out:∀{x y:ae},x.Perm (jV 1 (n+1))->y.Perm (jV 1 (n+1))->(∀(i q:Nat),i<=n->q<=n->cnt (x.take i) ((q:Int)+1)<=cnt (y.take i) ((q:Int)+1))->Below x y:=by
  intro x y px py h i j;have lx:x.length=n:=by rw[px.length_eq,kF];lia
  have ly:y.length=n:=by rw[py.length_eq,kF];lia
  have low:∀(l:ae),(∀z∈l,j<=z)->cnt l j=l.length:=λl=>by
   induction l with
   | nil=>intro _;rfl
   | cons z l ih=>intro hh;rw[cnt,aN (hh z aR),ih λy hy=>hh y (aT _ hy),bE];lia
  have high:∀(l:ae),(∀z∈l,z<j)->cnt l j=0:=λl=>by
   induction l with
   | nil=>intro _;rfl
   | cons z l ih=>intro hh;rw[cnt,aM (by have:=hh z aR;lia),ih λy hy=>hh y (aT _ hy)];rfl
  have rx:∀z∈x,1<=z/\z<(n:Int)+1:=λz hz=>kG.mp (px.mem_iff.mp hz);have ry:∀z∈y,1<=z/\z<(n:Int)+1:=λz hz=>kG.mp (py.mem_iff.mp hz);by_cases z1:j<=1
  ·rw[low _ λz hz=>by have:=(rx z (bI hz)).1;lia,low _ λz hz=>by have:=(ry z (bI hz)).1;lia,bB,bB,lx,ly];exact d7 _
  ·by_cases z2:(n:Int)+1<=j
   ·rw[high _ λz hz=>by have:=(rx z (bI hz)).2;lia,high _ λz hz=>by have:=(ry z (bI hz)).2;lia];exact d7 _
   ·obtain⟨q,rfl⟩:∃q:Nat,j=(q:Int)+1:=⟨(j-1).toNat,()⟩;by_cases hi:i<=n
    ·exact h i q hi ()
    ·rw[cD (),cD (),p9 px,p9 py];exact d7 _
 constructor
 ·intro h;refine out pa pb λq i hq hi=>?_;have:=h i ((q:Int)+1);rw[uD pa ha hi hq,uD pb hb hi hq]at this
  lia
 ·intro h;refine out pa' pb' λi q hi hq=>?_;rw[uD pa ha hi hq,uD pb hb hi hq];have:=h q ((i:Int)+1)
  lia
def Gy{x y:ae}{n:Nat}(px:x.Perm (jV 1 (n+1)))(py:y.Perm (jV 1 (n+1))):(∀(i q:Nat),i<n->q<n->cnt (x.take (i+1)) ((q:Int)+1)<=cnt (y.take (i+1)) ((q:Int)+1)) ↔ Below x y:=by
 have lx:x.length=n:=by rw[px.length_eq,kF];lia
 have ly:y.length=n:=by rw[py.length_eq,kF];lia
 constructor
 ·intro h i j;have rx:∀z∈x,1<=z/\z<(n:Int)+1:=λz hz=>kG.mp (px.mem_iff.mp hz);have ry:∀z∈y,1<=z/\z<(n:Int)+1:=λz hz=>kG.mp (py.mem_iff.mp hz);have low:∀(l:ae),(∀z∈l,j<=z)->cnt l j=l.length:=λl=>by
   induction l with
   | nil=>intro _;rfl
   | cons z l ih=>intro hh;rw[cnt,aN (hh z aR),ih λy hy=>hh y (aT _ hy),bE];lia
  have high:∀(l:ae),(∀z∈l,z<j)->cnt l j=0:=λl=>by
   induction l with
   | nil=>intro _;rfl
   | cons z l ih=>intro hh;rw[cnt,aM (by have:=hh z aR;lia),ih λy hy=>hh y (aT _ hy)];rfl
  by_cases z1:j<=1
  ·rw[low _ λz hz=>by have:=(rx z (bI hz)).1;lia,low _ λz hz=>by have:=(ry z (bI hz)).1;lia,bB,bB,lx,ly];exact d7 _
  ·by_cases z2:(n:Int)+1<=j
   ·rw[high _ λz hz=>by have:=(rx z (bI hz)).2;lia,high _ λz hz=>by have:=(ry z (bI hz)).2;lia];exact d7 _
   ·obtain⟨q,rfl⟩:∃q:Nat,j=(q:Int)+1:=⟨(j-1).toNat,()⟩;by_cases hi:i<=n
    ·cases i with
     | zero=>simp[cnt]
     | succ i=>exact h i q () ()
    ·rw[cD (),cD (),p9 px,p9 py];exact d7 _
 ·exact λh i q _ _=>h (i+1) ((q:Int)+1)
end Bl
namespace Am
open PySem L2 Bl
abbrev mC:Nat->Int->ae->ae
 | 0,_,ms=>ms
 | _+1,_,[]=>[]
 | x+1,d,m::ms=>(m+d)::mC x d ms
theorem vA:∀(x:Nat) (d:Int) (ms:ae),(mC x d ms).length=ms.length
 | 0,_,_=>rfl
 | _+1,_,[]=>rfl
 | x+1,d,m::ms=>dJ (·+1) (vA x d ms)
theorem sC:∀(x:Nat) (d:Int) (ms:ae) (j:Nat),(mC x d ms)[j]?=(ms[j]?).map λm=>if j<x then m+d else m
 | 0,d,ms,j=>by simp[mC]
 | _+1,_,[],j=>by simp[mC]
 | x+1,d,m::ms,0=>by simp[mC]
 | x+1,d,m::ms,j+1=>by
  show(mC x d ms)[j]?=_;rw[sC x d ms j];simp
theorem xV:∀(x:Nat) (d:Int) (ms:ae) (m:Int),ms[x]?=some m->(mC x d ms).set x (m+d)=mC (x+1) d ms
 | 0,d,[],m,h=>by simp at h
 | 0,d,k::ms,m,h=>by simp at h;subst h;rfl
 | x+1,d,[],m,h=>by simp at h
 | x+1,d,k::ms,m,h=>by
  show(k+d)::(mC x d ms).set x (m+d)=(k+d)::mC (x+1) d ms;rw[xV x d ms m (by simpa using h)]
abbrev p7 (n:Nat)(xs ys:ae)(t:Nat):ae:=(List.range n).map λ(j:Nat)=>cnt (xs.take t) ((j:Int)+1)-cnt (ys.take t) ((j:Int)+1)
def nG{n:Nat}{t:Nat}:(p7 n xs ys t).length=n:=by simp[p7]
def p8{n:Nat}{xs ys:ae}{t j:Nat}(h:j<n):(p7 n xs ys t)[j]?=some (cnt (xs.take t) ((j:Int)+1)-cnt (ys.take t) ((j:Int)+1)):=by
 unfold p7;rw[aQ,b7 h];rfl
def Mr{n:Nat}:p7 n xs ys 0=List.replicate n 0:=by
 unfold p7;refine bW λj=>?_;rw[aQ,gA];by_cases hj:j<n
 ·rw[b7 hj,aN hj];simp[cnt]
 ·rw[bG (by simpa using hj),aM hj];rfl
def Dt{n:Nat}{xs ys:ae}{t:Nat}(hx:t<xs.length)(hy:t<ys.length):mC ys[t].toNat (-1) (mC xs[t].toNat 1 (p7 n xs ys t))=p7 n xs ys (t+1):=by
 refine bW λj=>?_;rw[sC,sC];by_cases hj:j<n
 ·rw[p8 hj,p8 hj,kT hx,kT hy,iK,iK];congr 1;have e1:(j<xs[t].toNat)=((j:Int)+1<=xs[t]):=by apply propext;lia
  have e2:(j<ys[t].toNat)=((j:Int)+1<=ys[t]):=by apply propext;lia
  dsimp[e1,e2];split<;>split<;>lia
 ·rw[bG (by rw[nG];lia),bG (by rw[nG];lia)];rfl
theorem xN:∀{ns:ae},ns≠[]->∃m,maxOf ns=some m
 | [],h=>absurd rfl h
 | [x],_=>⟨x,rfl⟩
 | x::y::ys,_=>by
  obtain⟨m,e⟩:=xN (ns:=y::ys) (by simp);exact⟨if m>x then m else x,by show(maxOf (y::ys)).map _=_;rw[e];rfl⟩
def Kw{n:Nat}{ns:ae}(h:jF S n=some (ns.map .int))(h0:ns≠[]):∃m,LL (.ref n) S=.ok (.int m) S/\m∈ns/\∀a∈ns,a<=m:=by
 obtain⟨m,e⟩:=xN h0;refine⟨m,?_,xx e⟩;show opt (jF S n) _=_;rw[h,jX,ints_map,jX,e,jX]
def Ov{S:jJ}{n:Nat}{x:A}{k:Nat}(h:jF S n=some [x])(hk:k<=16777216):uB (.ref n) (.int k) S=.ok (.ref S.length) (S++[.lst (List.replicate k x)]):=by
 show opt (jF S n) _=_;rw[h,jX];have e:(List.replicate k [x]).flatten=List.replicate k x:=by
  induction k with
  | zero=>rfl
  | succ k ih=>rw[c8,dS,ih ()];rfl
 rw[lq ⟨(),(),by rw[c5,cu];simpa using hk⟩,cu,e]
def A8{xs:ae}{n:Int}(h:xs.Perm (jV 1 (n+1)))(hn:0<=n):(xs.length:Int)=n:=by
 rw[h.length_eq,kF];lia
def Ba{xs:ae}{n x:Int}(h:xs.Perm (jV 1 (n+1)))(hx:x∈xs):1<=x/\x<=n:=by
 have:=kG.mp (h.mem_iff.mp hx)
 lia
end Am
namespace Tb
abbrev fg (r:ae)(x:Int):Nat:=r.findIdx λy=>decide (x<y)
abbrev put:List (ae)->Int->List (ae)
 | [],x=>[[x]]
 | r::rs,x=>if fg r x=r.length then(r++[x])::rs else r.set (fg r x) x::put rs (r.getD (fg r x) 0)
abbrev row:List (ae)->Int->Nat
 | [],_=>0
 | r::rs,x=>if fg r x=r.length then 0 else row rs (r.getD (fg r x) 0)+1
abbrev add:List (ae)->Nat->Int->List (ae)
 | [],_,k=>[[k]]
 | q::qs,0,k=>(q++[k])::qs
 | q::qs,i+1,k=>q::add qs i k
abbrev gs (r:ae)(x:Int):ag:=(List.range r.length).filter λk=>decide (x<r.getD k 0)
end Tb
namespace Am
open PySem L2
abbrev Rows (S:jJ):ag->List (ae)->Prop
 | [],[]=>True
 | r::rs,x::T=>jF S r=some (x.map .int)/\Rows S rs T
 | _,_=>False
structure Tab (S:jJ)(n:Nat)(rs:ag)(T:List (ae)):Prop where
 top:jF S n=some (rs.map .ref)
 rows:Rows S rs T
 nd:(n::rs).Nodup
def eq_nil{a:Nat}{xs:ad}(h:jF S a=some xs)(h':jF S b=some []):B9 S 12 (.ref a) (.ref b)=some xs.isEmpty:=by
 show(jF S a).bind (λxs=>(jF S b).bind λys=>v9 (B9 S 11) xs ys)=_;rw[h,dw,h',dw]
 cases xs<;>rfl
def TY{a:Nat}{xs ys:ae}(h:jF S a=some (xs.map .int))(h':jF S b=some (ys.map .int)):B9 S 12 (.ref a) (.ref b)=some (decide (xs=ys)):=by
 show(jF S a).bind (λxs=>(jF S b).bind λys=>v9 (B9 S 11) xs ys)=_;rw[h,dw,h',dw];exact yR xs ys
def J0{a:A}{k:Bool}(h:B9 S 12 a b=some k):Hj true a b S=.ok (.bl (!k)) S:=by unfold Hj;rw[h];rfl
def LQ{xs:ad}{n:Nat}{src:Ic}{t:Te}{e:Ex}{S:jJ}(hs:src τ S=.ok (mJ n xs.length) S)(hx:jF S n=some xs)(p:A->Bool)(f:A->A)
  (ht:∀x∈xs,t (x::nM cap τ) S=.ok (p x) S) (he:∀x∈xs,p x=true->e (x::nM cap τ) S=.ok (f x) S) (hl:xs.length<=16777216) :
  kK (none::cap) src (kN 0) t e τ S=.ok (.ref S.length) (S++[.lst ((xs.filter p).map f)]):=by
 have hm:∀i,i<xs.length->xs.getD i .unb∈xs:=λi hi=>by
  rw[aI,aH hi];exact c7 hi
 rw[vq hs (λi=>xs.getD i .unb) (λi=>p (xs.getD i .unb)) (λi=>f (xs.getD i .unb)) (λi hi=>by
  have hi:i<xs.length:=hi;show(jF S n).bind _=_;rw[hx,dw,aI,aH hi];rfl) (by
   show(match jF S n with
    | some ys=>decide (ys.length<=xs.length)
    | none=>false)=true
   rw[hx];simp) (λi hi=>ht _ (hm i hi)) (λi hi=>he _ (hm i hi)) hl]
 have:=nL xs p f .unb;show R.ok _ (S++[O.lst (((List.range xs.length).filter _).map _)])=_;rw[this]
def getD_at{r:ae}{k:Nat}(h:k<r.length):r[k]?=some (r.getD k 0):=by rw[aI,aH h];rfl
end Am
namespace Wd
open Bl L2
abbrev ex (l:ae)(k:Nat):ae:=(l.set (k-1) (l.getD k 0)).set k (l.getD (k-1) 0)
abbrev led (l:ae)(w:ag):ae:=w.foldl ex l
def kh{l:ae}{k:Nat}(h:k<l.length):l.getD k 0=l[k]:=by rw[aI,aH h];rfl
def zd{l:ae}{k:Nat}(h0:1<=k)(h:k<l.length):ex l k=(l.set (k-1) l[k]).set k (l[k-1]'()):=by
 unfold ex;rw[kh h,kh (show k-1<l.length by lia)]
def mR(l:ae)(k:Nat):(ex l k).length=l.length:=by unfold ex;rw[bR,bR]
theorem zP:∀(w:ag) (l:ae),(led l w).length=l.length
 | [],_=>rfl
 | k::w,l=>by show(led (ex l k) w).length=_;rw[zP w,mR]
def zK{l:ae}{k:Nat}(h0:1<=k)(h:k<l.length):(ex l k).Perm l:=by
 rw[zd h0 h];exact List.set_set_perm () h
theorem BR:∀{w:ag}{l:ae},(∀k∈w,1<=k/\k<l.length)->(led l w).Perm l
 | [],_,_=>dO _
 | k::w,l,h=>by
  have hk:=h k (aR ..);show(led (ex l k) w).Perm l;exact(BR λm hm=>by rw[mR];exact h m (aT _ hm)).trans (zK hk.1 hk.2)
def wL(a b:ag)(l:ae):led l (a++b)=led (led l a) b:=List.foldl_append
def vm{l:ae}{k:Nat}(h0:1<=k)(h:k<l.length)(i:Nat)(j:Int) :
  cnt ((ex l k).take i) j=cnt (l.take i) j+(if i=k then(if j<=l[k]then 1 else 0)-(if j<=l[k-1]'()then 1 else 0)else 0):=by
 rw[zd h0 h];have hq':k<(l.set (k-1) l[k]).length:=by rw[bR];exact h
 rw[we hq',we (show k-1<l.length by lia)];have e:(l.set (k-1) l[k])[k]=l[k]:=by rw[List.getElem_set_ne ()]
 rw[e];by_cases h1:i=k
 ·rw[aN h1,aN (show k-1<i by lia),aM (show ¬k<i by lia)];lia
 ·by_cases h2:k<i
  ·rw[aM h1,aN (show k-1<i by lia),aN h2];lia
  ·rw[aM h1,aM (show ¬k-1<i by lia),aM h2];lia
def up{l:ae}{k:Nat}(h0:1<=k)(h:k<l.length)(hr:l[k-1]'()<l[k]):Below l (ex l k):=by
 rw[zd h0 h];exact vQ () h () hr
def lift{u w:ae}{k:Nat}(hl:u.length=w.length)(h0:1<=k)(h:k<w.length)(hr:w[k-1]'()<w[k])(hb:Below u w):Below (ex u k) (ex w k):=by
 have hu:k<u.length:=()
 intro i j;rw[vm h0 hu,vm h0 h];by_cases hi:i=k
 ·subst hi;rw[aN rfl,aN rfl];have b1:=hb (i-1) j;have b2:=hb i j;have b3:=hb (i+1) j;have c1:=kT (l:=u) (i:=i-1) () j;have c2:=kT (l:=w) (i:=i-1) () j;have c3:=kT (l:=u) (i:=i) hu j;have c4:=kT (l:=w) (i:=i) h j;rw[show i-1+1=i by lia]at c1 c2;rw[c3,c4]at b3;rw[c1,c2]at b2 b3;rw[c1,c2];revert b1 b2 b3
  (repeat' split)<;>intros<;>lia
 ·rw[aM hi,aM hi];have:=hb i j
  lia
abbrev j_:ae->ag->Prop
 | _,[]=>True
 | l,k::w=>1<=k/\k<l.length/\l.getD (k-1) 0<l.getD k 0/\j_ (ex l k) w
theorem j_.snoc:∀{w:ag}{l:ae}{k:Nat},j_ l w->1<=k->k<l.length->(led l w).getD (k-1) 0<(led l w).getD k 0->j_ l (w++[k])
 | [],l,k,_,h0,h1,h2=>⟨h0,h1,h2,trivial⟩
 | m::w,l,k,h,h0,h1,h2=>⟨h.1,h.2.1,h.2.2.1,j_.snoc h.2.2.2 h0 (by rw[mR];exact h1) h2⟩
theorem j_.drop:∀{a b:ag}{l:ae},j_ l (a++b)->j_ (led l a) b
 | [],_,_,h=>h
 | _::a,b,l,h=>j_.drop (a:=a) h.2.2.2
theorem j_.valid:∀{w:ag}{l:ae},j_ l w->∀k∈w,1<=k/\k<l.length
 | [],_,_,k,hk=>by cases hk
 | m::w,l,h,k,hk=>by
  rcases bL.mp hk with z|z
  ·rw[z];exact⟨h.1,h.2.1⟩
  ·have:=j_.valid h.2.2.2 k z;rw[mR]at this;exact this
theorem xr:∀{w:ag}{l:ae},j_ l w->Below l (led l w)
 | [],l,_=>Below.refl l
 | k::w,l,h=>by
  have h0:=h.1;have h1:=h.2.1;have h2:=h.2.2.1;rw[kh h1,kh (show k-1<l.length by lia)]at h2;exact(up h0 h1 h2).trans (xr h.2.2.2)
abbrev sw (k:Nat)(x:Int):Int:=if x=k then(k:Int)+1 else if x=(k:Int)+1 then k else x
def ex_map(f:Int->Int){l:ae}{k:Nat}(h0:1<=k)(h:k<l.length):ex (l.map f) k=(ex l k).map f:=by
 rw[zd h0 h,zd h0 (by rw[aL];exact h),gQ,gQ,ff,ff]
theorem EG(f:Int->Int):∀{w:ag}{l:ae},(∀k∈w,1<=k/\k<l.length)->led (l.map f) w=(led l w).map f
 | [],_,_=>rfl
 | k::w,l,h=>by
  have hk:=h k (aR ..);show led (ex (l.map f) k) w=(led (ex l k) w).map f;rw[ex_map f hk.1 hk.2,EG f λm hm=>by rw[mR];exact h m (aT _ hm)]
def sq{n p:Nat}(h:p<n):(jV 1 ((n:Int)+1))[p]?=some ((p:Int)+1):=by
 unfold jV;rw[aQ,b7 ()];simp;lia
def kj(n:Nat):(jV 1 ((n:Int)+1)).length=n:=by rw[kF];lia
def oQ{l:ae}{k:Nat}(h0:1<=k)(h:k<l.length)(p:Nat):(ex l k)[p]?=if p=k then l[k-1]? else if p=k-1 then l[k]? else l[p]?:=by
 rw[zd h0 h,ja];by_cases h1:k=p
 ·rw[aN h1,aN h1.symm,aN (by rw[bR];lia),aH]
 ·rw[aM h1,aM (λz=>h1 z.symm),ja];by_cases h2:k-1=p
  ·rw[aN h2,aN h2.symm,aN (),aH]
  ·rw[aM h2,aM (λz=>h2 z.symm)]
def PD{n k:Nat}(h0:1<=k)(h:k<n):ex (jV 1 ((n:Int)+1)) k=(jV 1 ((n:Int)+1)).map (sw k):=by
 apply bW;intro p;rw[oQ h0 (by rw[kj];exact h),aQ];by_cases hp:p<n
 ·rw[sq hp,sq h,sq (show k-1<n by lia)];show _=some (sw k ((p:Int)+1));unfold sw;by_cases h1:p=k
  ·rw[aN h1,aM (),aN ()];congr 1;lia
  ·rw[aM h1];by_cases h2:p=k-1
   ·rw[aN h2,aN ()]
   ·rw[aM h2,aM (),aM ()]
 ·have e:(jV 1 ((n:Int)+1))[p]?=none:=bG (by rw[kj];lia);rw[aM (),aM (),e];rfl
def GQ{A B:ae}{k:Nat}(h0:1<=k)(h:k<A.length)(hb:nZ A B):nZ (ex A k) (B.map (sw k)):=by
 refine⟨by rw[mR,aL];exact hb.1,λp hp=>?_⟩;rw[mR]at hp;have hg:(ex A k)[p]'(by rw[mR];exact hp)=if p=k then A[k-1]'()else if p=k-1 then A[k]else A[p]:=by
  have:=oQ h0 h p;rw[aH (by rw[mR];exact hp)]at this;by_cases h1:p=k
  ·rw[aN h1,aH (show k-1<A.length by lia)]at this;rw[aN h1];exact aW this
  ·rw[aM h1]at this;rw[aM h1];by_cases h2:p=k-1
   ·rw[aN h2,aH h]at this;rw[aN h2];exact aW this
   ·rw[aM h2,aH hp]at this;rw[aM h2];exact aW this
 rw[hg,aQ];by_cases h1:p=k
 ·rw[aN h1,hb.2 (k-1) ()];show some (sw k _)=_;unfold sw;rw[aN ()];congr 1;lia
 ·rw[aM h1];by_cases h2:p=k-1
  ·rw[aN h2,hb.2 k h];show some (sw k _)=_;unfold sw;rw[aM (),aN ()];congr 1;lia
  ·rw[aM h2,hb.2 p hp];show some (sw k _)=_;unfold sw;rw[aM (),aM ()]
theorem qa{n:Nat}:∀(w:ag),(∀k∈w,1<=k/\k<n)->nZ (led (jV 1 ((n:Int)+1)) w.reverse) (led (jV 1 ((n:Int)+1)) w)
 | [],_=>⟨rfl,λp hp=>by
  have hp:p<n:=by rw[show([]:ag).reverse=[]from rfl]at hp;have:p<(jV 1 ((n:Int)+1)).length:=hp;rw[kj]at this;exact this
  have e:(jV 1 ((n:Int)+1))[p]'(by rw[kj];exact hp)=(p:Int)+1:=by
   have:=sq hp;rw[aH (by rw[kj];exact hp)]at this;exact aW this
  show(jV 1 ((n:Int)+1))[(((jV 1 ((n:Int)+1))[p]'(by rw[kj];exact hp))-1).toNat]?=_;rw[e,show((p:Int)+1-1).toNat=p by lia];exact sq hp⟩
 | k::w,h=>by
  have hk:=h k (aR ..);have hw:=λm hm=>h m (aT k hm);have ih:=qa w hw;rw[dR,wL];show nZ (ex (led (jV 1 ((n:Int)+1)) w.reverse) k) (led (ex (jV 1 ((n:Int)+1)) k) w);rw[PD hk.1 hk.2,EG (sw k) (λm hm=>by rw[kj];exact hw m hm)];exact GQ hk.1 (by rw[zP,kj];exact hk.2) ih
end Wd
namespace Iv
open L2 Bl
abbrev inv:ae->Nat
 | []=>0
 | x::l=>l.countP (λy=>decide (y<x))+inv l
abbrev kQ (a b:ae):Nat:=(a.map λx=>b.countP λy=>decide (y<x)).sum
def nJ(x:Int)(a b:ae):kQ (x::a) b=b.countP (λy=>decide (y<x))+kQ a b:=rfl
theorem j6:∀(a b:ae),inv (a++b)=inv a+inv b+kQ a b
 | [],b=>by show inv b=0+inv b+0;lia
 | x::a,b=>by
  show(a++b).countP _+inv (a++b)=(a.countP _+inv a)+inv b+kQ (x::a) b;rw[i6,j6 a b,nJ];lia
theorem ue:∀{a b:ag},a.Perm b->a.sum=b.sum
 | _,_,.nil=>rfl
 | _,_,.cons x h=>by rw[gg,gg,ue h]
 | _,_,.swap x y l=>by rw[gg,gg,gg,gg];lia
 | _,_,.trans h k=>(ue h).trans (ue k)
def Gb{a:ae}(b:ae)(h:a.Perm a'):kQ a b=kQ a' b:=ue (h.map _)
def E1(a:ae){b:ae}(h:b.Perm b'):kQ a b=kQ a b':=by
 unfold kQ;congr 1;refine cI λx _=>h.countP_eq _
def zH{M:ae}{x y:Int}(h:∀m∈M,m<x\/y<m)(hxy:x<y):M.countP (λm=>decide (m<x))=M.countP (λm=>decide (m<y)):=by
 refine gR λm hm=>?_;rw[gv,gv]
 rcases h m hm with z|z<;>omega
theorem vR:∀{M:ae}{x y:Int},(∀m∈M,m<x\/y<m)->x<y->kQ M [x]=kQ M [y]
 | [],_,_,_,_=>rfl
 | m::M,x,y,h,hxy=>by
  rw[nJ,nJ,vR (λm' hm=>h m' (aT _ hm)) hxy];congr 1;have:=h m (aR ..);dsimp[bO,iL];by_cases c:x<m
  ·rw[br c,br (show y<m by omega)]
  ·rw[bu c,bu (show ¬y<m by omega)]
def mid{M:ae}{x y:Int}(h:∀m∈M,m<x\/y<m)(hxy:x<y):inv ([y]++M++[x])=inv ([x]++M++[y])+1:=by
 rw[j6,j6,j6 ([x]++M),j6 [x]];have e1:kQ [y] M=kQ [x] M:=by
  show M.countP _+0=M.countP _+0;rw[zH h hxy]
 have e2:kQ ([y]++M) [x]=1+kQ M [x]:=by
  show[x].countP _+kQ M [x]=_;rw[bO,br hxy];rfl
 have e3:kQ ([x]++M) [y]=kQ M [y]:=by
  show[y].countP _+kQ M [y]=_;rw[bO,bu (by lia:¬y<x)];simp
 rw[e1,e2,e3,vR h hxy]
 skip
 lia
def qV(M:ae)(x y:Int):([y]++M++[x]).Perm ([x]++M++[y]):=by
 refine(List.perm_append_comm (l₁:=[y]++M) (l₂:=[x])).trans ?_
 skip
 exact .cons x (List.perm_append_comm (l₁:=[y]) (l₂:=M))
def step{P M R:ae}{x y:Int}(h:∀m∈M,m<x\/y<m)(hxy:x<y):inv (P++([y]++M++[x])++R)=inv (P++([x]++M++[y])++R)+1:=by
 have p:=qV M x y;rw[j6,j6 P,j6 (P++([x]++M++[y])),j6 P,mid h hxy,E1 P p,Gb R (p.append_left P)]
 lia
theorem tV:∀(l:ae),inv l<=l.length * l.length
 | []=>aP _
 | x::l=>by
  show l.countP _+inv l<=(l.length+1) * (l.length+1);have h1:=List.countP_le_length (p:=λy=>decide (y<x)) (l:=l);have h2:=tV l;rw[Nat.add_mul,Nat.mul_add]
  lia
def EL(x v:Int):cnt [x] v=if v<=x then 1 else 0:=by show(if v<=x then 1 else 0)+0=_;lia
theorem AX:∀(l:ae) {v w:Int},v<=w->cnt l w<=cnt l v
 | [],_,_,_=>d7 _
 | x::l,v,w,h=>by
  have:=AX l h;show(if w<=x then 1 else 0)+cnt l w<=(if v<=x then 1 else 0)+cnt l v;split<;>split<;>lia
theorem F6:∀(l:ae) {v w:Int},(∀m∈l,m<v\/w<=m)->v<=w->cnt l v=cnt l w
 | [],_,_,_,_=>rfl
 | x::l,v,w,h,hvw=>by
  have:=F6 l (λm hm=>h m (aT _ hm)) hvw;have:=h x (aR ..);show(if v<=x then 1 else 0)+cnt l v=(if w<=x then 1 else 0)+cnt l w;split<;>split<;>lia
def CD{P M R B:ae}{x y z:Int}(hb:Below (P++([x]++M++[y])++R) (P++z::B))(hxy:x<y)(hyz:y<=z)(hM:∀m∈M,m<x\/z<m):Below (P++([y]++M++[x])++R) (P++z::B):=by
 intro p v;have h0:=hb p v;by_cases c1:p<=P.length
 ·have e:∀L:ae,(P++L).take p=P.take p:=λL=>by rw[iF c1]
  rw[bJ,e,e]at h0 ⊢;exact h0
 ·by_cases c2:p<=P.length+1+M.length
  ·obtain⟨q,hq⟩:∃q,p=P.length+(q+1):=⟨p-P.length-1,()⟩;have ea:∀(u w:Int),(P++([u]++M++[w])++R).take p=P++(u::M.take q):=λu w=>by
    rw[bJ,hq,jh,cD (),show P.length+(q+1)-P.length=q+1 by lia];congr 1;show(u::((M++[w])++R)).take (q+1)=_;rw[List.take_succ_cons,bJ,iF ()]
   have eb:(P++z::B).take p=P++(z::B.take q):=by
    rw[hq,jh,cD (),show P.length+(q+1)-P.length=q+1 by lia,List.take_succ_cons]
   rw[ea,eb,cnt_append,cnt_append]at h0 ⊢;have h1:=hb p (z+1);rw[ea,eb,cnt_append,cnt_append]at h1;have f:∀(u t:Int) (L:ae),cnt (u::L) t=(if t<=u then 1 else 0)+cnt L t:=λ_ _ _=>rfl;rw[f,f]at h0 h1 ⊢;by_cases c3:x<v/\v<=y
   ·rw[aM (),aM ()]at h1;rw[aN c3.2,aN ()];have g1:cnt (M.take q) v=cnt (M.take q) (z+1):=F6 _ (λm hm=>by
     rcases hM m (bI hm)with t|t
     ·left;lia
     ·right;lia) ()
    have g2:=AX (B.take q) (show v<=z+1 by lia)
    lia
   ·have:(if v<=y then(1:Int)else 0)=if v<=x then 1 else 0:=by
     by_cases d:v<=x
     ·rw[aN d,aN ()]
     ·rw[aM d,aM (λt=>c3 ⟨(),t⟩)]
    rw[this];exact h0
  ·have ea:∀(u w:Int),(P++([u]++M++[w])++R).take p=P++([u]++M++[w])++R.take (p-(P.length+1+M.length+1)):=λu w=>by
    have l:(P++([u]++M++[w])).length=P.length+1+M.length+1:=by simp;lia
    rw[jh,cD (by rw[l];lia),l]
   rw[ea]at h0 ⊢;have:=p9 (((qV M x y).append_left P).append_right (R.take (p-(P.length+1+M.length+1)))) v;rw[this];exact h0
abbrev sw (a:ae)(i j:Nat):ae:=(a.set i (a.getD j 0)).set j (a.getD i 0)
def AA(a:ae)(i j:Nat):(sw a i j).length=a.length:=by unfold sw;rw[bR,bR]
def split{a:ae}(hij:i<j)(hj:j<a.length):∃P M R:ae,a=P++([a.getD i 0]++M++[a.getD j 0])++R/\P=a.take i/\(∀m∈M,∃k,i<k/\k<j/\a[k]?=some m)/\sw a i j=P++([a.getD j 0]++M++[a.getD i 0])++R:=by
 have gi:a.getD i 0=a[i]:=by rw[aI,aH ()];rfl
 have gj:a.getD j 0=a[j]:=by rw[aI,aH hj];rfl
 obtain⟨M,hM⟩:∃M,M=(a.drop (i+1)).take (j-i-1):=⟨_,rfl⟩;have lM:M.length=j-i-1:=by rw[hM,bB,cM];lia
 have ea:a=a.take i++([a.getD i 0]++M++[a.getD j 0])++a.drop (j+1):=by
  have h1:a.drop i=a[i]::a.drop (i+1):=bS ();have h2:a.drop (i+1)=M++a.drop j:=by
   rw[hM];have:=cA (j-i-1) (a.drop (i+1));rw[List.drop_drop,show i+1+(j-i-1)=j by lia]at this;exact this.symm
  have h3:a.drop j=a[j]::a.drop (j+1):=bS hj
  conv=>lhs;rw[<- cA i a,h1,h2,h3]
  rw[gi,gj];simp
 refine⟨a.take i,M,a.drop (j+1),ea,rfl,λm hm=>?_,?_⟩
 ·rw[hM]at hm;obtain⟨k,hk⟩:=eG hm;have hlt:k<j-i-1:=by
   have:=(aK.mp hk).1;rw[bB]at this;lia
  rw[dh hlt,fB]at hk;exact⟨i+1+k,(),(),hk⟩
 ·have key:∀(P R:ae) (x y x' y':Int),P.length=i->((P++([x]++M++[y])++R).set i y').set j x'=P++([y']++M++[x'])++R:=λP R x y x' y' lP=>by
   rw[bJ,dc _ _ (),lP,fV];show(P++(y'::((M++[y])++R))).set j x'=_;rw[dc _ _ (),lP,show j-i=(j-i-1)+1 by lia,List.set_cons_succ,bJ,dc _ _ (),lM,fV];simp
  have:=key (a.take i) (a.drop (j+1)) (a.getD i 0) (a.getD j 0) (a.getD i 0) (a.getD j 0) (by rw[bB];lia);rw[<- ea]at this;exact this
def qv{a:ae}{i:Nat}(h:i<a.length):a[i]?=some (a.getD i 0):=by rw[aI,aH h];rfl
def part{a b:ae}{n:Nat}(pa:a.Perm (jV 1 ((n:Int)+1)))(pb:b.Perm (jV 1 ((n:Int)+1)))(la:a.length=n)(lb:b.length=n)(hb:Below a b)(hi:a.take i=b.take i)(hin:i<n)(hne:a.getD i 0≠b.getD i 0) :
  a.getD i 0<b.getD i 0/\∃j,i<j/\j<n/\a.getD j 0=b.getD i 0:=by
 have hx:=qv (a:=a) (i:=i) ();have hy:=qv (a:=b) (i:=i) ();have ta:a.take (i+1)=a.take i++[a.getD i 0]:=by rw[jB,hx];rfl
 have tb:b.take (i+1)=b.take i++[b.getD i 0]:=by rw[jB,hy];rfl
 have h:=hb (i+1) (a.getD i 0);rw[ta,tb,hi,cnt_append,cnt_append,EL,EL,aN (d7 _)]at h;have hle:a.getD i 0<=b.getD i 0:=by
  by_cases c:a.getD i 0<=b.getD i 0
  ·exact c
  ·rw[aM c]at h;lia
 refine⟨(),?_⟩;have hm:b.getD i 0∈a:=(pa.trans pb.symm).mem_iff.mpr (aZ hy);obtain⟨j,hj⟩:=eG hm;have hjn:j<n:=by have:=(aK.mp hj).1;lia
 have nb:b.Nodup:=pb.nodup_iff.mpr (oS _ _);refine⟨j,?_,hjn,?_⟩
 ·rcases Nat.lt_trichotomy j i with c|c|c
  ·have e:(a.take i)[j]?=some (b.getD i 0):=by rw[dh c];exact hj
   rw[hi,dh c]at e;obtain⟨h1,g1⟩:=aK.mp e;obtain⟨h2,g2⟩:=aK.mp hy;exact absurd ((d8 nb).mp (g1.trans g2.symm)) ()
  ·subst c;rw[hx]at hj;exact absurd (aW hj) hne
  ·exact c
 ·rw[aI,hj];rfl
def MW{a b:ae}{n:Nat}(la:a.length=n)(lb:b.length=n)(hb:Below a b)(hi:a.take i=b.take i)(hij:i<j)(hj:j<n)(h1:a.getD i 0<a.getD j 0)(h2:a.getD j 0<=b.getD i 0)(hno:∀k,i<k->k<j->¬(a.getD i 0<a.getD k 0/\a.getD k 0<=b.getD i 0))(nd:a.Nodup) :
  Below (sw a i j) b/\inv (sw a i j)=inv a+1/\(sw a i j).Perm a:=by
 obtain⟨P,M,R,ea,eP,hM,es⟩:=split hij (show j<a.length by lia);have eb:b=P++b.getD i 0::b.drop (i+1):=by
  have:b.drop i=b.getD i 0::b.drop (i+1):=by
   rw[bS ()];congr 1;rw[aI,aH ()];rfl
  conv=>lhs;rw[<- cA i b,this,<- hi,<- eP]
 have hgap:∀m∈M,m<a.getD i 0\/b.getD i 0<m:=λm hm=>by
  obtain⟨k,k1,k2,hk⟩:=hM m hm;have e:a.getD k 0=m:=by rw[aI,hk];rfl
  have:=hno k k1 k2;rw[e]at this;have hne:m≠a.getD i 0:=λz=>by
   have hx:=qv (a:=a) (i:=i) ();rw[<- z]at hx;obtain⟨q1,g1⟩:=aK.mp hk;obtain⟨q2,g2⟩:=aK.mp hx;exact absurd ((d8 nd).mp (g1.trans g2.symm)) ()
  lia
 have hgap2:∀m∈M,m<a.getD i 0\/a.getD j 0<m:=λm hm=>by
  rcases hgap m hm with t|t
  ·exact .inl t
  ·right;lia
 refine⟨?_,?_,?_⟩
 ·rw[es,eb];refine CD ?_ h1 h2 hgap;rw[<- ea,<- eb];exact hb
 ·rw[es,step hgap2 h1,<- ea]
 ·rw[es];have:=((qV M (a.getD i 0) (a.getD j 0)).append_left P).append_right R;rw[<- ea]at this;exact this
end Iv
namespace Nu
open PySem L2
abbrev sP:Nat->Nat
 | 0=>1
 | n+1=>(n+1) * sP n
theorem EE:∀n,0<sP n
 | 0=>Nat.one_pos
 | n+1=>Nat.mul_pos (jn _) (EE n)
def Bt(n:Nat):sP n<=sP (n+1):=Nat.le_mul_of_pos_left _ (jn _)
def J5{a:Nat}(h:a<=b):sP a<=sP b:=by
 induction h with
 | refl=>exact aP _
 | step _ ih=>exact bV ih (Bt _)
abbrev rank:ae->Nat
 | []=>0
 | x::xs=>(xs.filter (· < x)).length * sP xs.length+rank xs
abbrev To:Nat->ae->Nat->ae
 | 0,_,_=>[]
 | n+1,l,m=>l.getD (m / sP n) 0::To n (l.eraseIdx (m / sP n)) (m % sP n)
def GR{l:ae}{q:Nat}(hs:l.Pairwise (· < ·))(h:q<l.length):((l.eraseIdx q).filter (· < l[q])).length=q:=by
 have e:l=l.take q++l[q]::l.drop (q+1):=by rw[gS,cA]
 rw[gU,i7];have hs':=hs;rw[e,cg]at hs';obtain⟨_,h2,h3⟩:=hs';rw[eX.mpr λa ha=>br (h3 a ha _ (aR ..)),List.filter_eq_nil_iff.mpr λa ha z=>?_]
 ·rw[cW,bB];lia
 ·have z:=dG z;have:=(cF.mp h2).1 a ha
  lia
def qu{l:ae}{i:Nat}(h:i<l.length):(l[i]::l.eraseIdx i).Perm l:=by
 have e:l=l.take i++l[i]::l.drop (i+1):=by rw[gS,cA]
 rw[gU];exact(List.perm_middle.symm).trans (by rw[<- e])
def MP{l:ae}{q:Nat}(h:q<l.length):l.getD q 0=l[q]:=by rw[aI,aH h];rfl
theorem Er:∀(n:Nat) (l xs:ae),l.length=n->l.Pairwise (· < ·)->xs.Perm l->rank xs<sP n/\To n l (rank xs)=xs
 | 0,l,xs,hl,_,hp=>by
  have:l=[]:=List.eq_nil_of_length_eq_zero hl;subst this;have:=hp.eq_nil;subst this;exact⟨Nat.one_pos,rfl⟩
 | n+1,l,[],hl,_,hp=>by have:=hp.length_eq;rw[hl]at this;cases this
 | n+1,l,x::xs,hl,hs,hp=>by
  have hx:x∈l:=hp.mem_iff.mp (aR ..);obtain⟨j,hj,ej⟩:=List.getElem_of_mem hx;have hp':xs.Perm (l.eraseIdx j):=by
   have h1:=qu hj;rw[ej]at h1;exact(hp.trans h1.symm).cons_inv
  have le:(l.eraseIdx j).length=n:=by rw[List.length_eraseIdx,aN hj];lia
  obtain⟨h1,h2⟩:=Er n (l.eraseIdx j) xs le (hs.sublist (List.eraseIdx_sublist ..)) hp';have hc:(xs.filter (· < x)).length=j:=by
   rw[(hp'.filter _).length_eq,<- ej];exact GR hs hj
  have lx:xs.length=n:=by rw[hp'.length_eq,le]
  have er:rank (x::xs)=j * sP n+rank xs:=by
   show(xs.filter (· < x)).length * sP xs.length+rank xs=_;rw[hc,lx]
  have ed:(j * sP n+rank xs) / sP n=j:=by
   rw[mul_comm,Nat.mul_add_div (EE n),Nat.div_eq_of_lt h1];rfl
  have em:(j * sP n+rank xs) % sP n=rank xs:=by
   rw[mul_comm,Nat.mul_add_mod,Nat.mod_eq_of_lt h1]
  rw[er];refine⟨?_,?_⟩
  ·show _<(n+1) * sP n
   calc j * sP n+rank xs<j * sP n+sP n:=()
    _=(j+1) * sP n:=(Nat.succ_mul _ _).symm
    _<=(n+1) * sP n:=Nat.mul_le_mul_right _ ()
  ·show l.getD ((j * sP n+rank xs) / sP n) 0::To n (l.eraseIdx ((j * sP n+rank xs) / sP n)) ((j * sP n+rank xs) % sP n)=_;rw[ed,em,MP hj,ej,h2]
def Kv(i j:Int):(jV i j).Pairwise (· < ·):=by
 unfold jV;rw[eF];exact gG.imp λh=>()
end Nu
namespace Fw
open PySem L2 Bl
open Wd (ex led)
meta abbrev rg (n:Nat):ae:=jV 1 ((n:Int)+1)
def EN{l:ae}{k:Nat}(h0:1<=k)(h:k<l.length):ex (ex l k) k=l:=by
 apply bW;intro p;have h':k<(ex l k).length:=by rw[Wd.mR];exact h
 rw[Wd.oQ h0 h',Wd.oQ h0 h,Wd.oQ h0 h,Wd.oQ h0 h];by_cases c3:p=k
 ·rw[aN c3,aM (),aN rfl,c3]
 ·rw[aM c3];by_cases c2:p=k-1
  ·rw[aN c2,aN rfl,c2]
  ·rw[aM c2,aM c3,aM c2]
def OQ{l:ae}{k:Nat}(h0:1<=k)(h:k<l.length):(ex l k).getD k 0=l.getD (k-1) 0:=by
 rw[aI,Wd.oQ h0 h,aN rfl,aI]
def N5{l:ae}{k:Nat}(h0:1<=k)(h:k<l.length):(ex l k).getD (k-1) 0=l.getD k 0:=by
 rw[aI,Wd.oQ h0 h,aM (),aN rfl,aI]
def yw{l:ae}{k:Nat}(h0:1<=k)(h:k<l.length)(hr:l.getD (k-1) 0<l.getD k 0):Iv.inv (ex l k)=Iv.inv l+1:=by
 obtain⟨P,M,R,e,_,hM,es⟩:=Iv.split (a:=l) (i:=k-1) (j:=k) () h;have:=Iv.step (P:=P) (M:=M) (R:=R) (x:=l.getD (k-1) 0) (y:=l.getD k 0) (λm hm=>by obtain⟨_,_,_,_⟩:=hM m hm;lia) hr;rw[<- es,<- e]at this;exact this
def vL{l:ae}{k:Nat}(h0:1<=k)(h:k<l.length)(hr:l.getD k 0<l.getD (k-1) 0):Iv.inv l=Iv.inv (ex l k)+1:=by
 have:=yw (l:=ex l k) h0 (by rw[Wd.mR];exact h) (by rw[OQ h0 h,N5 h0 h];exact hr);rw[EN h0 h]at this;exact this
abbrev Va (n:Nat)(w:ag):Prop:=∀k∈w,1<=k/\k<n
def Va.tail{n k:Nat}{w:ag}(h:Va n (k::w)):Va n w:=λj hj=>h j (aT _ hj)
def Va.head{n k:Nat}{w:ag}(h:Va n (k::w)):1<=k/\k<n:=h k (aR ..)
theorem wY:∀{w:ag}{l:ae},Va l.length w->led (led l w) w.reverse=l
 | [],l,_=>rfl
 | k::w,l,h=>by
  rw[dR,Wd.wL];show led (led (led (ex l k) w) w.reverse) [k]=l;rw[wY (w:=w) (l:=ex l k) (by rw[Wd.mR];exact h.tail)];exact EN h.head.1 h.head.2
theorem CQ:∀{l:ae},l.Pairwise (·<=·)->Iv.inv l=0
 | [],_=>rfl
 | x::l,h=>by
  show l.countP (λy=>decide (y<x))+Iv.inv l=0;rw[CQ (cF.mp h).2,iR.mpr λa ha z=>by have:=dG z;have:=(cF.mp h).1 a ha;lia]
def vp(n:Nat):Iv.inv (rg n)=0:=CQ (DY _ _)
abbrev zX (l:ae)(k:Nat):Prop:=1<=k/\k<l.length/\l.getD k 0<l.getD (k-1) 0
def Ow{l:ae}(h:∀k,¬zX l k):l.Pairwise (·<=·):=by
 have key:∀d i,i+d<l.length->l.getD i 0<=l.getD (i+d) 0:=by
  intro d
  induction d with
  | zero=>intro i _;exact d7 _
  | succ d ih=>
   intro i hi;have h1:=ih i ();have h2:¬l.getD (i+d+1) 0<l.getD (i+d) 0:=λz=>h (i+d+1) ⟨(),hi,z⟩;rw[<- iA];lia
 rw[dI];intro i j hi hj hij;have:=key (j-i) i ();rw[show i+(j-i)=j by lia,Wd.kh hi,Wd.kh hj]at this;exact this
def Ef{l:ae}{n:Nat}(p:l.Perm (rg n))(h:∀k,¬zX l k):l=rg n:=
 f_ (λx y _ _ h1 h2=>jv h1 h2) (Ow h) (DY _ _) p
def NL(h:0<Iv.inv l):∃k,zX l k:=by
 refine fY λz=>?_;rw[CQ (Ow λk hk=>z ⟨k,hk⟩)]at h;exact absurd h (fF _)
abbrev Dn:ae->ag->Prop
 | l,[]=>∀k,¬zX l k
 | l,k::ks=>(zX l k/\∀j,zX l j->k<=j)/\Dn (ex l k) ks
def yN{l:ae}{n k:Nat}(p:l.Perm (rg n))(h0:1<=k)(h:k<l.length):(ex l k).Perm (rg n):=(Wd.zK h0 h).trans p
def Dn.va:∀{ks:ag}{l:ae},Dn l ks->Va l.length ks
 | [],l,_=>λk hk=>absurd hk (by simp)
 | k::ks,l,h=>λj hj=>by
  rcases bL.mp hj with rfl|z
  ·exact⟨h.1.1.1,h.1.1.2.1⟩
  ·have:=h.2.va j z
   rwa [Wd.mR]at this
theorem Dn.led:∀{ks:ag}{l:ae}{n:Nat},Dn l ks->l.Perm (rg n)->led l ks=rg n
 | [],l,n,h,p=>Ef p h
 | k::ks,l,n,h,p=>Dn.led (ks:=ks) h.2 (yN p h.1.1.1 h.1.1.2.1)
theorem Ju:∀(m:Nat) (l:ae),Iv.inv l<=m->∃ks,Dn l ks
 | 0,l,h=>⟨[],λk hk=>by have:=vL hk.1 hk.2.1 hk.2.2;lia⟩
 | m+1,l,h=>by
  by_cases c:∃k,zX l k
  ·obtain⟨k,hk,hmin⟩:∃k,zX l k/\∀j,zX l j->k<=j:=by
    obtain⟨k,hk⟩:=c
    induction k using Nat.strongRecOn with
    | ind k ih=>
     by_cases z:∃j,zX l j/\j<k
     ·obtain⟨j,hj,hlt⟩:=z;exact ih j hlt hj
     ·exact⟨k,hk,λj hj=>Nat.le_of_not_lt λy=>z ⟨j,hj,y⟩⟩
   have:=vL hk.1 hk.2.1 hk.2.2;obtain⟨ks,hks⟩:=Ju m (ex l k) ();exact⟨k::ks,⟨hk,hmin⟩,hks⟩
  ·exact⟨[],λk hk=>c ⟨k,hk⟩⟩
def Gv{a c:ae}{n:Nat}(pa:a.Perm (rg n))(h1:nZ a b)(h2:nZ b c):a=c:=by
 have l1:=h1.1;have l2:=h2.1;refine iy () λq hq hq'=>?_;have e1:=h1.2 q hq;have hm:=(kG.mp (pa.mem_iff.mp (c7 hq)));obtain⟨hb,eb⟩:=aK.mp e1;have e2:=h2.2 _ hb;rw[eb,show((q:Int)+1-1).toNat=q by lia,aH hq']at e2;have:=aW e2
 lia
structure Two (n:Nat)(o u:ae):Prop where
 po:o.Perm (rg n)
 pu:u.Perm (rg n)
 ou:nZ o u
def Two.lu{n:Nat}{u:ae}(t:Two n o u):u.length=n:=by rw[t.pu.length_eq,Wd.kj]
def Two.lo{n:Nat}{o:ae}(t:Two n o u):o.length=n:=by rw[t.po.length_eq,Wd.kj]
def Two.led{n:Nat}(t:Two n o u)(h:Dn u ks):Wd.led (rg n) ks=o:=by
 have v:Va n ks:=by have:=h.va;rwa [t.lu]at this
 have e:=h.led t.pu;have e2:u=Wd.led (rg n) ks.reverse:=by rw[<- e,wY (by rw[t.lu];exact v)]
 have b:=Wd.qa ks v;rw[<- show u=Wd.led (jV 1 ((n:Int)+1)) ks.reverse from e2]at b;exact(Gv t.po t.ou b).symm
def Two.uo{n:Nat}(t:Two n o u):nZ u o:=by
 obtain⟨ks,h⟩:=Ju _ u (aP _);have v:Va n ks:=by have:=h.va;rwa [t.lu]at this
 have e:=h.led t.pu;have e2:u=Wd.led (rg n) ks.reverse:=by rw[<- e,wY (by rw[t.lu];exact v)]
 have b:=Wd.qa ks v;rw[<- show u=Wd.led (jV 1 ((n:Int)+1)) ks.reverse from e2,show Wd.led (jV 1 ((n:Int)+1)) ks=o from t.led h]at b;exact b
def Two.flip{n:Nat}(t:Two n o u):Two n u o:=⟨t.pu,t.po,t.uo⟩
end Fw
namespace Ti
open PySem L2 Bl
open Wd (ex led)
open Fw (rg Va zX)
inductive Mv:ag->ag->Prop
 | comm (P R:ag) (a b:Nat) (h:a+2<=b\/b+2<=a):Mv (P++a::b::R) (P++b::a::R)
 | braid (P R:ag) (a b:Nat) (h:a+1=b\/b+1=a):Mv (P++a::b::a::R) (P++b::a::b::R)
inductive Con:ag->ag->Prop
 | refl (u:ag):Con u u
 | step {u v w:ag} (h:Con u v) (m:Mv v w):Con u w
end Ti
namespace Rd
open PySem L2
open Ti (Mv Con)
meta abbrev up (v:ag):ae:=v.map λk:Nat=>(k:Int)
theorem yi:∀(N:Nat) (l:ag),l.Nodup->(∀x∈l,x<N)->l.length<=N
 | 0,l,_,h=>by
  cases l with
  | nil=>exact aP _
  | cons x l=>exact absurd (h x (aR ..)) (iI _)
 | N+1,l,hn,h=>by
  by_cases c:N∈l
  ·have h1:=yi N (l.erase N) (hn.erase N) λx hx=>by
    have h1:=(List.Nodup.mem_erase_iff hn).mp hx;have:=h x h1.2;have:=h1.1
    lia
   have:=List.length_erase_of_mem c;have:=gO c
   lia
  ·have:=yi N l hn λx hx=>by
    have:=h x hx;have:x≠N:=λz=>c (z ▸ hx)
    lia
   lia
abbrev code:ag->Nat
 | []=>0
 | a::r=>(a-1)+8 * code r
abbrev Wt (L:Nat)(w:ag):Prop:=w.length=L/\∀k∈w,1<=k/\k<=8
meta abbrev En:=ag×Option (ag)
structure Bf (s:ag)(es:List En)(done:Nat):Prop where
 nd:(es.map (·.1)).Nodup
 hd:es[0]?=some (s,none)
 pr:∀i w q,es[i]?=some (w,q)->(i=0/\q=none)\/∃j r u,j<i/\es[j]?=some (u,r)/\q=some u/\Mv u w
 co:∀w∈es.map (·.1),Con s w
 cl:∀i w q,i<done->es[i]?=some (w,q)->∀w',Mv w w'->w'∈es.map (·.1)
 le:done<=es.length
end Rd
namespace Stp
open PySem L2 Iv
abbrev mm (a:ae)(i j:Nat):ae:=(a.drop (i+1)).take (j-i-1)
abbrev AM (x y m:Int):Bool:=decide (x<m) && decide (m<y)
theorem SA{x y:Int}(hxy:x<y):∀{M:ae},(∀m∈M,m≠x/\m≠y)->M.countP (λm=>decide (m<y))=M.countP (λm=>decide (m<x))+M.countP (AM x y)
 | [],_=>rfl
 | m::M,h=>by
  have ih:=SA hxy (M:=M) λk hk=>h k (aT _ hk);have hm:=h m (aR ..);rw[bO,bO,bO,ih];unfold AM;by_cases c:m<x
  ·rw[br c,br (show m<y by lia),bu (show ¬x<m by lia)];simp;lia
  ·rw[bu c,br (show x<m by lia)];by_cases c2:m<y
   ·rw[br c2];simp;lia
   ·rw[bu c2];simp
theorem T_{x y:Int}(hxy:x<y):∀{M:ae},(∀m∈M,m≠x/\m≠y)->kQ M [x]=kQ M [y]+M.countP (AM x y)
 | [],_=>rfl
 | m::M,h=>by
  have ih:=T_ hxy (M:=M) λk hk=>h k (aT _ hk);have hm:=h m (aR ..);rw[nJ,nJ,ih,bO (l:=M)];dsimp[bO,iL];unfold AM;by_cases c:x<m
  ·rw[br c];by_cases c2:m<y
   ·rw[br c2,bu (show ¬y<m by lia)];simp;lia
   ·rw[bu c2,br (show y<m by lia)];simp;lia
  ·rw[bu c,bu (show ¬y<m by lia)];simp
def V2{M:ae}{x y:Int}(h:∀m∈M,m≠x/\m≠y)(hxy:x<y):inv ([y]++M++[x])=inv ([x]++M++[y])+1+2 * M.countP (AM x y):=by
 rw[j6,j6,j6 ([x]++M),j6 [x]];have e1:kQ [y] M=kQ [x] M+M.countP (AM x y):=by
  show M.countP _+0=M.countP _+0+_;rw[SA hxy h];lia
 have e2:kQ ([y]++M) [x]=1+kQ M [x]:=by
  show[x].countP _+kQ M [x]=_;rw[bO,br hxy];rfl
 have e3:kQ ([x]++M) [y]=kQ M [y]:=by
  show[y].countP _+kQ M [y]=_;rw[bO,bu (by lia:¬y<x)];simp
 rw[e1,e2,e3,T_ hxy h];show 0+inv M+_+0+_=0+inv M+_+0+_+1+_
 lia
def LN{P M R:ae}{x y:Int}(h:∀m∈M,m≠x/\m≠y)(hxy:x<y):inv (P++([y]++M++[x])++R)=inv (P++([x]++M++[y])++R)+1+2 * M.countP (AM x y):=by
 have p:=qV M x y;rw[j6,j6 P,j6 (P++([x]++M++[y])),j6 P,V2 h hxy,E1 P p,Gb R (p.append_left P)]
 lia
def parts{a:ae}(hij:i<j)(hj:j<a.length):a=a.take i++([a.getD i 0]++mm a i j++[a.getD j 0])++a.drop (j+1):=by
 have gi:a.getD i 0=a[i]:=by rw[aI,aH ()];rfl
 have gj:a.getD j 0=a[j]:=by rw[aI,aH hj];rfl
 have h1:a.drop i=a[i]::a.drop (i+1):=bS ();have h2:a.drop (i+1)=mm a i j++a.drop j:=by
  have:=cA (j-i-1) (a.drop (i+1));rw[List.drop_drop,show i+1+(j-i-1)=j by lia]at this;exact this.symm
 have h3:a.drop j=a[j]::a.drop (j+1):=bS hj
 conv=>lhs;rw[<- cA i a,h1,h2,h3]
 rw[gi,gj];simp
def Uy{a:ae}(hij:i<j)(hj:j<a.length):sw a i j=a.take i++([a.getD j 0]++mm a i j++[a.getD i 0])++a.drop (j+1):=by
 have lM:(mm a i j).length=j-i-1:=by unfold mm;rw[bB,cM];lia
 have key:∀(P R:ae) (x y x' y':Int),P.length=i->((P++([x]++mm a i j++[y])++R).set i y').set j x'=P++([y']++mm a i j++[x'])++R:=λP R x y x' y' lP=>by
  rw[bJ,dc _ _ (),lP,fV];show(P++(y'::((mm a i j++[y])++R))).set j x'=_;rw[dc _ _ (),lP,show j-i=(j-i-1)+1 by lia,List.set_cons_succ,bJ,dc _ _ (),lM,fV];simp
 have:=key (a.take i) (a.drop (j+1)) (a.getD i 0) (a.getD j 0) (a.getD i 0) (a.getD j 0) (by rw[bB];lia);rw[<- parts hij hj]at this;exact this
def Th{a:ae}(nd:a.Nodup)(hij:i<j)(hj:j<a.length):∀m∈mm a i j,m≠a.getD i 0/\m≠a.getD j 0:=λm hm=>by
 have e:=parts hij hj;rw[e]at nd;have nd2:=(cP.mp (cP.mp nd).1).2.1;have n3:=cP.mp nd2;have n4:=cP.mp n3.1;exact⟨λz=>n4.2.2 _ (bh.mpr rfl) m hm z.symm,λz=>n3.2.2 m (a_ _ hm) _ (bh.mpr rfl) z⟩
abbrev GY (a:ae)(i j:Nat):Bool:=!(mm a i j).any λm=>AM (if a.getD j 0<a.getD i 0 then a.getD j 0 else a.getD i 0) (if a.getD j 0>a.getD i 0 then a.getD j 0 else a.getD i 0) m
def M0(p:Int->Bool)(M:ae):(!M.any p)=decide (M.countP p=0):=by
 by_cases h:M.countP p=0
 ·rw[br h];rw[iR]at h;dsimp[Bool.not_eq_true',List.any_eq_false];exact h
 ·rw[bu h];have:M.any p=true:=by
   rw[List.any_eq_true];refine fY λz=>h (iR.mpr λa ha hp=>z ⟨a,ha,hp⟩)
  rw[this];rfl
def QO{a:ae}(nd:a.Nodup)(hij:i<j)(hj:j<a.length):(decide (a.getD i 0<a.getD j 0) && GY a i j)=(decide (a.getD i 0<a.getD j 0) && decide (inv (sw a i j)=inv a+1)):=by
 by_cases c:a.getD i 0<a.getD j 0
 ·have e:=LN (P:=a.take i) (R:=a.drop (j+1)) (Th nd hij hj) c;rw[<- Uy hij hj,<- parts hij hj]at e;unfold GY;rw[M0,aM (),aN c,br c,je,je,decide_eq_decide];show(mm a i j).countP (AM (a.getD i 0) (a.getD j 0))=0 ↔ _
  lia
 ·rw[bu c];rfl
def MK{a:ae}(hij:i<j)(hj:j<a.length):(sw a i j).Perm a:=by
 have e:=parts hij hj;rw[Uy hij hj]
 conv=>rhs;rw[e]
 exact((qV _ _ _).append_left _).append_right _
end Stp
namespace Cw
open PySem L2 Bl
open Wd (ex sw)
open Fw (rg)
abbrev rs (n:Nat):ag:=(jV 1 (n:Int)).map Int.toNat
abbrev sm (n:Nat)(f:Nat->Nat):Nat:=((rs n).map f).sum
abbrev cR (n:Nat):Nat->ae->Nat
 | 0,_=>1
 | m+1,l=>sm n λk=>if Iv.inv (ex l k)=m then cR n m (ex l k)else 0
abbrev cL (n:Nat):Nat->ae->Nat
 | 0,_=>1
 | m+1,l=>sm n λk=>if Iv.inv (l.map (sw k))=m then cL n m (l.map (sw k))else 0
def zero{n:Nat}{l:ae}(p:l.Perm (rg n))(h:Iv.inv l=0):l=rg n:=Fw.Ef p λk hk=>by
 have:=Fw.vL hk.1 hk.2.1 hk.2.2
 lia
end Cw
namespace Eu
open PySem L2 Bl
open Wd (ex vm)
open Fw (rg zX)
def kh{l:ae}{k:Nat}(h:k<l.length):l.getD k 0=l[k]:=by rw[aI,aH h];rfl
theorem low{a b:ae}{k:Nat}(hl:a.length=b.length)(h0:1<=k)(h:k<b.length)(hb:b.getD k 0<b.getD (k-1) 0)(ha:a.getD (k-1) 0<=a.getD k 0)(hab:Below a b):Below a (ex b k):=by
 have hu:k<a.length:=()
 rw[kh h,kh (show k-1<b.length by lia)]at hb;rw[kh hu,kh (show k-1<a.length by lia)]at ha;intro i j;rw[vm h0 h];by_cases hi:i=k
 ·subst hi;rw[aN rfl];have b1:=hab (i-1) j;have b3:=hab (i+1) j;have c1:=kT (l:=a) (i:=i-1) () j;have c2:=kT (l:=b) (i:=i-1) () j;have c3:=kT (l:=a) (i:=i) hu j;have c4:=kT (l:=b) (i:=i) h j;rw[show i-1+1=i by lia]at c1 c2;rw[c3,c4,c1,c2]at b3;rw[c1,c2];revert b1 b3
  (repeat' split)<;>intros<;>lia
 ·rw[aM hi];have:=hab i j
  lia
def VZ{a b:ae}{k:Nat}(hl:a.length=b.length)(h0:1<=k)(h:k<b.length)(hb:b.getD k 0<b.getD (k-1) 0)(ha:a.getD k 0<=a.getD (k-1) 0)(hab:Below a b):Below (ex a k) (ex b k):=by
 have hu:k<a.length:=()
 rw[kh h,kh (show k-1<b.length by lia)]at hb;rw[kh hu,kh (show k-1<a.length by lia)]at ha;intro i j;rw[vm h0 h,vm h0 hu];by_cases hi:i=k
 ·subst hi;rw[aN rfl,aN rfl];have b1:=hab (i-1) j;have b3:=hab (i+1) j;have c1:=kT (l:=a) (i:=i-1) () j;have c2:=kT (l:=b) (i:=i-1) () j;have c3:=kT (l:=a) (i:=i) hu j;have c4:=kT (l:=b) (i:=i) h j;rw[show i-1+1=i by lia]at c1 c2;rw[c3,c4,c1,c2]at b3;rw[c1,c2];revert b1 b3
  (repeat' split)<;>intros<;>lia
 ·rw[aM hi,aM hi];have:=hab i j
  lia
section
variable {n k:Nat}
def ln{z:ae}(p:z.Perm (rg n)):z.length=n:=by rw[p.length_eq,Wd.kj]
def PY{z:ae}(p:z.Perm (rg n))(h0:1<=k)(h:k<n):(ex z k).Perm (rg n):=Fw.yN p h0 (by rw[ln p];exact h)
def Sb{z:ae}(p:z.Perm (rg n))(h0:1<=k)(h:k<n):ex (ex z k) k=z:=Fw.EN h0 (by rw[ln p];exact h)
def hi{z:ae}(p:z.Perm (rg n))(h0:1<=k)(h:k<n):(ex z k).getD k 0=z.getD (k-1) 0:=Fw.OQ h0 (by rw[ln p];exact h)
def lo{z:ae}(p:z.Perm (rg n))(h0:1<=k)(h:k<n):(ex z k).getD (k-1) 0=z.getD k 0:=Fw.N5 h0 (by rw[ln p];exact h)
def WN{z:ae}(p:z.Perm (rg n))(h0:1<=k)(h:k<n)(hr:z.getD (k-1) 0<z.getD k 0):Below z (ex z k):=by
 have l:=ln p;refine Wd.up h0 () ?_;rw[<- kh,<- kh];exact hr
def WL{u w:ae}(pu:u.Perm (rg n))(pw:w.Perm (rg n))(h0:1<=k)(h:k<n)(hr:w.getD (k-1) 0<w.getD k 0)(hb:Below u w):Below (ex u k) (ex w k):=by
 have l:=ln pw;refine Wd.lift (by rw[ln pu,ln pw]) h0 () ?_ hb;rw[<- kh,<- kh];exact hr
end
abbrev al (n:Nat):List (ae):=(List.range (Nu.sP n)).map (Nu.To n (rg n))
abbrev sg (z:ae):Int:=if Iv.inv z % 2=1 then -1 else 1
open Classical in
abbrev sm (n:Nat)(P:ae->Prop):Int:=((al n).map λz=>if P z then sg z else 0).sum
end Eu
namespace Eu
open PySem L2 Bl Am
open Fw (rg)
def least{p:Nat->Prop}:∀m,p m->∃q,p q/\∀k,k<q->¬p k:=by
 intro m
 induction m using Nat.strongRecOn with
 | _ m ih=>
  intro h;by_cases c:∃k,k<m/\p k
  ·obtain⟨k,h1,h2⟩:=c;exact ih k h1 h2
  ·exact⟨m,h,λk hk hp=>c ⟨k,hk,hp⟩⟩
def asc{n:Nat}{y z:ae}(py:y.Perm (rg n))(pz:z.Perm (rg n))(hb:Below y z)(hne:y≠z):∃i j,i<j/\j<n/\y.getD i 0<y.getD j 0/\Stp.GY y i j=true/\Below (Iv.sw y i j) z/\Iv.inv (Iv.sw y i j)=Iv.inv y+1/\(Iv.sw y i j).Perm (rg n):=by
 have ly:=ln py;have lz:=ln pz;have ny:y.Nodup:=py.nodup_iff.mpr (oS _ _);have hex:∃i,i<n/\y.getD i 0≠z.getD i 0:=by
  by_cases c:∃i,i<n/\y.getD i 0≠z.getD i 0
  ·exact c
  ·exfalso;refine hne (iy () λi h1 h2=>?_);rw[<- kh,<- kh];by_cases d:y.getD i 0=z.getD i 0
   ·exact d
   ·exact absurd ⟨i,(),d⟩ c
 obtain⟨i0,h0⟩:=hex;obtain⟨i,⟨hi,hd⟩,hmin⟩:=least (p:=λi=>i<n/\y.getD i 0≠z.getD i 0) i0 h0;have ht:y.take i=z.take i:=by
  apply bW;intro k;rw[List.getElem?_take,List.getElem?_take];by_cases c:k<i
  ·rw[aN c,aN c];have e:y.getD k 0=z.getD k 0:=by
    by_cases q:y.getD k 0=z.getD k 0
    ·exact q
    ·exact absurd ⟨(),q⟩ (hmin k c)
   rw[Iv.qv (),Iv.qv (),e]
  ·rw[aM c,aM c]
 obtain⟨hlt,j0,g1,g2,g3⟩:=Iv.part py pz ly lz hb ht hi hd;obtain⟨j,⟨hj1,hj2,hj3,hj4⟩,hjm⟩:=least (p:=λj=>i<j/\j<n/\y.getD i 0<y.getD j 0/\y.getD j 0<=z.getD i 0) j0 ⟨g1,g2,(),()⟩;obtain⟨b1,b2,b3⟩:=Iv.MW ly lz hb ht hj1 hj2 hj3 hj4 (λk h1 h2 ⟨h3,h4⟩=>hjm k h2 ⟨h1,(),h3,h4⟩) ny;refine⟨i,j,hj1,hj2,hj3,?_,b1,b2,b3.trans py⟩;have:=Stp.QO ny hj1 (show j<y.length by lia);rw[br hj3,br b2,je]at this;exact this
structure Done (n:Nat)(u w:ae)(es:List (ae×Bool)):Prop where
 nd:(es.map (·.1)).Nodup
 pm:∀e∈es,e.1.Perm (rg n)
 up:∀e∈es,Below u e.1
 fl:∀e∈es,(e.2=true ↔ Below e.1 w)
 st:u∈es.map (·.1)
 cl:∀e∈es,e.2=true->∀i j,i<j->j<n->e.1.getD i 0<e.1.getD j 0->Stp.GY e.1 i j=true->Iv.sw e.1 i j∈es.map (·.1)
def Done.all{n:Nat}{w:ae}{es:List (ae×Bool)}(d:Done n u w es){z:ae}(pz:z.Perm (rg n))(hz:Below z w):∀(m:Nat) (y:ae),n * n-Iv.inv y=m->y∈es.map (·.1)->Below y z->z∈es.map (·.1):=by
 intro m
 induction m using Nat.strongRecOn with
 | _ m ih=>
  intro y hm hy hb;by_cases c:y=z
  ·rw[<- c];exact hy
  ·obtain⟨⟨y',b⟩,he,hye⟩:=bH.mp hy;have hye:y'=y:=hye;subst hye;have py:y'.Perm (rg n):=d.pm _ he;obtain⟨i,j,h1,h2,h3,h4,h5,h6,h7⟩:=asc py pz hb c;have hm2:=Iv.tV (Iv.sw y' i j);rw[ln h7,h6]at hm2;exact ih (n * n-Iv.inv (Iv.sw y' i j)) () _ rfl (d.cl _ he ((d.fl _ he).mpr (hb.trans hz)) i j h1 h2 h3 h4) h5
def Done.mem{n:Nat}{w:ae}{es:List (ae×Bool)}(d:Done n u w es)(z:ae):z∈(es.filter (·.2)).map (·.1) ↔ z.Perm (rg n)/\Below u z/\Below z w:=by
 rw[bH];constructor
 ·rintro⟨e,he,rfl⟩;obtain⟨h1,h2⟩:=cj.mp he;exact⟨d.pm e h1,d.up e h1,(d.fl e h1).mp h2⟩
 ·rintro⟨pz,h1,h2⟩;have:=d.all pz h2 _ u rfl d.st h1;obtain⟨e,he,rfl⟩:=bH.mp this;exact⟨e,cj.mpr ⟨he,(d.fl e he).mpr h2⟩,rfl⟩
def Done.nodup{n:Nat}{w:ae}{es:List (ae×Bool)}(d:Done n u w es):((es.filter (·.2)).map (·.1)).Nodup:=(d.nd).sublist ((eY (l:=es)).map _)
abbrev ext (n:Nat)(p:ae):List (ae):=((rg n).filter λt=>decide (t∉p)).map λt=>p++[t]
abbrev inj (n:Nat):Nat->List (ae)
 | 0=>[[]]
 | k+1=>(inj n k).flatMap (ext n)
theorem uQ{n:Nat}:∀{k:Nat}{p:ae},p∈inj n k ↔ p.length=k/\p.Nodup/\∀t∈p,t∈rg n
 | 0,p=>by
  unfold inj;rw[bh];constructor
  ·rintro rfl;simp
  ·rintro⟨h,_⟩;exact dj.mp h
 | k+1,p=>by
  unfold inj;rw[iz];constructor
  ·rintro⟨q,hq,hp⟩;obtain⟨t,ht,rfl⟩:=bH.mp hp;obtain⟨h1,h2⟩:=cj.mp ht;obtain⟨a,b,c⟩:=uQ.mp hq;have h2:t∉q:=dG h2;refine⟨by simp[a],?_,λx hx=>?_⟩
   ·rw[cP];refine⟨b,by simp,λx hx y hy z=>h2 ?_⟩;have:y=t:=by simpa using hy
    rw[<- this,<- z];exact hx
   ·rcases bq.mp hx with z|z
    ·exact c x z
    ·have:x=t:=by simpa using z
     rw[this];exact h1
  ·rintro⟨h1,h2,h3⟩
   rcases g_ p with c|⟨q,t,c⟩
   ·rw[c]at h1;simp at h1
   ·rw[h_]at c;subst c;rw[cP]at h2;refine⟨q,uQ.mpr ⟨by simpa using h1,h2.1,λx hx=>h3 x (bN _ hx)⟩,bH.mpr ⟨t,cj.mpr ⟨h3 t (by simp),br λz=>h2.2.2 t z t (by simp) rfl⟩,rfl⟩⟩
def Ae{n:Nat}{p:ae}:p∈inj n n ↔ p.Perm (rg n):=by
 rw[uQ];constructor
 ·rintro⟨h1,h2,h3⟩;exact vY h2 h3 (by rw[h1,Wd.kj];exact aP _)
 ·intro p';exact⟨ln p',p'.nodup_iff.mpr (oS _ _),λt ht=>p'.mem_iff.mp ht⟩
theorem EB:∀{a b:ae}(x y:ae),a.length=b.length->HT.lexLt a b=true->HT.lexLt (a++x) (b++y)=true
 | [],[],_,_,_,h=>by cases h
 | [],_::_,_,_,h,_=>by simp at h
 | _::_,[],_,_,h,_=>by simp at h
 | p::a,q::b,x,y,hl,h=>by
  show HT.lexLt (p::(a++x)) (q::(b++y))=true;rw[HT.mQ]at h ⊢;by_cases c:p=q
  ·rw[aN c]at h ⊢;exact EB x y (by simpa using hl) h
  ·rw[aM c]at h ⊢;exact h
theorem Cf:∀(p:ae) {s t:Int},s<t->HT.lexLt (p++[s]) (p++[t])=true
 | [],s,t,h=>by
  show HT.lexLt [s] [t]=true;rw[HT.mQ,aM (),br h]
 | x::p,s,t,h=>by
  show HT.lexLt (x::(p++[s])) (x::(p++[t]))=true;rw[HT.mQ,aN rfl];exact Cf p h
theorem Af{n:Nat}:∀(k:Nat),(inj n k).Pairwise λa b=>HT.lexLt a b=true
 | 0=>dU _ _
 | k+1=>by
  unfold inj;rw[List.pairwise_flatMap];refine⟨λp hp=>?_,gh (λ{a b} ha hb hab x hx y hy=>?_) (Af k)⟩
  ·unfold ext;rw[eF];refine gT (λ{a b} hab=>Cf p hab) ?_;exact(Nu.Kv _ _).sublist eY
  ·obtain⟨s,_,rfl⟩:=bH.mp hx;obtain⟨t,_,rfl⟩:=bH.mp hy;exact EB [s] [t] (by rw[(uQ.mp ha).1,(uQ.mp hb).1]) hab
def Ue{a:ae}(h:HT.lexLt a b=true):GU a b:=by
 show HT.lexLt b a=false
 cases c:HT.lexLt b a with
 | false=>rfl
 | true=>
  have:=Sx.wZ h c;rw[Sx.rY]at this;cases this
def Um{n:Nat}{w:ae}{fs:List (ae)}(nf:fs.Nodup)(hm:∀z,z∈fs ↔ z.Perm (rg n)/\Below u z/\Below z w)(q:ae->Bool)(hq:∀z,z.Perm (rg n)->(q z=true ↔ Below u z/\Below z w)):mZ fs=(inj n n).filter q:=by
 symm
 refine wM ?_ ?_
 ·have nd:((inj n n).filter q).Nodup:=by
   refine ie eY (gT (λ{a b} h z=>?_) (Af n));rw[z,Sx.rY]at h;cases h
  refine(fQ nd nf).mpr λz=>?_;rw[hm,cj,Ae];constructor
  ·rintro⟨h1,h2⟩;exact⟨h1,(hq z h1).mp h2⟩
  ·rintro⟨h1,h2⟩;exact⟨h1,(hq z h1).mpr h2⟩
 ·exact ie eY (gT Ue (Af n))
def Done.told{n:Nat}{w:ae}{es:List (ae×Bool)}(d:Done n u w es)(q:ae->Bool)(hq:∀z,z.Perm (rg n)->(q z=true ↔ Below u z/\Below z w)):mZ ((es.filter (·.2)).map (·.1))=(inj n n).filter q:=Um d.nodup d.mem q hq
end Eu
namespace Eu
open PySem L2 Bl Am
open Fw (rg)
def mono{n:Nat}{z:ae}(pz:z.Perm (rg n)):∀(m:Nat) (y:ae),n * n-Iv.inv y=m->y.Perm (rg n)->Below y z->Iv.inv y<=Iv.inv z/\(Iv.inv y=Iv.inv z->y=z):=by
 intro m
 induction m using Nat.strongRecOn with
 | _ m ih=>
  intro y hm py hb;by_cases c:y=z
  ·subst c;exact⟨aP _,λ_=>rfl⟩
  ·obtain⟨i,j,h1,h2,h3,h4,h5,h6,h7⟩:=asc py pz hb c;have hm2:=Iv.tV (Iv.sw y i j);rw[ln h7,h6]at hm2;have:=(ih (n * n-Iv.inv (Iv.sw y i j)) () _ rfl h7 h5).1;exact⟨(),λq=>()⟩
abbrev Up (n:Nat)(a l:ae):Prop:=∃i j,i<j/\j<n/\a.getD i 0<a.getD j 0/\Stp.GY a i j=true/\l=Iv.sw a i j
structure Cb (n:Nat)(x y:ae)(k:Nat)(la fs:List (ae)):Prop where
 ly:∀z∈la,z.Perm (rg n)/\Below x z/\Iv.inv z=Iv.inv x+k
 fo:∀z,z.Perm (rg n)->Below x z->Below z y->Iv.inv z=Iv.inv x+k->z∈la
 fd:∀f,f∈fs ↔ f.Perm (rg n)/\Below x f/\Below f y/\Iv.inv f<Iv.inv x+k
 nl:la.Nodup
 nf:fs.Nodup
end Eu
namespace Po
open Am
meta abbrev Pl:=List (Int×Int)
abbrev val (d:Pl)(k:Int):Int:=((d.find? λp=>decide (p.1=k)).map (·.2)).getD 0
abbrev has (d:Pl)(k:Int):Bool:=d.any λp=>decide (p.1=k)
abbrev put (d:Pl)(k v:Int):Pl:=if has d k=true then d.map (λp=>if p.1=k then(p.1,v)else p)else d++[(k,v)]
abbrev acc (d:Pl)(k v:Int):Pl:=put d k (val d k+v)
abbrev cf:Pl->Int->Int
 | [],_=>0
 | p::l,k=>(if p.1=k then p.2 else 0)+cf l k
abbrev Tu (d ps:Pl):Pl:=ps.foldl (λd p=>acc d p.1 p.2) d
structure Ok (l:Pl):Prop where
 up:l.Pairwise λp q=>p.1<q.1
 nz:∀p∈l,p.2≠0
abbrev Wr (d:Pl):Pl:=((sortI (d.map Prod.fst)).filter λk=>val d k != 0).map λk=>(k,val d k)
abbrev Ur (a b:Pl):Pl:=Wr (Tu [] (a++b))
abbrev W8 (a b:Pl):Pl:=a.flatMap λp=>b.map λq=>(p.1+q.1,p.2 * q.2)
abbrev times (a b:Pl):Pl:=Wr (Tu [] (W8 a b))
abbrev turn (a:Pl):Pl:=a.reverse.map λp=>(-p.1,p.2)
abbrev iv (d:Pl):List (Int×A):=d.map λp=>(p.1,.int p.2)
abbrev pA (p:Int×Int):A:=.tup [.int p.1,.int p.2]
abbrev pl (l:Pl):ad:=l.map pA
end Po
namespace Su
open Am Po PySem L2
meta abbrev En:=ae×Nat×Pl
meta abbrev Es:=List En
abbrev kv (e:En):ae×A:=(e.1,.ref e.2.1)
abbrev At (S:jJ)(es:Es):Prop:=∀e∈es,jF S e.2.1=some (pl e.2.2)
meta abbrev Ps:=List (ae×Pl)
abbrev sm (es:Es):Ps:=es.map λe=>(e.1,e.2.2)
abbrev vS (D:Ps)(o:ae):Pl:=((D.find? λe=>decide (e.1=o)).map (·.2)).getD []
abbrev hS (D:Ps)(o:ae):Bool:=D.any λe=>decide (e.1=o)
abbrev U9 (D:Ps)(o:ae)(p:Pl):Ps:=if hS D o=true then D.map (λe=>if e.1=o then(e.1,p)else e)else D++[(o,p)]
abbrev V9 (D:Ps)(o:ae)(p:Pl):Ps:=U9 D o (Ur (vS D o) p)
abbrev adds (D l:Ps):Ps:=l.foldl (λD e=>V9 D e.1 e.2) D
abbrev toS (D:Ps):Ps:=((mZ (D.map Prod.fst)).filter λo=>!(vS D o).isEmpty).map λo=>(o,vS D o)
abbrev fE (D:Es)(o:ae):Option En:=D.find? λe=>decide (e.1=o)
abbrev Vl (k b:Nat)(D:Es):Prop:=∀e∈D,Ok e.2.2/\e.2.2.length<=k/\b<=e.2.1
abbrev Py (D:Es)(p:Pl->Bool):Es:=((mZ (D.map Prod.fst)).filter λo=>p (vS (sm D) o)).map λo=>(o,((fE D o).map λe=>e.2.1).getD 0,vS (sm D) o)
abbrev Ap (D:Es):Prop:=D.Pairwise λe f=>e.1≠f.1/\e.2.1≠f.2.1
structure Fil (T:jJ)(d b i j:Nat)(P:Ps)(D:Es):Prop where
 dd:j8 T d=some (D.map kv)
 aa:At T D
 ss:sm D=P
 vv:Vl (i * j) b D
 kk:∀e∈D,e.1≠[]
 ll:D.length<=i
 pw:Ap D
end Su
namespace Su
open Am Po PySem L2
abbrev cS (l:Ps)(o:ae)(t:Int):Int:=match l with
 | []=>0
 | e::l=>(if e.1=o then cf e.2 t else 0)+cS l o t
meta abbrev AF:Pl:=[((-1:Int),(1:Int)),((1:Int),(-1:Int))]
structure Gd (D:Ps):Prop where
 nd:(D.map Prod.fst).Nodup
 ok:∀e∈D,Ok e.2
abbrev L_ (o:ae)(k:Nat):Bool:=decide (o.getD (k-1) 0>o.getD k 0)
abbrev WV (k:Nat)(l:Ps):Ps:=l.flatMap λe=>(Wd.ex e.1 k,e.2)::(if L_ e.1 k=true then[(e.1,times AF e.2)]else[])
abbrev bx (k:Nat)(l:Ps):Ps:=toS (adds [] (WV k l))
def Ux{k:Nat}{o:ae}(h1:1<=k)(h2:k<o.length):(Wd.ex o k).getD (k-1) 0=o.getD k 0/\(Wd.ex o k).getD k 0=o.getD (k-1) 0:=by
 constructor
 ·rw[aI,Wd.oQ h1 h2,aM (),aN rfl,aI]
 ·rw[aI,Wd.oQ h1 h2,aN rfl,aI]
end Su
namespace He
open PySem L2 Am
open Fw (Two rg zX)
open Bl (nZ)
open Su (L_)
meta abbrev Fn:=ae->Int->Int
abbrev dl (g:Int->Int)(t:Int):Int:=g (t+1)-g (t-1)
abbrev X (k:Nat)(f:Fn):Fn:=λo t=>f (Wd.ex o k) t+if L_ o k=true then dl (f o) t else 0
def u5{n:Nat}{v:ae}(h:Two n o u)(h':Two n o v):u=v:=by
 have l1:=h.lu;have l2:=h'.lu;have l3:=h.lo;apply bW;intro q;by_cases hq:q<n
 ·obtain⟨p,hp,ep⟩:∃p,∃hp:p<o.length,o[p]=(q:Int)+1:=by
   have:(q:Int)+1∈o:=h.po.mem_iff.mpr (kG.mpr ⟨(),()⟩);obtain⟨p,hp,ep⟩:=List.getElem_of_mem this;exact⟨p,hp,ep⟩
  have a1:=h.ou.2 p hp;have a2:=h'.ou.2 p hp;rw[ep,show((q:Int)+1-1).toNat=q by lia]at a1 a2;rw[a1,a2]
 ·rw[bG (),bG ()]
abbrev bk (o:ae):ae:=(List.range o.length).map λi:Nat=>((o.idxOf ((i:Int)+1):Nat):Int)+1
def tB{n:Nat}{o:ae}(h:o.Perm (rg n)):Two n o (bk o):=by
 have lo:o.length=n:=by rw[h.length_eq,Wd.kj]
 have nd:o.Nodup:=h.nodup_iff.mpr (oS _ _);have mem:∀i,i<n->(i:Int)+1∈o:=λi hi=>h.mem_iff.mpr (kG.mpr ⟨(),()⟩);have ix:∀i,i<n->o.idxOf ((i:Int)+1)<n:=λi hi=>by rw[<- lo];exact List.idxOf_lt_length_iff.mpr (mem i hi)
 have get:∀i (hi:i<n),o[o.idxOf ((i:Int)+1)]'(by rw[lo];exact ix i hi)=(i:Int)+1:=λi hi=>List.getElem_idxOf _;refine⟨h,?_,?_,λp hp=>?_⟩
 ·have p:=Am.xQ (N:=n) (g:=λi=>o.idxOf ((i:Int)+1)) ix λi j hij hj z=>by
   have a:=get i ();have b:=get j hj;dsimp[z]at a;rw[b]at a
   lia
  have p2:=p.map λi:Nat=>(i:Int)+1;rw[bK]at p2;unfold bk;rw[lo];refine List.Perm.trans p2 ?_;have:(List.range n).map (λi:Nat=>(i:Int)+1)=rg n:=by
   apply bW;intro q;rw[aQ];by_cases c:q<n
   ·rw[b7 c,Wd.sq c];rfl
   ·rw[bG (by rw[cO];lia),bG (by rw[Wd.kj];lia)];rfl
  rw[this]
 ·unfold bk;rw[aL,cO]
 ·have m:=kG.mp (h.mem_iff.mp (c7 hp));have hq:(o[p]-1).toNat<o.length:=()
  unfold bk;rw[aQ,b7 hq];show some (((o.idxOf (((o[p]-1).toNat:Int)+1):Nat):Int)+1)=_;rw[show((o[p]-1).toNat:Int)+1=o[p]by lia,nd.idxOf_getElem]
def Ft{n:Nat}{o:ae}(h:o.Perm (rg n)):bk (bk o)=o:=u5 (tB (tB h).pu) (tB h).flip
def r6{n:Nat}{o:ae}(h:o.Perm (rg n)):(bk o).Perm (rg n):=(tB h).pu
def nb{n k:Nat}{o:ae}(h:o.Perm (rg n))(h0:1<=k)(h1:k<n):o.getD (k-1) 0≠o.getD k 0:=λz=>by
 have lo:o.length=n:=by rw[h.length_eq,Wd.kj]
 have nd:o.Nodup:=h.nodup_iff.mpr (oS _ _);rw[Wd.kh (),Wd.kh ()]at z;have:=(d8 nd).mp z
 lia
abbrev Pr (o:ae)(k j:Nat):Prop:=(o.getD (k-1) 0=j/\o.getD k 0=(j:Int)+1)\/(o.getD (k-1) 0=(j:Int)+1/\o.getD k 0=j)
abbrev L (j:Nat)(f:Fn):Fn:=λo t=>f (o.map (Wd.sw j)) t+if L_ (bk o) j=true then dl (f o) t else 0
abbrev W_ (n:Nat)(f g:Fn):Prop:=∀o:ae,o.Perm (rg n)->∀t,f o t=g o t
def yN{n k:Nat}{o:ae}(h:o.Perm (rg n))(h0:1<=k)(h1:k<n):(Wd.ex o k).Perm (rg n):=(Wd.zK h0 (by rw[h.length_eq,Wd.kj];exact h1)).trans h
abbrev Va (n:Nat)(w:ag):Prop:=∀k∈w,1<=k/\k<n
abbrev Xw (w:ag)(f:Fn):Fn:=w.foldl (λf k=>X k f) f
abbrev D (u:ae)(g:Int->Int):Fn:=λo t=>if o=u then g t else 0
def xD(n:Nat):(rg n).Perm (rg n):=.refl _
theorem vg{n:Nat}:∀(m:Nat) {u:ae},u.Perm (rg n)->Iv.inv u=m->∃w,Wd.j_ (rg n) w/\Wd.led (rg n) w=u
 | 0,u,hu,hm=>by
  refine⟨[],trivial,(Fw.Ef hu λk hk=>?_).symm⟩;have:=Fw.vL hk.1 hk.2.1 hk.2.2
  lia
 | m+1,u,hu,hm=>by
  obtain⟨k,hk⟩:=Fw.NL (l:=u) ();have lu:u.length=n:=by rw[hu.length_eq,Wd.kj]
  have hd:=Fw.vL hk.1 hk.2.1 hk.2.2;obtain⟨w,h1,h2⟩:=vg m (yN hu hk.1 (by rw[<- lu];exact hk.2.1)) ();obtain⟨e1,e2⟩:=Su.Ux (o:=u) hk.1 hk.2.1;refine⟨w++[k],Wd.j_.snoc h1 hk.1 (by rw[Wd.kj,<- lu];exact hk.2.1) (by rw[h2,e1,e2];exact hk.2.2),?_⟩;rw[Wd.wL,h2];exact Fw.EN hk.1 hk.2.1
abbrev add (f g:Fn):Fn:=λo t=>f o t+g o t
end He
namespace He
open PySem L2 Am Po
open Fw (Two rg zX)
open Su (L_ Ps cS)
abbrev cv:Pl->(Int->Int)->Int->Int
 | [],_,_=>0
 | q::p,g,t=>q.2 * g (t-q.1)+cv p g t
abbrev Vk (p:Pl)(f:Fn):Fn:=λo t=>cv p (f o) t
abbrev sw (n:Nat)(o:ae):ag:=by
 classical
 exact if h:o.Perm (rg n)then(vg _ h rfl).choose else[]
def A3{n:Nat}{o:ae}(h:o.Perm (rg n)):Wd.j_ (rg n) (sw n o)/\Wd.led (rg n) (sw n o)=o:=by
 unfold sw;rw[dif_pos h];exact(vg _ h rfl).choose_spec
def OW{n:Nat}{o:ae}(h:o.Perm (rg n)):Va n (sw n o):=λk hk=>by have:=Wd.j_.valid (A3 h).1 k hk;rwa [Wd.kj]at this
abbrev RG (G:ae->Fn):Ps->Fn
 | []=>λ_ _=>0
 | e::m=>add (Vk e.2 (G e.1)) (RG G m)
abbrev R (n:Nat)(m:Ps)(f:Fn):Fn:=RG (λo=>Xw (sw n o) f) m
abbrev WQ (p:Pl)(l:Ps):Ps:=l.map λx=>(x.1,times p x.2)
abbrev B (f:Fn):Fn:=λo=>f (bk o)
abbrev d0:Int->Int:=λt=>if t=0 then 1 else 0
end He
namespace He
open PySem L2 Am Po
open Fw (Two rg zX)
open Su (L_ Ps cS Gd vS toS adds bx)
structure Cn (l:Ps):Prop where
 gd:Gd l
 eq:toS l=l
abbrev Wa (l m:Ps):Ps:=toS (adds [] (l++m))
abbrev one (n:Nat):Ps:=[(rg n,[((0:Int),(1:Int))])]
end He
namespace He
open PySem L2 Am Po
open Fw (Two rg zX)
open Su (L_ Ps cS Gd vS toS adds bx)
abbrev arr:Nat->ae->List (ae)
 | 0,_=>[[]]
 | m+1,l=>l.flatMap λx=>(arr m (l.erase x)).map (x::·)
structure FB (n P C:Nat)(f:Fn):Prop where
 c:∀o,o.Perm (rg n)->∀t,(f o t).natAbs<=C
 p:∀o,o.Perm (rg n)->∀t:Int,P<t.natAbs->f o t=0
structure PB (Q c:Nat)(p:Pl):Prop where
 c:∀q∈p,q.2.natAbs<=c
 p:∀q∈p,q.1.natAbs<=Q
theorem qC:∀{w:ag}{l:ae},Wd.j_ l w->Iv.inv (Wd.led l w)=Iv.inv l+w.length
 | [],_,_=>rfl
 | k::w,l,h=>by
  have:=qC h.2.2.2;rw[Fw.yw h.1 h.2.1 h.2.2.1]at this;show Iv.inv (Wd.led (Wd.ex l k) w)=_+(w.length+1)
  lia
def AA{n:Nat}{o:ae}(h:o.Perm (rg n)):(sw n o).length=Iv.inv o:=by
 obtain⟨a,b⟩:=A3 h;have:=qC a;rw[b,Fw.vp]at this
 lia
structure Sz (n P C:Nat)(l:Ps):Prop where
 cn:Cn l
 pm:∀x∈l,x.1.Perm (rg n)
 fb:FB n P C (cS l)
end He
namespace He
open PySem L2 Am Po
open Fw (Two rg zX)
open Su (L_ Ps cS Gd vS toS adds bx)
theorem z8{n:Nat}:∀{w:ag}{l:ae},l.Perm (rg n)->Va n w->Iv.inv (Wd.led l w)<=Iv.inv l+w.length/\(Iv.inv (Wd.led l w)=Iv.inv l+w.length->Wd.j_ l w)
 | [],l,_,_=>⟨aP _,λ_=>trivial⟩
 | k::w,l,p,v=>by
  have v1:=v k (aR ..);have ll:l.length=n:=by rw[p.length_eq,Wd.kj]
  obtain⟨i1,i2⟩:=z8 (w:=w) (yN p v1.1 v1.2) λj hj=>v j (aT _ hj);have i1:Iv.inv (Wd.led l (k::w))<=Iv.inv (Wd.ex l k)+w.length:=i1;have i2:Iv.inv (Wd.led l (k::w))=Iv.inv (Wd.ex l k)+w.length->Wd.j_ (Wd.ex l k) w:=i2;rw[bE]
  rcases iT 0 0 with z|_
  ·lia
  ·by_cases c:l.getD (k-1) 0<l.getD k 0
   ·have u:=Fw.yw v1.1 () c;exact⟨(),λh=>⟨v1.1,(),c,i2 ()⟩⟩
   ·have ne:=nb p v1.1 v1.2;have u:=Fw.vL v1.1 () (show l.getD k 0<l.getD (k-1) 0 by lia);exact⟨(),λh=>absurd h ()⟩
theorem KA{n:Nat}:∀{w:ag}{l:ae},l.Perm (rg n)->Va n w->(Wd.led l w).Perm (rg n)
 | [],_,p,_=>p
 | k::w,l,p,v=>KA (w:=w) (yN p (v k (aR ..)).1 (v k (aR ..)).2) λj hj=>v j (aT _ hj)
end He
namespace He
open PySem L2 Am Po
open Fw (Two rg zX)
open Su (L_ Ps cS Gd vS toS adds bx)
def ND{n:Nat}{w:ag}(h:Wd.j_ (rg n) w):Wd.j_ (rg n) w.reverse:=by
 have va:Va n w:=λk hk=>by have:=Wd.j_.valid h k hk;rwa [Wd.kj]at this
 have var:Va n w.reverse:=λk hk=>va k (ji.mp hk);have pr:=KA (xD n) var;obtain⟨z1,z2⟩:=A3 pr;have vz:=OW pr;have vzr:Va n (sw n (Wd.led (rg n) w.reverse)).reverse:=λk hk=>vz k (ji.mp hk);have b1:=Wd.qa (sw n (Wd.led (rg n) w.reverse)).reverse vzr;rw[iC,z2]at b1;have e:=u5 ⟨pr,KA (xD n) vzr,b1⟩ ⟨pr,KA (xD n) va,Wd.qa w va⟩;have l1:=(z8 (xD n) vzr).1;rw[e,Fw.vp,dX,AA pr]at l1;have l2:=qC h;have l3:=(z8 (xD n) var).1;refine(z8 (xD n) var).2 ?_;rw[Fw.vp,dX]at *
 lia
abbrev Y (k:Nat)(f:Fn):Fn:=λo t=>X k f o t-dl (f o) t
abbrev LB:Pl:=[((-1:Int),(-1:Int)),((1:Int),(1:Int))]
abbrev WU (p:Pl)(l:Ps):Ps:=toS (adds [] (WQ p l))
abbrev yb (k:Nat)(l:Ps):Ps:=Wa (bx k l) (WU LB l)
abbrev W5 (w:ag)(l:Ps):Ps:=w.foldl (λl k=>yb k l) l
abbrev tO (n:Nat)(w:ag):Ps:=W5 w (one n)
structure Fwd (n:Nat)(W:ae->ag):Prop where
 r:∀o,o.Perm (rg n)->Wd.j_ (rg n) (W o)
 e:∀o,o.Perm (rg n)->Wd.led (rg n) (W o)=o
end He
namespace He
open PySem L2 Am Po
open Fw (Two rg zX Dn)
open Su (L_ Ps cS Gd vS toS adds bx)
def JC{n:Nat}{o:ae}(po:o.Perm (rg n)):Iv.inv (bk o)=Iv.inv o:=by
 obtain⟨a,b⟩:=A3 po;have va:=OW po;have var:Va n (sw n o).reverse:=λk hk=>va k (ji.mp hk);have c:=Wd.qa (sw n o).reverse var;rw[iC,b]at c;have e:=u5 ⟨po,KA (xD n) var,c⟩ (tB po);have l:=qC (ND a);rw[e,Fw.vp,dX,AA po]at l
 lia
abbrev fwd (o:ae):ag:=(Fw.Ju _ (bk o) (aP _)).choose
abbrev Wu:Nat->ae->ag
 | 0,_=>[]
 | m+1,o=>match (fwd o).getLast? with
  | none=>[]
  | some k=>Wu m (Wd.ex o k)++[k]
abbrev vw (o:ae):ag:=Wu (Iv.inv o) o
end He
namespace Eu
open PySem L2 Bl Am
open Wd (ex led j_)
open Fw (rg)
theorem F8(x:Int):∀(l:ae),Iv.kQ l [x]=l.countP (λy=>decide (x<y))
 | []=>rfl
 | y::l=>by
  rw[Iv.nJ,F8 x l,bO,bO,iL,fj,Nat.add_comm]
def Kh(x:Int)(l:ae):Iv.inv (l++[x])=Iv.inv l+l.countP (λy=>decide (x<y)):=by
 rw[Iv.j6,F8];show _+0+_=_
 lia
def xU{n k:Nat}{v z:ae}(pv:v.Perm (rg n))(pz:z.Perm (rg n))(h0:1<=k)(h:k<n)(hr:v.getD (k-1) 0<v.getD k 0):Below z (ex v k) ↔ Below z v\/(z.getD k 0<z.getD (k-1) 0/\Below (ex z k) v):=by
 have pe:=PY pv h0 h;have le:k<(ex v k).length:=by rw[ln pe];exact h
 have lz:z.length=(ex v k).length:=by rw[ln pe,ln pz]
 have hf:(ex v k).getD k 0<(ex v k).getD (k-1) 0:=by rw[hi pv h0 h,lo pv h0 h];exact hr
 have ee:=Sb pv h0 h;constructor
 ·intro b;by_cases c:z.getD (k-1) 0<=z.getD k 0
  ·have:=low lz h0 le hf c b;rw[ee]at this;exact .inl this
  ·have:=VZ lz h0 le hf () b;rw[ee]at this;exact .inr ⟨(),this⟩
 ·rintro(b|⟨_,b⟩)
  ·exact b.trans (WN pv h0 h hr)
  ·have:=WL (PY pz h0 h) pv h0 h hr b;rw[Sb pz h0 h]at this;exact this
def KO{α:Type}{a b:List α}(ha:a.Nodup)(hb:b.Nodup)(h:∀z,z∈a ↔ z∈b)(p:α->Bool):a.countP p=b.countP p:=(List.Perm.countP_eq p ((fQ ha hb).mpr h))
structure Lo (n:Nat)(a:ae)(ks:List (ae)):Prop where
 nd:ks.Nodup
 mm:∀z,z∈ks ↔ z.Perm (rg n)/\Below z a
def Lo.cnt{n:Nat}{a:ae}{ks ls:List (ae)}(h:Lo n a ks)(h':Lo n a ls)(p:ae->Bool):ks.countP p=ls.countP p:=KO h.nd h'.nd (λz=>(h.mm z).trans (h'.mm z).symm) p
def Lo.back{n:Nat}{a:ae}{ks:List (ae)}(pa:a.Perm (rg n))(h:Lo n a ks):Lo n (He.bk a) (ks.map He.bk) where
 nd:=by
  refine eF.mpr (gh (λ{x y} hx hy ne e=>ne ?_) h.nd);rw[<- He.Ft ((h.mm x).mp hx).1,<- He.Ft ((h.mm y).mp hy).1,e]
 mm:=λz=>by
  have key:∀{y:ae},y.Perm (rg n)->(Below (He.bk y) (He.bk a) ↔ Below y a):=λ{y} py=>CC py pa (He.tB py).ou (He.tB pa).ou (He.r6 py) (He.r6 pa);constructor
  ·intro hz;obtain⟨y,hy,rfl⟩:=bH.mp hz;obtain⟨py,by'⟩:=(h.mm y).mp hy;exact⟨He.r6 py,(key py).mpr by'⟩
  ·rintro⟨pz,bz⟩;refine bH.mpr ⟨He.bk z,(h.mm _).mpr ⟨He.r6 pz,?_⟩,He.Ft pz⟩;rw[<- key (He.r6 pz),He.Ft pz];exact bz
def Lo.VX{n:Nat}{a:ae}{ks ls:List (ae)}(pa:a.Perm (rg n))(h:Lo n a ks)(h':Lo n (He.bk a) ls):ls.countP (λz=>Iv.inv z == m)=ks.countP (λz=>Iv.inv z == m):=by
 rw[h'.cnt (h.back pa),iM];refine gR λz hz=>?_;show(Iv.inv (He.bk z) == m)=true ↔ _;rw[He.JC ((h.mm z).mp hz).1]
def Lo.start(n:Nat):Lo n (rg n) [rg n] where
 nd:=by simp
 mm:=λz=>by
  constructor
  ·intro hz;rw[bh.mp hz];exact⟨.refl _,Below.refl _⟩
  ·rintro⟨pz,bz⟩;rw[bh];have:=(mono (dO (rg n)) _ z rfl pz bz).1;rw[Fw.vp]at this;exact Cw.zero pz ()
def Lo.step{n k:Nat}{v:ae}{ks ls:List (ae)}(pv:v.Perm (rg n))(h0:1<=k)(h:k<n)(hr:v.getD (k-1) 0<v.getD k 0)(l:Lo n v ks)(nd:ls.Nodup)
  (hm:∀z,z∈ls ↔ z∈ks\/∃y∈ks,y.getD (k-1) 0<y.getD k 0/\z=ex y k):Lo n (ex v k) ls where
 nd:=nd
 mm:=λz=>by
  rw[hm];constructor
  ·rintro(c|⟨y,hy,ry,rfl⟩)
   ·obtain⟨pz,bz⟩:=(l.mm z).mp c;exact⟨pz,(xU pv pz h0 h hr).mpr (.inl bz)⟩
   ·obtain⟨py,bY⟩:=(l.mm y).mp hy;refine⟨PY py h0 h,(xU pv (PY py h0 h) h0 h hr).mpr (.inr ⟨?_,?_⟩)⟩
    ·rw[hi py h0 h,lo py h0 h];exact ry
    ·rw[Sb py h0 h];exact bY
  ·rintro⟨pz,bz⟩
   rcases(xU pv pz h0 h hr).mp bz with c|⟨c1,c2⟩
   ·exact .inl ((l.mm z).mpr ⟨pz,c⟩)
   ·refine .inr ⟨ex z k,(l.mm _).mpr ⟨PY pz h0 h,c2⟩,?_,(Sb pz h0 h).symm⟩;rw[hi pz h0 h,lo pz h0 h];exact c1
end Eu
namespace K51
open PySem L2 Am
abbrev top (i:Nat):aF:=PySem.Challenge.pw_undercells_k51_counts.main.body.getD i (.Pass ⟨0,0,0,0⟩)
meta abbrev pU:aF:=top 5
meta abbrev pQ:am:=["n"]
meta abbrev pX:am:=["n"]
abbrev pB:Sm:=
 lE (jZ (f1 nY) (jE (jZ (f2 qg) (jE (eC (.int 1)) (jE (jN l7 (jD 0) (eC (.int 1))) jO))) jO))
abbrev mD:ad->jJ->R A:=mw pQ pB
meta abbrev rm:aF:=top 6
meta abbrev rO:am:=["one", "other"]
meta abbrev o8:am:=["one", "other"]
abbrev rT:Sm:=
 AN (tY (jN (Hj true) (jZ (f1 m8) (jE (jD 0) jO)) (jZ (f1 m8) (jE (jD 1) jO))))
 (UT)
 qI
abbrev lQ:ad->jJ->R A:=mw rO rT
meta abbrev mO:aF:=top 7
meta abbrev mK:am:=["order", "i", "j", "things"]
meta abbrev mT:am:=["order", "i", "j"]
abbrev mP:Sm:=
 kr (lg (jZ (f1 ya) (jE (jD 0) jO)) (kN 3))
 (kr (lg (t9 (jE (jN nX (jD 3) (jN aSub (jD 2) (eC (.int 1)))) (jE (jN nX (jD 3) (jN aSub (jD 1) (eC (.int 1)))) jO))) (AK 2 (sD (Sj (jD 3) (jN aSub (jD 1) (eC (.int 1)))) (sD (Sj (jD 3) (jN aSub (jD 2) (eC (.int 1)))) AH))))
 (lE (jZ (f1 nY) (jE (jD 3) jO))))
abbrev ko:ad->jJ->R A:=mw mK mP
meta abbrev pN:aF:=top 8
meta abbrev pY:am:=["n"]
meta abbrev nP:am:=["n"]
abbrev pZ:Sm:=
 lE (CH [none,none,some 0] (om (eC (.int 1)) (jD 0)) (kN 0) sH (om (jN l7 (jD 0) (eC (.int 1))) (jN l7 (jD 2) (eC (.int 1)))) (kN 1) sH (t9 (jE (jD 0) (jE (jD 1) jO))))
abbrev kE:ad->jJ->R A:=mw pY pZ
meta abbrev pL:aF:=top 9
meta abbrev pW:am:=["order"]
meta abbrev pC:am:=["order"]
abbrev pF:Sm:=
 lE (kK [none,none,some 0] (qh (eFn kE (jE (jZ (f1 m8) (jE (jD 0) jO)) jO))) (AK 2 (sD (kN 0) (sD (kN 1) AH))) (tY (jN Bu (jN nX (jD 2) (jN aSub (jD 0) (eC (.int 1)))) (jN nX (jD 2) (jN aSub (jD 1) (eC (.int 1)))))) (t9 (jE (jD 0) (jE (jD 1) jO))))
abbrev mF:ad->jJ->R A:=mw pW pF
meta abbrev yu:aF:=top 10
meta abbrev yr:am:=["order"]
meta abbrev t6:am:=["order"]
abbrev yd:Sm:=
 lE (jZ (f1 m8) (jE (eFn mF (jE (jD 0) jO)) jO))
abbrev m_:ad->jJ->R A:=mw yr yd
meta abbrev lO:aF:=top 13
meta abbrev lN:am:=["numbers", "place"]
meta abbrev lX:am:=["numbers"]
abbrev ni:Te:=
 tY (jN UW (jN nX (jD 0) (jN aSub (jD 1) (eC (.int 1)))) (eC (.int 0)))
abbrev nj:Sm:=
 Hy 1 CK (eC (.int 1))
abbrev l5:Sm:=
 kr (lg (eC (.int 1)) (kN 1))
 (kr (l_ ni
 nj 1000000)
 (lE (jD 1)))
abbrev kJ:ad->jJ->R A:=mw lN l5
meta abbrev Jc:aF:=top 12
meta abbrev Hw:am:=["one", "other", "more", "at", "j"]
meta abbrev HX:am:=["one", "other"]
abbrev DX:Ic:=
 oh (jN nX (jD 0) (jD 3))
abbrev Ff:Sm:=
 vO (jD 2) (jD 4) (eC (.int 1)) CK
abbrev ER:Ic:=
 oh (jN nX (jD 1) (jD 3))
abbrev EY:Sm:=
 vO (jD 2) (jD 4) (eC (.int 1)) aSub
abbrev NC:Ic:=
 oh (jZ (f1 m8) (jE (jD 0) jO))
abbrev F0:Sm:=
 kr (qM DX (kN 4)
 Ff)
 (kr (qM ER (kN 4)
 EY)
 (AN (tY (jN Bu (jZ (f1 LL) (jE (jD 2) jO)) (eC (.int 0))))
 (lE (t9 (jE (jN l7 (jD 3) (eC (.int 1))) (jE (eFn kJ (jE (jD 2) jO)) jO))))
 qI))
abbrev JX:Sm:=
 kr (uI (eFn lQ (jE (jD 0) (jE (jD 1) jO))))
 (kr (lg (jN uB (wO (jE (eC (.int 0)) jO)) (jZ (f1 m8) (jE (jD 0) jO))) (kN 2))
 (kr (qM NC (kN 3)
 F0)
 (lE (eC .non))))
abbrev zf:ad->jJ->R A:=mw Hw JX
meta abbrev tN:aF:=top 14
meta abbrev qw:am:=["one", "other"]
meta abbrev tw:am:=["one", "other"]
abbrev qA:Sm:=
 lE (jN (GO false) (eFn zf (jE (jD 0) (jE (jD 1) jO))) (eC .non))
abbrev lR:ad->jJ->R A:=mw qw qA
meta abbrev pV:aF:=top 16
meta abbrev pD:am:=["one", "other", "free_things", "most_things", "most_pairs"]
meta abbrev pM:am:=["one", "other", "free_things", "most_things", "most_pairs"]
abbrev pR:Sm:=
 kr (AN (tY (jN UW (jZ (f1 m8) (jE (jD 0) jO)) (jD 2)))
 (IQ)
 qI)
 (AN (Qf (tY (jN Bu (jZ (f1 m8) (jE (jD 0) jO)) (jD 3))) (tY (jN Bu (jN aSub (eFn m_ (jE (jD 1) jO)) (eFn m_ (jE (jD 0) jO))) (jD 4))))
 (UT)
 qI)
abbrev mE:ad->jJ->R A:=mw pD pR
meta abbrev vH:aF:=top 21
meta abbrev vD:am:=["order", "i", "j", "low", "high"]
meta abbrev vc:am:=["order", "i", "j"]
abbrev vG:Sm:=
 kr (lg (jZ (f2 LI) (jE (jN nX (jD 0) (jN aSub (jD 1) (eC (.int 1)))) (jE (jN nX (jD 0) (jN aSub (jD 2) (eC (.int 1)))) jO))) (kN 3))
 (kr (lg (jZ (f2 Ih) (jE (jN nX (jD 0) (jN aSub (jD 1) (eC (.int 1)))) (jE (jN nX (jD 0) (jN aSub (jD 2) (eC (.int 1)))) jO))) (kN 4))
 (lE (NY (jZ (f1 Qq) (jE (kK [none,some 3,some 4] (qh (Sk (jD 0) (vV (jD 1)) (vV (jN aSub (jD 2) (eC (.int 1)))))) (kN 0) sH (NW ES ES (jD 1) (jD 0) (jD 2))) jO)))))
abbrev nF:ad->jJ->R A:=mw vD vG
meta abbrev zy:aF:=top 22
meta abbrev zI:am:=["order", "pairs"]
meta abbrev zT:am:=["order", "pairs"]
abbrev zS:Sm:=
 lE (jZ (f1 uR) (jE (kK [none,none,some 0] (qh (jD 1)) (AK 2 (sD (kN 0) (sD (kN 1) AH))) (rF (eFn nF (jE (jD 2) (jE (jD 0) (jE (jD 1) jO))))) (eFn ko (jE (jD 2) (jE (jD 0) (jE (jD 1) jO))))) jO))
abbrev uS:ad->jJ->R A:=mw zI zS
meta abbrev pS:aF:=top 23
meta abbrev pG:am:=["order"]
meta abbrev p5:am:=["order"]
abbrev pT:Sm:=
 lE (eFn uS (jE (jD 0) (jE (kK [none,none,some 0] (qh (eFn kE (jE (jZ (f1 m8) (jE (jD 0) jO)) jO))) (AK 2 (sD (kN 0) (sD (kN 1) AH))) (tY (jN ES (jN nX (jD 2) (jN aSub (jD 0) (eC (.int 1)))) (jN nX (jD 2) (jN aSub (jD 1) (eC (.int 1)))))) (t9 (jE (jD 0) (jE (jD 1) jO)))) jO)))
abbrev mz:ad->jJ->R A:=mw pG pT
meta abbrev u0:aF:=top 24
meta abbrev sE:am:=["one", "other", "looked_at", "waiting", "here", "step"]
meta abbrev u7:am:=["one", "other"]
abbrev oY:Ic:=
 qh (eFn mz (jE (jD 4) jO))
abbrev rP:Sm:=
 AN (tY (jN (Qm true) (jD 5) (jD 2)))
 (kr (lg (eFn lR (jE (jD 5) (jE (jD 1) jO))) (Gi (jD 2) (jD 5)))
 (AN (rF (jN Gk (jD 2) (jD 5)))
 (uI (Jv se (jD 3) (jE (jD 5) jO)))
 qI))
 qI
abbrev rW:Te:=
 rF (jD 3)
abbrev rG:Sm:=
 kr (lg (PZ RQ (jD 3)) (kN 4))
 (qM oY (kN 5)
 rP)
abbrev su:Sm:=
 kr (uI (eFn lQ (jE (jD 0) (jE (jD 1) jO))))
 (kr (uI (eFn mE (jE (jD 0) (jE (jD 1) (jE (eC (.int 6)) (jE (eC (.int 9)) (jE (eC (.int 4)) jO)))))))
 (kr (AN (CS (rF (eFn lR (jE (jD 0) (jE (jD 1) jO)))))
 (lE (wO jO))
 qI)
 (kr (lg (yg (jD 0) (eC (.bl true))) (kN 2))
 (kr (lg (wO (jE (jD 0) jO)) (kN 3))
 (kr (l_ rW
 rG 1000000)
 (lE (jZ (f1 uR) (jE (kK [none,none] (GV (jD 2)) (AK 2 (sD (kN 0) (sD (kN 1) AH))) (rF (jD 1)) (jD 0)) jO))))))))
abbrev oF:ad->jJ->R A:=mw sE su
meta abbrev z_:aF:=top 27
meta abbrev AB:am:=["order", "told", "lower"]
meta abbrev zw:am:=["order"]
abbrev zg:Ic:=
 qh (eFn oF (jE (eFn mD (jE (jZ (f1 m8) (jE (jD 0) jO)) jO)) (jE (jD 0) jO)))
abbrev zu:Sm:=
 vO (jD 1) (eFn m_ (jE (jD 2) jO)) (eC (.int 1)) CK
abbrev wz:Sm:=
 kr (AN (tY (jN Bu (jZ (f1 m8) (jE (jD 0) jO)) (eC (.int 6))))
 (UT)
 qI)
 (kr (lg (jN uB (wO (jE (eC (.int 0)) jO)) (jN l7 (eFn m_ (jE (jD 0) jO)) (eC (.int 1)))) (kN 1))
 (kr (qM zg (kN 2)
 zu)
 (lE (jD 1))))
abbrev uG:ad->jJ->R A:=mw AB wz
meta abbrev sR:aF:=top 29
meta abbrev tH:am:=["_law_script", "_law_k"]
meta abbrev sW:am:=["_law_script", "_law_k"]
abbrev sU:Sm:=
 kr (AN (tY (jN ES (jD 1) (jZ (f1 m8) (jE (jD 0) jO))))
 (lE (jN nX (jD 0) (jD 1)))
 qI)
 (lE (eC (.int 0)))
abbrev nI:ad->jJ->R A:=mw tH sU
meta abbrev vj:aF:=top 30
meta abbrev ve:am:=["_law_cell_here", "_law_place", "_law_far"]
meta abbrev vh:am:=["_law_cell_here", "_law_place"]
abbrev vn:Sm:=
 kr (lg (jZ (f1 PU) (jE (jD 0) jO)) (kN 2))
 (kr (AN (tY (jN ES (jD 2) (jN Qv (eC (.int 10)) (eC (.int 18)))))
 (lg (eC (.int 0)) (kN 2))
 qI)
 (lE (wO (jE (jD 2) (jE (jN zL (jN l7 (jN l7 (jN uB (jN zL (jD 0) (eC (.int 2147483647))) (eC (.int 69621))) (jN uB (eC (.int 7919)) (jD 1))) (eC (.int 13))) (eC (.int 2147483647))) jO)))))
abbrev oG:ad->jJ->R A:=mw ve vn
meta abbrev rR:aF:=top 31
meta abbrev rV:am:=["_law_bag_here"]
meta abbrev rD:am:=["_law_bag_here"]
abbrev rE:Sm:=
 kr (lg (jN zL (jN l7 (jN uB (jN nX (jD 0) (eC (.int 1))) (eC (.int 48271))) (eC (.int 11))) (eC (.int 2147483647))) (Sj (jD 0) (eC (.int 1))))
 (lE (jN DM (jN zL (jN uB (jN nX (jD 0) (eC (.int 1))) (eC (.int 16807))) (eC (.int 2147483629))) (eC (.int 8))))
abbrev mV:ad->jJ->R A:=mw rV rE
meta abbrev rf:aF:=top 32
meta abbrev oZ:am:=["_law_bag_here", "_law_many", "_law_found", "_law_k"]
meta abbrev o6:am:=["_law_bag_here", "_law_many"]
abbrev yz:Ic:=
 oh (eC (.int 7))
abbrev yJ:Sm:=
 lg (jN l7 (jN uB (jD 2) (eC (.int 268435399))) (eFn mV (jE (jD 0) jO))) (kN 2)
abbrev oW:Sm:=
 kr (AN (tY (jN Bu (jN nX (jD 0) (eC (.int 0))) (eC (.int 0))))
 (kr (lg (jN zL (jN nX (jD 0) (eC (.int 0))) (jD 1)) (kN 2))
 (kr (lg (jN DM (jN nX (jD 0) (eC (.int 0))) (jD 1)) (Sj (jD 0) (eC (.int 0))))
 (lE (jD 2))))
 qI)
 (kr (lg (eFn mV (jE (jD 0) jO)) (kN 2))
 (kr (AN (tY (jN Bu (jD 1) (eC (.int 1000))))
 (qM yz (kN 3)
 yJ)
 qI)
 (lE (jN zL (jD 2) (jD 1)))))
abbrev kH:ad->jJ->R A:=mw oZ oW
meta abbrev qS:aF:=top 33
meta abbrev qY:am:=["_law_bag_here", "_law_n", "_law_left", "_law_found", "_law_k"]
meta abbrev qO:am:=["_law_bag_here", "_law_n"]
abbrev yF:Ic:=
 oh (jD 1)
abbrev sN:Sm:=
 uI (Jv se (jD 3) (jE (Jv Dg (jD 2) (jE (eFn kH (jE (jD 0) (jE (jZ (f1 m8) (jE (jD 2) jO)) jO))) jO)) jO))
abbrev qP:Sm:=
 kr (lg (jZ (f1 ya) (jE (jZ (f2 qg) (jE (eC (.int 1)) (jE (jN l7 (jD 1) (eC (.int 1))) jO))) jO)) (kN 2))
 (kr (lg (wO jO) (kN 3))
 (kr (qM yF (kN 4)
 sN)
 (lE (jZ (f1 nY) (jE (jD 3) jO)))))
abbrev mY:ad->jJ->R A:=mw qY qP
meta abbrev nV:aF:=top 34
meta abbrev nW:am:=["_law_order_here", "_law_k"]
meta abbrev mG:am:=["_law_order_here", "_law_k"]
abbrev n5:Sm:=
 lE (jN l7 (jN l7 (Sk (jD 0) Dz (vV (jN aSub (jD 1) (eC (.int 1))))) (t9 (jE (jN nX (jD 0) (jD 1)) (jE (jN nX (jD 0) (jN aSub (jD 1) (eC (.int 1)))) jO)))) (Sk (jD 0) (vV (jN l7 (jD 1) (eC (.int 1)))) Dz))
abbrev ku:ad->jJ->R A:=mw nW n5
meta abbrev tX:aF:=top 35
meta abbrev tD:am:=["_law_order_here", "_law_found", "_law_i"]
meta abbrev s_:am:=["_law_order_here"]
abbrev uV:Ic:=
 oh (jZ (f1 m8) (jE (jD 0) jO))
abbrev ud:Sm:=
 lg (jN l7 (jD 1) (jZ (f1 m8) (jE (kK [none,some 0,some 2] (oh (jD 2)) (kN 0) (tY (jN Bu (jN nX (jD 1) (jD 0)) (jN nX (jD 1) (jD 2)))) (jD 0)) jO))) (kN 1)
abbrev tF:Sm:=
 kr (lg (eC (.int 0)) (kN 1))
 (kr (qM uV (kN 2)
 ud)
 (lE (jD 1)))
abbrev mS:ad->jJ->R A:=mw tD tF
meta abbrev tQ:aF:=top 36
meta abbrev tu:am:=["_law_order_here", "_law_word_here", "_law_downs"]
meta abbrev tR:am:=["_law_order_here"]
abbrev oq:Te:=
 tY (jN (Hj true) (jD 2) (wO jO))
abbrev qD:Sm:=
 kr (lg (eFn ku (jE (jD 0) (jE (jN nX (jD 2) (N7 HV (eC (.int 1)))) jO))) (kN 0))
 (kr (uI (Jv se (jD 1) (jE (jN nX (jD 2) (N7 HV (eC (.int 1)))) jO)))
 (lg (kK [none,some 0] (om (eC (.int 1)) (jZ (f1 m8) (jE (jD 0) jO))) (kN 0) (tY (jN Bu (jN nX (jD 1) (jN aSub (jD 0) (eC (.int 1)))) (jN nX (jD 1) (jD 0)))) (jD 0)) (kN 2)))
abbrev tM:Sm:=
 kr (lg (wO jO) (kN 1))
 (kr (lg (kK [none,some 0] (om (eC (.int 1)) (jZ (f1 m8) (jE (jD 0) jO))) (kN 0) (tY (jN Bu (jN nX (jD 1) (jN aSub (jD 0) (eC (.int 1)))) (jN nX (jD 1) (jD 0)))) (jD 0)) (kN 2))
 (kr (l_ oq
 qD 1000000)
 (lE (N7 G8 (jD 1)))))
abbrev oM:ad->jJ->R A:=mw tu tM
meta abbrev rH:aF:=top 37
meta abbrev rK:am:=["_law_thing"]
meta abbrev qR:am:=["_law_thing"]
abbrev rq:Sm:=
 lE (Jb (jZ (f2 LZ) (jE (jD 0) (jE (eC (.ty "int")) jO))) (NY (jZ (f2 LZ) (jE (jD 0) (jE (eC (.ty "bool")) jO)))))
abbrev m7:ad->jJ->R A:=mw rK rq
meta abbrev sS:aF:=top 38
meta abbrev sQ:am:=["_law_order_here"]
meta abbrev sV:am:=["_law_order_here"]
abbrev tK:Sm:=
 lE (jZ (f1 nY) (jE (kK [none,some 0] (om (eC (.int 1)) (jN l7 (jZ (f1 m8) (jE (jD 0) jO)) (eC (.int 1)))) (kN 0) sH (jN l7 (Nx (jD 1) (jE (jD 0) jO)) (eC (.int 1)))) jO))
abbrev oO:ad->jJ->R A:=mw sQ tK
meta abbrev rJ:aF:=top 39
meta abbrev rX:am:=["_law_order_here", "_law_found", "_law_k", "_law_one"]
meta abbrev qN:am:=["_law_order_here"]
abbrev sL:Ic:=
 qh (jZ (f1 IP) (jE (jD 1) jO))
abbrev sO:Sm:=
 AN (tY (jN ES (jN nX (jD 3) (jN aSub (jD 2) (eC (.int 1)))) (jN nX (jD 3) (jD 2))))
 (lg (jN l7 (jN Gk (jD 1) (jD 3)) (eC (.int 1))) (Gi (jD 1) (eFn ku (jE (jD 3) (jE (jD 2) jO)))))
 qI
abbrev sJ:Ic:=
 qh (eFn oM (jE (jD 0) jO))
abbrev pK:Sm:=
 qM sL (kN 3)
 sO
abbrev qZ:Sm:=
 kr (lg (yg (jZ (f1 nY) (jE (jZ (f2 qg) (jE (eC (.int 1)) (jE (jN l7 (jZ (f1 m8) (jE (jD 0) jO)) (eC (.int 1))) jO))) jO)) (eC (.int 0))) (kN 1))
 (kr (qM sJ (kN 2)
 pK)
 (lE (kK [none,some 1] (oh (jN l7 (eFn mS (jE (jD 0) jO)) (eC (.int 1)))) (kN 0) sH (Jv um (Tw (jD 1)) (jE (jD 0) jO)))))
abbrev mW:ad->jJ->R A:=mw rX qZ
meta abbrev rQ:aF:=top 40
meta abbrev rB:am:=["_law_order_here", "_law_due", "_law_found"]
meta abbrev rL:am:=["_law_order_here", "_law_due"]
abbrev qW:Sm:=
 kr (lg (eFn uG (jE (jD 0) jO)) (kN 2))
 (kr (AN (Qf (CS (rF (jZ (f2 LZ) (jE (jD 2) (jE (eC (.ty "list")) jO))))) (Qf (tY (jN (Hj true) (jD 2) (jD 1))) (CS (rF (jZ (f1 RN) (jE (kK [none] (qh (jD 2)) (kN 0) sH (eFn m7 (jE (jD 0) jO))) jO))))))
 (lE (eC (.bl false)))
 qI)
 (kr (uI (Jv se (jD 2) (jE (eC (.int 1)) jO)))
 (lE (eC (.bl true)))))
abbrev lA:ad->jJ->R A:=mw rB qW
meta abbrev Js:aF:=top 41
meta abbrev Lu:am:=["_law_script", "_law_bag_here", "_law_n", "_law_order_here", "_law_other", "_law_due"]
meta abbrev OH:am:=["_law_script"]
abbrev KH:Sm:=
 kr (lg (eFn oG (jE (eFn nI (jE (jD 0) (jE (eC (.int 0)) jO))) (jE (eC (.int 1)) jO))) (kN 1))
 (kr (lg (jN nX (wO (jE (eC (.int 5)) (jE (eC (.int 4)) (jE (eC (.int 5)) (jE (eC (.int 3)) (jE (eC (.int 2)) (jE (eC (.int 1)) jO))))))) (eFn kH (jE (jD 1) (jE (eC (.int 6)) jO)))) (kN 2))
 (kr (AN (tY (jN (Hj false) (eFn kH (jE (jD 1) (jE (eC (.int 4)) jO))) (eC (.int 3))))
 (lg (eC (.int 6)) (kN 2))
 qI)
 (kr (lg (eFn mY (jE (jD 1) (jE (jD 2) jO))) (kN 3))
 (kr (lg (eFn mY (jE (eFn oG (jE (eFn nI (jE (jD 0) (jE (eC (.int 1)) jO))) (jE (eC (.int 2)) jO))) (jE (eC (.int 5)) jO))) (kN 4))
 (kr (lg (eFn mW (jE (jD 3) jO)) (kN 5))
 (kr (AN (Qf (CS (rF (eFn lA (jE (jD 3) (jE (jD 5) jO))))) (CS (rF (eFn lA (jE (jD 4) (jE (eFn mW (jE (jD 4) jO)) jO))))))
 (lE (eC (.bl false)))
 qI)
 (lE (Jb (eFn lA (jE (eFn oO (jE (jD 3) jO)) (jE (jD 5) jO))) (eFn lA (jE (jD 3) (jE (jD 5) jO)))))))))))
abbrev yU:ad->jJ->R A:=mw Lu KH
section
variable {P:aj}{w:ah}{K:au}{mg:Str->ba}{base:aq}{f:ak}{fd:FuncData}
def xq:FnScope pQ pX (jS pU):=uY rfl rfl rfl ∅
def xW(F:Fun K "plain_order" "plain_order" pU f fd)(Xc:mg "tuple" = none)(Xb:mg "range" = none):FnOk P w K mg base qy 1 f fd pX (rz K 1 mD):=uZ (m:=pB) F xq λcdv B outer s H E hr=>
 jP (kg (lY (uM rfl) Xc qU (jG (lY yv Xb xZ (jG jI (jG (jU nq (jC 0) jI) jQ))) jQ)))
def Ax:FnScope rO o8 (jS rm):=uY rfl rfl rfl ∅
def Ai(F:Fun K "need_pair" "need_pair" rm f fd)(Xa:mg "len" = none):FnOk P w K mg base qy 1 f fd o8 (rz K 2 lQ):=uZ (m:=rT) F Ax λcdv B outer s H E hr=>
 jP (n9 (kX (O7 hr.units) (jW nv Xa lB (jG (jC 0) jQ)) (jW nv Xa lB (jG (jC 1) jQ)))
 (jP (HH))
 kY)
def n_:FnScope mK mT (jS mO):=uY rfl rfl rfl ∅
def sI(F:Fun K "exchanged_places" "exchanged_places" mO f fd)(Xd:mg "list" = none)(Xc:mg "tuple" = none):FnOk P w K mg base qy 1 f fd mT (rz K 3 ko):=uZ (m:=mP) F n_ λcdv B outer s H E hr=>
 jL (kB (i:=3) n_.nd (lY (Lg rfl) Xd uy (jG (jC 0) jQ)))
 (jL (w_ (u9 (jG (kM (jC 3) (jU m5 (jC 2) jI)) (jG (kM (jC 3) (jU m5 (jC 1) jI)) jQ))) (yl rfl (mq (Ay (jC 3) (jU m5 (jC 1) jI)) (mq (Ay (jC 3) (jU m5 (jC 2) jI)) uH))))
 (jP (kg (lY (uM rfl) Xc qU (jG (jC 3) jQ)))))
def w6:FnScope pY nP (jS pN):=uY rfl rfl rfl ∅
def wN(F:Fun K "place_pairs" "place_pairs" pN f fd)(Xb:mg "range" = none):FnOk P w K mg base qy 1 f fd nP (rz K 1 kE):=uZ (m:=pZ) F w6 λcdv B outer s H E hr=>
 jP (kg (JW (N:=["i", "j", "n"]) (cap:=[none,none,some 0]) rfl (qH ["n"] rfl ∅ ∅ ∅ ∅ ∅ (bU.mpr ⟨by first|exact Or.inl rfl|exact Or.inr rfl,(nofun)⟩) ⟨rfl,by decide +kernel,trivial⟩) (p6 Xb jI (jC 0)) (λ_ _ _ _=>kc (i:=0) (show(["i", "j", "n"]:am).Nodup by decide +kernel) rfl (Or.inl rfl) (.inr rfl)) (λ_ _ _ _=>r_) (λ_ _ _ _=>p6 Xb (jU nq (jC 0) jI) (jU nq (jC 2) jI)) (λ_ _ _ _=>kc (i:=1) (show(["i", "j", "n"]:am).Nodup by decide +kernel) rfl (Or.inl rfl) (.inr rfl)) (λ_ _ _ _=>r_) (λ_ _ _ _=>u9 (jG (jC 0) (jG (jC 1) jQ)))))
def ye:FnScope pW pC (jS pL):=uY rfl rfl rfl ∅
def xM(F:Fun K "wrong_pairs" "wrong_pairs" pL f fd)(Xa:mg "len" = none)(Xh:qK P w K mg base 1 "place_pairs" nP kE):FnOk P w K mg base qy 2 f fd pC (rz K 1 mF):=uZ (m:=pF) F ye λcdv B outer s H E hr=>
 jP (kg (oA (N:=["i", "j", "order"]) (cap:=[none,none,some 0]) rfl (qH ["order"] rfl ∅ ∅ ∅ ∅ ∅ (bU.mpr ⟨by first|exact Or.inl rfl|exact Or.inr rfl,(nofun)⟩) ⟨rfl,by decide +kernel,trivial⟩) (qi (Ar Xh hr (jW nv Xa lB (jG (jC 0) jQ)))) (λ_ _ _ _=>yl rfl (mq (kc (i:=0) (show(["i", "j", "order"]:am).Nodup by decide +kernel) rfl (Or.inl rfl) (.inr rfl)) (mq (kc (i:=1) (show(["i", "j", "order"]:am).Nodup by decide +kernel) rfl (Or.inl rfl) (.inr rfl)) uH))) (λ_ _ _ _=>qo (kX (yH hr.units) (kM (jC 2) (jU m5 (jC 0) jI)) (kM (jC 2) (jU m5 (jC 1) jI)))) (λ_ _ _ _=>u9 (jG (jC 0) (jG (jC 1) jQ)))))
def Gz:FnScope yr t6 (jS yu):=uY rfl rfl rfl ∅
def G6(F:Fun K "length" "length" yu f fd)(Xa:mg "len" = none)(Xu:qK P w K mg base 2 "wrong_pairs" pC mF):FnOk P w K mg base qy 3 f fd t6 (rz K 1 m_):=uZ (m:=yd) F Gz λcdv B outer s H E hr=>
 jP (kg (jW nv Xa lB (jG (Ar Xu hr (jC 0)) jQ)))
def lG:FnScope lN lX (jS lO):=uY rfl rfl rfl ∅
def qJ(F:Fun K "first_above_nought" "first_above_nought" lO f fd):FnOk P w K mg base qy 1 f fd lX (rz K 1 kJ):=uZ (m:=l5) F lG λcdv B outer s H E hr=>
 jL (kB (i:=1) lG.nd jI)
 (jL (xG 1000000 cK (kX Uh (kM (jC 0) (jU m5 (jC 1) jI)) jI)
 (jP (Qx (i:=1) lG.nd jI Au)))
 (jP (kg (jC 1))))
def wR:FnScope Hw HX (jS Jc):=uY rfl rfl rfl ∅
def Qw(F:Fun K "bar" "bar" Jc f fd)(Xa:mg "len" = none)(Xb:mg "range" = none)(Xi:mg "max" = none)(Xj:qK P w K mg base 1 "need_pair" o8 lQ)(Xv:qK P w K mg base 1 "first_above_nought" lX kJ):FnOk P w K mg base qy 2 f fd HX (rz K 2 zf):=uZ (m:=JX) F wR λcdv B outer s H E hr=>
 jL (ql (yx Xj hr (jC 0) (jC 1)))
 (jL (kB (i:=2) wR.nd (jU w9 (qF (jG jI jQ)) (jW nv Xa lB (jG (jC 0) jQ))))
 (jL (pJ cK rfl (mX Xb (jW nv Xa lB (jG (jC 0) jQ))) (kc (i:=3) wR.nd)
 (jL (pJ cK rfl (mX Xb (kM (jC 0) (jC 3))) (kc (i:=4) wR.nd)
 (jP (zO (jC 2) (jC 4) jI Au)))
 (jL (pJ cK rfl (mX Xb (kM (jC 1) (jC 3))) (kc (i:=4) wR.nd)
 (jP (zO (jC 2) (jC 4) jI NG)))
 (jP (n9 (kX (yH hr.units) (jW (Pa rfl) Xi Io (jG (jC 2) jQ)) jI)
 (jP (kg (u9 (jG (jU nq (jC 3) jI) (jG (Ar Xv hr (jC 2)) jQ)))))
 kY)))))
 (jP (kg (Jk)))))
def Ci:FnScope qw tw (jS tN):=uY rfl rfl rfl ∅
def Br(F:Fun K "is_below" "is_below" tN f fd)(Xx:qK P w K mg base 2 "bar" HX zf):FnOk P w K mg base qy 3 f fd tw (rz K 2 lR):=uZ (m:=qA) F Ci λcdv B outer s H E hr=>
 jP (kg (Pg Vp (yx Xx hr (jC 0) (jC 1)) (Jk)))
def wX:FnScope pD pM (jS pV):=uY rfl rfl rfl ∅
def xP(F:Fun K "need_bounds" "need_bounds" pV f fd)(Xa:mg "len" = none)(Xe:qK P w K mg base 3 "length" t6 m_):FnOk P w K mg base qy 4 f fd pM (rz K 5 mE):=uZ (m:=pR) F wX λcdv B outer s H E hr=>
 jL (n9 (kX Uh (jW nv Xa lB (jG (jC 0) jQ)) (jC 2))
 (jP (Nr))
 kY)
 (jP (n9 (AW.at (F3 (kX (yH hr.units) (jW nv Xa lB (jG (jC 0) jQ)) (jC 3)) (Cr (kX (yH hr.units) (jU m5 (Ar Xe hr (jC 1)) (Ar Xe hr (jC 0))) (jC 4)))))
 (jP (HH))
 kY))
def sX:FnScope vD vc (jS vH):=uY rfl rfl rfl ∅
def CI(F:Fun K "is_step" "is_step" vH f fd)(Xy:mg "min" = none)(Xi:mg "max" = none)(Xz:mg "any" = none):FnOk P w K mg base qy 1 f fd vc (rz K 3 nF):=uZ (m:=vG) F sX λcdv B outer s H E hr=>
 jL (kB (i:=3) sX.nd (jW (Pb rfl) Xy RM (jG (kM (jC 0) (jU m5 (jC 1) jI)) (jG (kM (jC 0) (jU m5 (jC 2) jI)) jQ))))
 (jL (kB (i:=4) sX.nd (jW (PL rfl) Xi Io (jG (kM (jC 0) (jU m5 (jC 1) jI)) (jG (kM (jC 0) (jU m5 (jC 2) jI)) jQ))))
 (jP (kg (HW (jW (TZ rfl) Xz O6 (jG (oA (N:=["thing", "low", "high"]) (cap:=[none,some 3,some 4]) rfl (qH ["low", "high"] rfl ∅ ∅ ∅ ∅ ∅ (bU.mpr ⟨by first|exact Or.inl rfl|exact Or.inr rfl,(bU.mpr ⟨by first|exact Or.inl rfl|exact Or.inr rfl,(nofun)⟩)⟩) ⟨rfl,by decide +kernel,⟨rfl,by decide +kernel,trivial⟩⟩) (qi (KD (jC 0) (wC (jC 1)) (wC (jU m5 (jC 2) jI)))) (λ_ _ _ _=>kc (i:=0) (show(["thing", "low", "high"]:am).Nodup by decide +kernel) rfl (Or.inl rfl) (.inr rfl)) (λ_ _ _ _=>r_) (λ_ _ _ _=>TM (GX hr.units) (GX hr.units) (jC 1) (jC 0) (jC 2))) jQ))))))
def JD:FnScope zI zT (jS zy):=uY rfl rfl rfl ∅
def LU(F:Fun K "steps" "steps" zy f fd)(Xk:mg "sorted" = none)(XA:qK P w K mg base 1 "is_step" vc nF)(XC:qK P w K mg base 1 "exchanged_places" mT ko):FnOk P w K mg base qy 2 f fd zT (rz K 2 uS):=uZ (m:=zS) F JD λcdv B outer s H E hr=>
 jP (kg (jW JG Xk yP (jG (oA (N:=["i", "j", "order"]) (cap:=[none,none,some 0]) rfl (qH ["order"] rfl ∅ ∅ ∅ ∅ ∅ (bU.mpr ⟨by first|exact Or.inl rfl|exact Or.inr rfl,(nofun)⟩) ⟨rfl,by decide +kernel,trivial⟩) (qi (jC 1)) (λ_ _ _ _=>yl rfl (mq (kc (i:=0) (show(["i", "j", "order"]:am).Nodup by decide +kernel) rfl (Or.inl rfl) (.inr rfl)) (mq (kc (i:=1) (show(["i", "j", "order"]:am).Nodup by decide +kernel) rfl (Or.inl rfl) (.inr rfl)) uH))) (λ_ _ _ _=>qo (qB (Wq XA hr (jC 2) (jC 0) (jC 1)))) (λ_ _ _ _=>Wq XC hr (jC 2) (jC 0) (jC 1))) jQ)))
def yh:FnScope pG p5 (jS pS):=uY rfl rfl rfl ∅
def xw(F:Fun K "steps_above" "steps_above" pS f fd)(Xa:mg "len" = none)(XD:qK P w K mg base 2 "steps" zT uS)(Xh:qK P w K mg base 1 "place_pairs" nP kE):FnOk P w K mg base qy 3 f fd p5 (rz K 1 mz):=uZ (m:=pT) F yh λcdv B outer s H E hr=>
 jP (kg (yx XD hr (jC 0) (oA (N:=["i", "j", "order"]) (cap:=[none,none,some 0]) rfl (qH ["order"] rfl ∅ ∅ ∅ ∅ ∅ (bU.mpr ⟨by first|exact Or.inl rfl|exact Or.inr rfl,(nofun)⟩) ⟨rfl,by decide +kernel,trivial⟩) (qi (Ar Xh hr (jW nv Xa lB (jG (jC 0) jQ)))) (λ_ _ _ _=>yl rfl (mq (kc (i:=0) (show(["i", "j", "order"]:am).Nodup by decide +kernel) rfl (Or.inl rfl) (.inr rfl)) (mq (kc (i:=1) (show(["i", "j", "order"]:am).Nodup by decide +kernel) rfl (Or.inl rfl) (.inr rfl)) uH))) (λ_ _ _ _=>qo (kX (GX hr.units) (kM (jC 2) (jU m5 (jC 0) jI)) (kM (jC 2) (jU m5 (jC 1) jI)))) (λ_ _ _ _=>u9 (jG (jC 0) (jG (jC 1) jQ))))))
def oU:FnScope sE u7 (jS u0):=uY rfl rfl rfl ∅
def CV(F:Fun K "between" "between" u0 f fd)(Xk:mg "sorted" = none)(XF:∃t,mg "MOST_CLIMBED_PAIRS" = some (.int 4 t))(XG:∃t,mg "MOST_CLIMBED_THINGS" = some (.int 9 t))(XH:∃t,mg "MOST_THINGS_chains" = some (.int 6 t))(Xj:qK P w K mg base 1 "need_pair" o8 lQ)(XI:qK P w K mg base 4 "need_bounds" pM mE)(Xn:qK P w K mg base 3 "is_below" tw lR)(XJ:qK P w K mg base 3 "steps_above" p5 mz):FnOk P w K mg base qy 5 f fd u7 (rz K 2 oF):=uZ (m:=su) F oU λcdv B outer s H E hr=>
 jL (ql (yx Xj hr (jC 0) (jC 1)))
 (jL (ql (D8 XI (hr.mono ⋯) (jG (jC 0) (jG (jC 1) (jG (uc XH.choose_spec) (jG (uc XG.choose_spec) (jG (uc XF.choose_spec) jQ))))) (lZ (lZ (lZ (lZ (lZ wD)))))))
 (jL (n9 (yf (qB (yx Xn hr (jC 0) (jC 1))))
 (jP (kg (qF jQ)))
 kY)
 (jL (kB (i:=2) oU.nd (Fb hr.units (jC 0) FZ))
 (jL (kB (i:=3) oU.nd (qF (jG (jC 0) jQ)))
 (jL (xG 1000000 cK (qB (jC 3))
 (jL (kB (i:=4) oU.nd (Qn PySem.F.slot_list_pop PySem.F.type_list_pop Ua (jC 3)))
 (jP (pJ cK rfl (qi (Ar XJ hr (jC 4))) (kc (i:=5) oU.nd)
 (jP (n9 (kX (Ie hr.units) (jC 5) (jC 2))
 (jL (w_ (yx Xn hr (jC 5) (jC 1)) (DQ hr.units (jC 2) (jC 5)))
 (jP (n9 (qB (JJ hr.units (jC 2) (jC 5)))
 (jP (ql (za eS eT uT (jC 3) (jG (jC 5) jQ))))
 kY)))
 kY))))))
 (jP (kg (jW JG Xk yP (jG (oA (N:=["order", "is_between"]) (cap:=[none,none]) rfl (qH [] rfl ∅ ∅ ∅ ∅ ∅ (nofun) trivial) (Iq (jC 2)) (λ_ _ _ _=>yl rfl (mq (kc (i:=0) (show(["order", "is_between"]:am).Nodup by decide +kernel) rfl (Or.inl rfl) (.inr rfl)) (mq (kc (i:=1) (show(["order", "is_between"]:am).Nodup by decide +kernel) rfl (Or.inl rfl) (.inr rfl)) uH))) (λ_ _ _ _=>qo (qB (jC 1))) (λ_ _ _ _=>jC 0)) jQ)))))))))
def xE:FnScope AB zw (jS z_):=uY rfl rfl rfl ∅
def Ib(F:Fun K "count" "count" z_ f fd)(Xa:mg "len" = none)(XM:∃t,mg "MOST_THINGS_counts" = some (.int 6 t))(Xe:qK P w K mg base 3 "length" t6 m_)(XQ:qK P w K mg base 5 "between" u7 oF)(XR:qK P w K mg base 1 "plain_order" pX mD):FnOk P w K mg base qy 6 f fd zw (rz K 1 uG):=uZ (m:=wz) F xE λcdv B outer s H E hr=>
 jL (n9 (kX (yH hr.units) (jW nv Xa lB (jG (jC 0) jQ)) (uc XM.choose_spec))
 (jP (HH))
 kY)
 (jL (kB (i:=1) xE.nd (jU w9 (qF (jG jI jQ)) (jU nq (Ar Xe hr (jC 0)) jI)))
 (jL (pJ cK rfl (qi (yx XQ hr (Ar XR hr (jW nv Xa lB (jG (jC 0) jQ))) (jC 0))) (kc (i:=2) xE.nd)
 (jP (zO (jC 1) (Ar Xe hr (jC 2)) jI Au)))
 (jP (kg (jC 1)))))
def Bw:FnScope tH sW (jS sR):=uY rfl rfl rfl ∅
def BX(F:Fun K "_law_cell" "_law_cell" sR f fd)(Xa:mg "len" = none):FnOk P w K mg base qy 1 f fd sW (rz K 2 nI):=uZ (m:=sU) F Bw λcdv B outer s H E hr=>
 jL (n9 (kX (GX hr.units) (jC 1) (jW nv Xa lB (jG (jC 0) jQ)))
 (jP (kg (kM (jC 0) (jC 1))))
 kY)
 (jP (kg jI))
def tP:FnScope ve vh (jS vj):=uY rfl rfl rfl ∅
def Dl(F:Fun K "_law_bag" "_law_bag" vj f fd)(XS:mg "abs" = none):FnOk P w K mg base qy 1 f fd vh (rz K 2 oG):=uZ (m:=vn) F tP λcdv B outer s H E hr=>
 jL (kB (i:=2) tP.nd (jW UD XS PC (jG (jC 0) jQ)))
 (jL (n9 (kX (GX hr.units) (jC 2) (jU SM jI jI))
 (jP (kB (i:=2) tP.nd jI))
 kY)
 (jP (kg (qF (jG (jC 2) (jG (jU zm (jU nq (jU nq (jU w9 (jU zm (jC 0) jI) jI) (jU w9 jI (jC 1))) jI) jI) jQ))))))
def zR:FnScope rV rD (jS rR):=uY rfl rfl rfl ∅
def Ak(F:Fun K "_law_mixed" "_law_mixed" rR f fd):FnOk P w K mg base qy 1 f fd rD (rz K 1 mV):=uZ (m:=rE) F zR λcdv B outer s H E hr=>
 jL (w_ (jU zm (jU nq (jU w9 (kM (jC 0) jI) jI) jI) jI) (Ay (jC 0) jI))
 (jP (kg (jU Ir (jU zm (jU w9 (kM (jC 0) jI) jI) jI) jI)))
def nk:FnScope oZ o6 (jS rf):=uY rfl rfl rfl ∅
def Aa(F:Fun K "_law_digit" "_law_digit" rf f fd)(Xb:mg "range" = none)(Xo:qK P w K mg base 1 "_law_mixed" rD mV):FnOk P w K mg base qy 2 f fd o6 (rz K 2 kH):=uZ (m:=oW) F nk λcdv B outer s H E hr=>
 jL (n9 (kX (yH hr.units) (kM (jC 0) jI) jI)
 (jL (kB (i:=2) nk.nd (jU zm (kM (jC 0) jI) (jC 1)))
 (jL (w_ (jU Ir (kM (jC 0) jI) (jC 1)) (Ay (jC 0) jI))
 (jP (kg (jC 2)))))
 kY)
 (jL (kB (i:=2) nk.nd (Ar Xo hr (jC 0)))
 (jL (n9 (kX (yH hr.units) (jC 1) jI)
 (jP (pJ cK rfl (mX Xb jI) (kc (i:=3) nk.nd)
 (jP (kB (i:=2) nk.nd (jU nq (jU w9 (jC 2) jI) (Ar Xo hr (jC 0)))))))
 kY)
 (jP (kg (jU zm (jC 2) (jC 1))))))
def oz:FnScope qY qO (jS qS):=uY rfl rfl rfl ∅
def zG(F:Fun K "_law_order" "_law_order" qS f fd)(Xd:mg "list" = none)(Xb:mg "range" = none)(Xa:mg "len" = none)(Xc:mg "tuple" = none)(Xf:qK P w K mg base 2 "_law_digit" o6 kH):FnOk P w K mg base qy 3 f fd qO (rz K 2 mY):=uZ (m:=qP) F oz λcdv B outer s H E hr=>
 jL (kB (i:=2) oz.nd (lY (Lg rfl) Xd uy (jG (lY yv Xb xZ (jG jI (jG (jU nq (jC 1) jI) jQ))) jQ)))
 (jL (kB (i:=3) oz.nd (qF jQ))
 (jL (pJ cK rfl (mX Xb (jC 1)) (kc (i:=4) oz.nd)
 (jP (ql (za eS eT uT (jC 3) (jG (za PySem.F.slot_list_pop PySem.F.type_list_pop MM (jC 2) (jG (yx Xf hr (jC 0) (jW nv Xa lB (jG (jC 2) jQ))) jQ)) jQ)))))
 (jP (kg (lY (uM rfl) Xc qU (jG (jC 3) jQ))))))
def vJ:FnScope nW mG (jS nV):=uY rfl rfl rfl ∅
def vK(F:Fun K "_law_exchanged" "_law_exchanged" nV f fd):FnOk P w K mg base qy 1 f fd mG (rz K 2 ku):=uZ (m:=n5) F vJ λcdv B outer s H E hr=>
 jP (kg (jU nq (jU nq (KD (jC 0) Fe (wC (jU m5 (jC 1) jI))) (u9 (jG (kM (jC 0) (jC 1)) (jG (kM (jC 0) (jU m5 (jC 1) jI)) jQ)))) (KD (jC 0) (wC (jU nq (jC 1) jI)) Fe)))
def o_:FnScope tD s_ (jS tX):=uY rfl rfl rfl ∅
def BF(F:Fun K "_law_long" "_law_long" tX f fd)(Xb:mg "range" = none)(Xa:mg "len" = none):FnOk P w K mg base qy 1 f fd s_ (rz K 1 mS):=uZ (m:=tF) F o_ λcdv B outer s H E hr=>
 jL (kB (i:=1) o_.nd jI)
 (jL (pJ cK rfl (mX Xb (jW nv Xa lB (jG (jC 0) jQ))) (kc (i:=2) o_.nd)
 (jP (kB (i:=1) o_.nd (jU nq (jC 1) (jW nv Xa lB (jG (oA (N:=["_law_j", "_law_order_here", "_law_i"]) (cap:=[none,some 0,some 2]) rfl (qH ["_law_order_here", "_law_i"] rfl ∅ ∅ ∅ ∅ ∅ (bU.mpr ⟨by first|exact Or.inl rfl|exact Or.inr rfl,(bU.mpr ⟨by first|exact Or.inl rfl|exact Or.inr rfl,(nofun)⟩)⟩) ⟨rfl,by decide +kernel,⟨rfl,by decide +kernel,trivial⟩⟩) (mX Xb (jC 2)) (λ_ _ _ _=>kc (i:=0) (show(["_law_j", "_law_order_here", "_law_i"]:am).Nodup by decide +kernel) rfl (Or.inl rfl) (.inr rfl)) (λ_ _ _ _=>qo (kX (yH hr.units) (kM (jC 1) (jC 0)) (kM (jC 1) (jC 2)))) (λ_ _ _ _=>jC 0)) jQ))))))
 (jP (kg (jC 1))))
def nR:FnScope tu tR (jS tQ):=uY rfl rfl rfl ∅
def A9(F:Fun K "_law_word" "_law_word" tQ f fd)(Xb:mg "range" = none)(Xa:mg "len" = none)(Xl:qK P w K mg base 1 "_law_exchanged" mG ku):FnOk P w K mg base qy 2 f fd tR (rz K 1 oM):=uZ (m:=tM) F nR λcdv B outer s H E hr=>
 jL (kB (i:=1) nR.nd (qF jQ))
 (jL (D_ (i:=2) (N:=["_law_k", "_law_order_here"]) (cap:=[none,some 0]) nR.nd rfl (qH ["_law_order_here"] rfl ∅ ∅ ∅ ∅ ∅ (bU.mpr ⟨by first|exact Or.inl rfl|exact Or.inr rfl,(nofun)⟩) ⟨rfl,by decide +kernel,trivial⟩) (p6 Xb jI (jW nv Xa lB (jG (jC 0) jQ))) (λ_ _ _ _=>kc (i:=0) (show(["_law_k", "_law_order_here"]:am).Nodup by decide +kernel) rfl (Or.inl rfl) (.inr rfl)) (λ_ _ _ _=>qo (kX (yH hr.units) (kM (jC 1) (jU m5 (jC 0) jI)) (kM (jC 1) (jC 0)))) (λ_ _ _ _=>jC 0))
 (jL (xG 1000000 cK (kX (O7 hr.units) (jC 2) (qF jQ))
 (jL (kB (i:=0) nR.nd (yx Xl hr (jC 0) (kM (jC 2) (J9 jI))))
 (jL (ql (za eS eT uT (jC 1) (jG (kM (jC 2) (J9 jI)) jQ)))
 (jP (D_ (i:=2) (N:=["_law_k", "_law_order_here"]) (cap:=[none,some 0]) nR.nd rfl (qH ["_law_order_here"] rfl ∅ ∅ ∅ ∅ ∅ (bU.mpr ⟨by first|exact Or.inl rfl|exact Or.inr rfl,(nofun)⟩) ⟨rfl,by decide +kernel,trivial⟩) (p6 Xb jI (jW nv Xa lB (jG (jC 0) jQ))) (λ_ _ _ _=>kc (i:=0) (show(["_law_k", "_law_order_here"]:am).Nodup by decide +kernel) rfl (Or.inl rfl) (.inr rfl)) (λ_ _ _ _=>qo (kX (yH hr.units) (kM (jC 1) (jU m5 (jC 0) jI)) (kM (jC 1) (jC 0)))) (λ_ _ _ _=>jC 0))))))
 (jP (kg (Q3 (jC 1))))))
def z9:FnScope rK qR (jS rH):=uY rfl rfl rfl ∅
def z0(F:Fun K "_law_whole" "_law_whole" rH f fd)(Xg:mg "isinstance" = none)(XT:mg "bool" = none)(XU:mg "int" = none):FnOk P w K mg base qy 1 f fd qR (rz K 1 m7):=uZ (m:=rq) F z9 λcdv B outer s H E hr=>
 jP (kg (Jy (jW Jg Xg pH (jG (jC 0) (jG (JQ XU RW) jQ))) (IZ (HW (jW Jg Xg pH (jG (jC 0) (jG (JQ XT NN) jQ)))))))
def BI:FnScope sQ sV (jS sS):=uY rfl rfl rfl ∅
def BZ(F:Fun K "_law_back" "_law_back" sS f fd)(Xc:mg "tuple" = none)(Xb:mg "range" = none)(Xa:mg "len" = none):FnOk P w K mg base qy 1 f fd sV (rz K 1 oO):=uZ (m:=tK) F BI λcdv B outer s H E hr=>
 jP (kg (lY (uM rfl) Xc qU (jG (oA (N:=["_law_thing", "_law_order_here"]) (cap:=[none,some 0]) rfl (qH ["_law_order_here"] rfl ∅ ∅ ∅ ∅ ∅ (bU.mpr ⟨by first|exact Or.inl rfl|exact Or.inr rfl,(nofun)⟩) ⟨rfl,by decide +kernel,trivial⟩) (p6 Xb jI (jU nq (jW nv Xa lB (jG (jC 0) jQ)) jI)) (λ_ _ _ _=>kc (i:=0) (show(["_law_thing", "_law_order_here"]:am).Nodup by decide +kernel) rfl (Or.inl rfl) (.inr rfl)) (λ_ _ _ _=>r_) (λ_ _ _ _=>jU nq (P8 (jC 1) (jG (jC 0) jQ)) jI)) jQ)))
def oB:FnScope rX qN (jS rJ):=uY rfl rfl rfl ∅
def zV(F:Fun K "_law_count" "_law_count" rJ f fd)(Xc:mg "tuple" = none)(Xb:mg "range" = none)(Xa:mg "len" = none)(Xd:mg "list" = none)(XW:qK P w K mg base 2 "_law_word" tR oM)(Xl:qK P w K mg base 1 "_law_exchanged" mG ku)(XX:qK P w K mg base 1 "_law_long" s_ mS):FnOk P w K mg base qy 3 f fd qN (rz K 1 mW):=uZ (m:=qZ) F oB λcdv B outer s H E hr=>
 jL (kB (i:=1) oB.nd (Fb hr.units (lY (uM rfl) Xc qU (jG (lY yv Xb xZ (jG jI (jG (jU nq (jW nv Xa lB (jG (jC 0) jQ)) jI) jQ))) jQ)) jI))
 (jL (pJ cK rfl (qi (Ar XW hr (jC 0))) (kc (i:=2) oB.nd)
 (jP (pJ cK rfl (qi (lY (MD rfl) Xd uy (jG (jC 1) jQ))) (kc (i:=3) oB.nd)
 (jP (n9 (kX (GX hr.units) (kM (jC 3) (jU m5 (jC 2) jI)) (kM (jC 3) (jC 2)))
 (jP (w_ (jU nq (JJ hr.units (jC 1) (jC 3)) jI) (DQ hr.units (jC 1) (yx Xl hr (jC 3) (jC 2)))))
 kY)))))
 (jP (kg (oA (N:=["_law_many", "_law_found"]) (cap:=[none,some 1]) rfl (qH ["_law_found"] rfl ∅ ∅ ∅ ∅ ∅ (bU.mpr ⟨by first|exact Or.inl rfl|exact Or.inr rfl,(nofun)⟩) ⟨rfl,by decide +kernel,trivial⟩) (mX Xb (jU nq (Ar XX hr (jC 0)) jI)) (λ_ _ _ _=>kc (i:=0) (show(["_law_many", "_law_found"]:am).Nodup by decide +kernel) rfl (Or.inl rfl) (.inr rfl)) (λ_ _ _ _=>r_) (λ_ _ _ _=>za PySem.F.slot_list_count PySem.F.type_list_count (Kz hr.units) (Lc rfl Xd uy (jC 1)) (jG (jC 0) jQ))))))
def t_:FnScope rB rL (jS rQ):=uY rfl rfl rfl ∅
def zF(F:Fun K "_law_right" "_law_right" rQ f fd)(XY:mg "all" = none)(Xg:mg "isinstance" = none)(Xd:mg "list" = none)(XZ:qK P w K mg base 6 "count" zw uG)(X0:qK P w K mg base 1 "_law_whole" qR m7):FnOk P w K mg base qy 7 f fd rL (rz K 2 lA):=uZ (m:=qW) F t_ λcdv B outer s H E hr=>
 jL (kB (i:=2) t_.nd (Ar XZ hr (jC 0)))
 (jL (n9 (AW.at (F3 (yf (qB (jW Jg Xg pH (jG (jC 2) (jG (JQ Xd uy) jQ))))) (F3 (kX (O7 hr.units) (jC 2) (jC 1)) (Cr (yf (qB (jW (SY rfl) XY Sd (jG (oA (N:=["_law_many"]) (cap:=[none]) rfl (qH [] rfl ∅ ∅ ∅ ∅ ∅ (nofun) trivial) (qi (jC 2)) (λ_ _ _ _=>kc (i:=0) (show(["_law_many"]:am).Nodup by decide +kernel) rfl (Or.inl rfl) (.inr rfl)) (λ_ _ _ _=>r_) (λ_ _ _ _=>Ar X0 hr (jC 0))) jQ))))))))
 (jP (kg FZ))
 kY)
 (jL (ql (za eS eT uT (jC 2) (jG jI jQ)))
 (jP (kg FZ))))
def sZ:FnScope Lu OH (jS Js):=uY rfl rfl rfl ∅
set_option smartUnfolding false in
theorem Rf(F:Fun K "law" "law" Js f fd)(Xp:qK P w K mg base 1 "_law_bag" vh oG)(Xq:qK P w K mg base 1 "_law_cell" sW nI)(Xf:qK P w K mg base 2 "_law_digit" o6 kH)(Xr:qK P w K mg base 3 "_law_order" qO mY)(Xs:qK P w K mg base 3 "_law_count" qN mW)(Xm:qK P w K mg base 7 "_law_right" rL lA)(X3:qK P w K mg base 1 "_law_back" sV oO):FnOk P w K mg base qy 8 f fd OH (rz K 1 yU):=uZ (m:=KH) F sZ λcdv B outer s H E hr=>
 jL (kB (i:=1) sZ.nd (yx Xp hr (yx Xq hr (jC 0) jI) jI))
 (jL (kB (i:=2) sZ.nd (kM (qF (jG jI (jG jI (jG jI (jG jI (jG jI (jG jI jQ))))))) (yx Xf hr (jC 1) jI)))
 (jL (n9 (kX (VQ hr.units) (yx Xf hr (jC 1) jI) jI)
 (jP (kB (i:=2) sZ.nd jI))
 kY)
 (jL (kB (i:=3) sZ.nd (yx Xr hr (jC 1) (jC 2)))
 (jL (kB (i:=4) sZ.nd (yx Xr hr (yx Xp hr (yx Xq hr (jC 0) jI) jI) jI))
 (jL (kB (i:=5) sZ.nd (Ar Xs hr (jC 3)))
 (jL (n9 (AW.at (F3 (yf (qB (yx Xm hr (jC 3) (jC 5)))) (Cr (yf (qB (yx Xm hr (jC 4) (Ar Xs hr (jC 4))))))))
 (jP (kg FZ))
 kY)
 (jP (kg (Jy (yx Xm hr (Ar X3 hr (jC 3)) (jC 5)) (IZ (yx Xm hr (jC 3) (jC 5))))))))))))
end
end K51
namespace K51
open PySem L2 Am
abbrev Ks (S:jJ)(b:Nat):Prop:=∃g st:Int,jF S b=some [.int g,.int st]/\0<=g/\0<=st/\st<4294967296
def Ks.kp{c:Nat->Prop}(h:Ks S b)(k:Kp c S S')(hb:¬c b):Ks S' b:=by
 obtain⟨g,st,e,q⟩:=h;exact⟨g,st,k.lst b _ hb e,q⟩
def Ek{ns:ae}{k:Int}(h0:0<=k):∃c,nI [.frz (ns.map .int),.int k] S=.ok (.int c) S:=by
 unfold nI sU tH;dsimp[kC,bools,nE,Nat.reduceAdd,Nat.reduceSub,aL];by_cases hk:k<(ns.length:Int)
 ·have hn:k.toNat<ns.length:=()
  have ha:nQ (ns.map A.int) k=some (.int ns[k.toNat]):=uU (k:=k.toNat) () (aH hn);rw[br hk];dsimp[kC,bools,ha];exact⟨_,rfl⟩
 ·rw[bu hk];dsimp[kC,bools];exact⟨_,rfl⟩
def F9{S:jJ}{c k:Int}(h0:0<=k)(h1:k<=100):∃S',oG [.int c,.int k] S=.ok (.ref S.length) S'/\Ks S' S.length/\qk S S':=by
 have e3:Qv (.int 10) (.int 18)=λS=>R.ok (.int 1000000000000000000) S:=by
  funext S;exact lq ⟨by decide,by decide,by decide⟩
 have m1:∀x:Int,zL (.int x) (.int 2147483647)=λS=>R.ok (.int (x % 2147483647)) S:=λx=>by funext S;exact Ck ⋯
 have m2:∀x:Int,uB (.int x) (.int 69621)=λS=>R.ok (.int (x * 69621)) S:=λx=>by funext S;exact mul_r ⋯ ⋯
 have m3:∀x:Int,uB (.int 7919) (.int x)=λS=>R.ok (.int (7919 * x)) S:=λx=>by funext S;exact IT ⋯ ⋯
 have s0:∀x:Int,0<=x % 2147483647:=λx=>iN _ ⋯;have s1:∀x:Int,x % 2147483647<4294967296:=λx=>by have:=gz x (show(0:Int)<2147483647 by decide);lia
 have hA:0<=(if c<0 then -c else c):=by split<;>lia
 unfold oG vn ve;dsimp[kC,bools,nE,Nat.reduceAdd,Nat.reduceSub,e3,m1,m2,m3];by_cases hk:(if c<0 then -c else c)<1000000000000000000
 ·rw[br hk];dsimp[kC,bools,e3,m1,m2,m3];exact⟨_,rfl,⟨_,_,jY,d7 0,s0 _,s1 _⟩,Kp.refl.lay⟩
 ·rw[bu hk];dsimp[kC,bools,e3,m1,m2,m3];exact⟨_,rfl,⟨_,_,jY,hA,s0 _,s1 _⟩,Kp.refl.lay⟩
def Jp{S:jJ}{g st:Int}(hl:jF S b=some [.int g,.int st])(hs:0<=st)(hs2:st<4294967296):∃d st',mV [.ref b] S=.ok (.int d) (S.set b (.lst [.int g,.int st']))/\0<=st'/\st'<4294967296:=by
 have hb:=oR hl;have i1:yy 2 1=some 1:=vF rfl ⋯;have e1:0<=(st * 48271+11) % 2147483647:=iN _ ⋯;have e2:(st * 48271+11) % 2147483647<2147483647:=gz _ ⋯;refine⟨(st * 48271+11) % 2147483647 * 16807 % 2147483629 / 8,(st * 48271+11) % 2147483647,?_,e1,()⟩;unfold mV rE rV;rw[t7];simp[hl,LH,HB,i1,IT (show -18446744073709551616<st by lia) (),Ck (show(0:Int)<2147483647 by decide),nu hb,Ij (show(0:Int)<8 by decide) ⋯,IT (show -18446744073709551616<(st * 48271+11) % 2147483647 by lia) (),Ck (show(0:Int)<2147483629 by decide)]
def digit{m:Int}(h:Ks S b)(h1:1<=m)(h2:m<=1000):∃d S',kH [.ref b,.int m] S=.ok (.int d) S'/\0<=d/\d<m/\Ks S' b/\Kp (·=b) S S':=by
 obtain⟨g,st,hl,hg,hs,hs2⟩:=h;have hb:=oR hl;have i0:yy 2 0=some 0:=vF rfl ⋯;have fin:∀d g' st':Int,0<=d->d<m->0<=g'->0<=st'->st'<4294967296->kH [.ref b,.int m] S=.ok (.int d) (S.set b (.lst [.int g',.int st']))->∃d S',kH [.ref b,.int m] S=.ok (.int d) S'/\0<=d/\d<m/\Ks S' b/\Kp (·=b) S S':=
  λd g' st' a1 a2 a3 a4 a5 e=>⟨d,_,e,a1,a2,⟨g',st',nu hb,a3,a4,a5⟩,Kp.refl.set (.inl rfl)⟩
 by_cases hg0:0<g
 ·refine fin (g % m) (g / m) st (iN _ ()) (gz _ ()) (Int.ediv_nonneg hg ()) hs hs2 ?_;unfold kH oW oZ;rw[t7];simp[hl,LH,HB,hg0,Ck (show 0<m by lia),Ij (show 0<m by lia) (show m<1073741824 by lia),i0]
 ·obtain⟨d,st',e1,s0,s1⟩:=Jp hl hs hs2;refine fin (d % m) g st' (iN _ ()) (gz _ ()) hg s0 s1 ?_;unfold kH oW oZ;rw[t7];simp[hl,LH,HB,hg0,Ck (show 0<m by lia),e1,show ¬(1000<m)by lia]
theorem qu:∀(l:ae) (j:Nat) (h:j<l.length),(l[j]::l.eraseIdx j).Perm l
 | x::l,0,_=>dO _
 | x::l,j+1,h=>(List.Perm.swap x _ _).trans (List.Perm.cons x (qu l j (gP h)))
def Hg{ls fs:ae}{j:Nat}(h:j<ls.length):((fs++[ls[j]])++ls.eraseIdx j).Perm (fs++ls):=by
 rw[bJ];refine List.Perm.append_left fs ?_
 skip
 exact qu ls j h
def K4{d:Int}{n:Nat}(h0:0<=d)(h:d.toNat<n):seqIndex? d n=some d.toNat:=by
 unfold seqIndex?;simp
 lia
theorem zb{α β:Type}(f:α->β):∀(l:List α) (k:Nat),(l.map f).eraseIdx k=(l.eraseIdx k).map f
 | [],_=>rfl
 | _::_,0=>rfl
 | x::l,k+1=>dJ (f x::·) (zb f l k)
def BA{n:Int}(h:Ks S b)(h1:1<=n)(h2:n<=20):∃(xs:ae) (S':jJ),mY [.ref b,.int n] S=.ok (.tup (xs.map .int)) S'/\xs.Perm (jV 1 (n+1))/\Ks S' b/\Kp (·=b) S S':=by
 have hbS:b<S.length:=by obtain⟨_,_,e,_⟩:=h;exact oR e
 unfold mY qP qY;dsimp[kC,bools,nE,Nat.reduceAdd,Nat.reduceSub,Gm (Cj (show(-1000000:Int)<=1 by decide) ⋯ (show -1000000<=n+1 by lia) () ()),aU];refine wo (lo:=0) (hi:=n) (S1:=S++[.lst ((jV 1 (n+1)).map .int)]++[.lst []]) (oK (by dsimp[kC,bools]) (mU () ()))
  (λi τ S1=>∃(x4:A) (ls fs:ae),τ=[.ref b,.int n,.ref S.length,.ref (S.length+1),x4]/\jF S1 S.length=some (ls.map .int)/\jF S1 (S.length+1)=some (fs.map .int)/\(ls.length:Int)+i=n/\(fs++ls).Perm (jV 1 (n+1))/\Ks S1 b/\Kp (·=b) S S1)
  (λr=>∃(xs:ae) (S':jJ),RS.end (RS.seq r _)=.ok (.tup (xs.map .int)) S'/\xs.Perm (jV 1 (n+1))/\Ks S' b/\Kp (·=b) S S') ?_ ?_ ?_
 ·refine⟨.unb,jV 1 (n+1),[],rfl,qE jY,?_,by rw[kF];lia,dO _,h.kp (c:=λ_=>False) (Kp.refl.lay.lay) (λz=>z),Kp.refl.lay.lay⟩;have:jF (S++[.lst ((jV 1 (n+1)).map .int)]++[.lst []]) (S++[O.lst ((jV 1 (n+1)).map .int)]).length=some []:=jY;simpa using this
 ·rintro i τ S1 hi ⟨x4,ls,fs,rfl,hL,hF,hn,hp,hb,hk⟩;left;obtain⟨d,S2,e2,d0,d1,hb2,hk2⟩:=digit (m:=(ls.length:Int)) hb () ();have hL2:=hk2.lst S.length _ () hL;have hF2:=hk2.lst (S.length+1) _ () hF;have hd:d.toNat<ls.length:=()
  have lF:=oR hF2;have lL:=oR hL2;have hfl:fs.length<=20:=by
   have:=hp.length_eq;rw[aU,kF]at this
   lia
  have hsq:seqIndex? d ls.length=some d.toNat:=K4 d0 hd;have hF3:jF (S2.set S.length (.lst ((ls.map A.int).eraseIdx d.toNat))) (S.length+1)=some (fs.map .int):=by rw[nK ()];exact hF2
  unfold sN;dsimp[kC,bools,hL,hF,aL,e2,hL2,Dg,lq (show -(2 ^ 63:Int)<=d/\d<2 ^ 63 by lia),hsq,aQ,aH hd,iK,hF3,Fx (show fs.length<16777216 by lia)];refine⟨_,_,rfl,_,ls.eraseIdx d.toNat,fs++[ls[d.toNat]],rfl,?_,?_,?_,(Hg hd).trans hp,?_,?_⟩
  ·rw[nK (),nu lL,zb]
  ·rw[nu (by rw[bR];exact lF),bP];rfl
  ·rw[List.length_eraseIdx_of_lt hd];lia
  ·obtain⟨g,st,e,q⟩:=hb2;exact⟨g,st,by rw[nK (),nK ()];exact e,q⟩
  ·exact((hk.trans hk2).set (.inr (aP _))).set (.inr ())
 ·rintro τ S1 ⟨x4,ls,fs,rfl,hL,hF,hn,hp,hb,hk⟩;have:ls=[]:=dj.mp ();subst this;exact⟨fs,S1,by dsimp[kC,bools,hF],by simpa using hp,hb,hk⟩
def KW{l:ae}{k:Nat}{i:Int}(h:i=k)(hk:k<l.length):nQ (l.map A.int) i=some (.int (l.getD k 0)):=uU h (by rw[aI,aH hk];rfl)
abbrev prs (n:Int):ad:=(jV 1 n).flatMap λi=>(jV (i+1) (n+1)).map λj=>.tup [.int i,.int j]
def E2{n:Int}{x:A}:x∈prs n ↔ ∃i j:Int,1<=i/\i<j/\j<=n/\x=.tup [.int i,.int j]:=by
 unfold prs;rw[iz];constructor
 ·rintro⟨i,hi,hx⟩;obtain⟨j,hj,rfl⟩:=bH.mp hx;rw[kG]at hi hj;exact⟨i,j,(),(),(),rfl⟩
 ·rintro⟨i,j,h1,h2,h3,rfl⟩;exact⟨i,kG.mpr ⟨h1,()⟩,bH.mpr ⟨j,kG.mpr ⟨(),()⟩,rfl⟩⟩
theorem BE{α β:Type}{f:α->List β}{B:Nat}:∀(l:List α),(∀x∈l,(f x).length<=B)->(l.flatMap f).length<=l.length * B
 | [],_=>cY _
 | x::l,h=>by
  rw[fL,aU,bE,Nat.add_mul,Nat.one_mul];have:=BE l λy hy=>h y (aT _ hy);have:=h x (aR ..)
  lia
def zU{n:Int}(h0:0<=n)(h1:n<=1000):(prs n).length<=16777216:=by
 have:=BE (B:=1000) (f:=λi=>(jV (i+1) (n+1)).map λj=>A.tup [.int i,.int j]) (jV 1 n) λx hx=>by
  rw[kG]at hx;rw[aL,kF];lia
 rw[kF]at this;have h2:(n-1).toNat * 1000<=1000 * 1000:=Nat.mul_le_mul_right _ ();unfold prs
 lia
theorem OA{i n lo hi:Int}:∀(k t:Nat) (x1:A),k+t=(hi-lo).toNat->∃x1',pO (kL lo hi) (kN 1) sH (t9 (jE (jD 0) (jE (jD 1) (jO)))) k t [.int i,x1,.int n] S=.ok ((List.range' t k).map λq:Nat=>A.tup [.int i,.int (lo+q)],[.int i,x1',.int n]) S
 | 0,t,x1,_=>⟨x1,rfl⟩
 | k+1,t,x1,h=>by
  obtain⟨x1',e⟩:=OA (S:=S) (i:=i) (n:=n) (lo:=lo) (hi:=hi) k (t+1) (.int (lo+t)) ();refine⟨x1',?_⟩;unfold pO;have hg:(kL lo hi).get t S=some (.int (lo+t)):=aN ();dsimp[kC,bools,hg,z6 (show([_,_]:ad).length<=16777216 by simp),e,d9,b9]
theorem HS{n:Int}(h0:0<=n)(h1:n<=1000):∀(k t:Nat) (x0 x1:A),k+t=(n-1).toNat->ow (kL 1 n) (kN 0) sH (om (jN l7 (jD 0) (eC (.int 1))) (jN l7 (jD 2) (eC (.int 1)))) (kN 1) sH (t9 (jE (jD 0) (jE (jD 1) (jO)))) k t [x0,x1,.int n] S=.ok ((List.range' t k).flatMap λq:Nat=>(jV (1+q+1) (n+1)).map λj=>A.tup [.int (1+q),.int j]) S
 | 0,t,x0,x1,_=>rfl
 | k+1,t,x0,x1,h=>by
  have hg:(kL 1 n).get t S=some (.int (1+t)):=aN ();obtain⟨x1',e⟩:=OA (S:=S) (i:=1+t) (n:=n) (lo:=1+t+1) (hi:=n+1) (kL (1+t+1) (n+1)).k 0 x1 rfl;have hr:((List.range' 0 (kL (1+(t:Int)+1) (n+1)).k).map λq:Nat=>A.tup [.int (1+t),.int (1+t+1+q)])=(jV (1+t+1) (n+1)).map λj=>A.tup [.int (1+t),.int j]:=by
   unfold jV;rw[bK,cC];rfl
  rw[hr]at e;have e2:=HS (S:=S) h0 h1 k (t+1) (.int (1+t)) x1' ();have hs:om (jN l7 (jD 0) (eC (.int 1))) (jN l7 (jD 2) (eC (.int 1))) [.int (1+t),x1,.int n] S=.ok (kL (1+t+1) (n+1)) S:=
   uL (S1:=S) (by dsimp[kC,bools]) (by dsimp[kC,bools]) (mU () ()) (mU () ())
  unfold ow;dsimp[kC,bools,hg,hs,e,e2,d9,fL]
def BG{S:jJ}{n:Int}(h0:0<=n)(h1:n<=1000):kE [.int n] S=.ok (.ref S.length) (S++[.lst (prs n)]):=by
 have hs:om (eC (.int 1)) (jD 0) [.int n] S=.ok (kL 1 n) S:=uL (S1:=S) (by dsimp[kC,bools]) (by dsimp[kC,bools]) (mU () ()) (mU () ());have e:=HS (S:=S) h0 h1 (kL 1 n).k 0 .unb .unb rfl;have hp:((List.range' 0 (kL 1 n).k).flatMap λq:Nat=>(jV (1+q+1) (n+1)).map λj=>A.tup [.int (1+q),.int j])=prs n:=by
  unfold prs jV;rw[jj,<- cC];rfl
 rw[hp]at e;unfold kE pZ pY CH;dsimp[kC,bools,nE,Nat.reduceAdd,Nat.reduceSub,hs,e,kD (zU h0 h1)]
abbrev wg (xs:ae)(q:A):Bool:=match q with
 | .tup [.int i,.int j]=>decide (xs.getD (i-1).toNat 0>xs.getD (j-1).toNat 0)
 | _=>false
def Si{xs:ae}{i:Int}(h1:0<=i)(h2:i<xs.length):nQ (xs.map A.int) i=some (.int (xs.getD i.toNat 0)):=KW (k:=i.toNat) () ()
def TN{S:jJ}{n:Nat}{xs:ae}(hlen:xs.length=n)(h2:n<=20) :
  ∃(P:Nat) (S':jJ),mF [.tup (xs.map .int)] S=.ok (.ref P) S'/\jF S' P=some ((prs n).filter (wg xs))/\qk S S'/\S.length<=P:=by
 have eq:=BG (S:=S) (n:=(n:Int)) () ();have hL:jF (S++[O.lst (prs n)]) S.length=some (prs n):=jY;obtain⟨S',g1,g2⟩:=o4 (s:=mJ S.length (prs n).length) (g:=AK 2 (sD (kN 0) (sD (kN 1) (AH)))) (t:=tY (jN Bu (jN nX (jD 2) (jN aSub (jD 0) (eC (.int 1)))) (jN nX (jD 2) (jN aSub (jD 1) (eC (.int 1)))))) (e:=t9 (jE (jD 0) (jE (jD 1) (jO))))
  (P:=λS1=>S1=S++[O.lst (prs n)]) (T:=λτ'=>∃y z,τ'=[y,z,.tup (xs.map .int)])
  (λi=>(prs n).getD i .unb) (λi=>wg xs ((prs n).getD i .unb)) (λi=>(prs n).getD i .unb)
  (λi S1 hi k=>by
   have hi:i<(prs n).length:=hi;show(jF S1 S.length).bind _=_;rw[k,hL,dw,aI,aH hi];rfl)
  (λS1 k=>by
   show(match jF S1 S.length with
    | some ys=>decide (ys.length<=(prs n).length)
    | none=>false)=true
   rw[k,hL];simp)
  (λi τ' S1 hi ⟨y,z,hy⟩ k=>by
   have hi:i<(prs n).length:=hi;subst hy k;have hm:(prs n).getD i .unb∈prs n:=by rw[aI,aH hi];exact c7 hi
   obtain⟨a,c,q1,q2,q3,eac⟩:=E2.mp hm;rw[eac];have x1:nQ (xs.map A.int) (a-1)=some (.int (xs.getD (a-1).toNat 0)):=Si () ();have x2:nQ (xs.map A.int) (c-1)=some (.int (xs.getD (c-1).toNat 0)):=Si () ();refine⟨[.int a,.int c,.tup (xs.map .int)],S++[O.lst (prs n)],S++[O.lst (prs n)],by dsimp[kC,bools,lq (show([_,_]:ad).length=2 from rfl)],by dsimp[kC,bools,x1,x2];rfl,⟨_,_,rfl⟩,λ_=>rfl,λ_=>⟨_,by dsimp[kC,bools,z6 (show([_,_]:ad).length<=16777216 by simp)],rfl⟩⟩)
  (prs n).length 0 (nM [none,none,some 0] [.tup (xs.map .int)]) (S++[O.lst (prs n)]) rfl ⟨_,_,rfl⟩ rfl
 subst g2;have ef:=nL (prs n) (wg xs) (λq=>q) .unb;rw[cC,map_id']at ef;rw[ef]at g1;have ll:=zU (n:=(n:Int)) () ();refine⟨_,(S++[O.lst (prs n)])++[.lst ((prs n).filter (wg xs))],?_,jY,Kp.refl.lay.lay,by rw[aU];lia⟩;have ec:kK [none,none,some 0] (qh (eFn kE (jE (jZ (f1 m8) (jE (jD 0) (jO))) (jO)))) (AK 2 (sD (kN 0) (sD (kN 1) (AH)))) (tY (jN Bu (jN nX (jD 2) (jN aSub (jD 0) (eC (.int 1)))) (jN nX (jD 2) (jN aSub (jD 1) (eC (.int 1)))))) (t9 (jE (jD 0) (jE (jD 1) (jO)))) [.tup (xs.map .int)] S=.ok (.ref (S++[O.lst (prs n)]).length) ((S++[O.lst (prs n)])++[.lst ((prs n).filter (wg xs))]):=by
  unfold kK;rw[rA (S1:=S++[O.lst (prs n)]) (by dsimp[kC,bools,aL,hlen,eq]) hL,R.lI];show R.lJ (l9 (mJ S.length (prs n).length) _ _ _ (prs n).length 0 _ _) _=_;rw[g1,R.k_,kD (bV (eo _ _) ll)]
 unfold mF pF pW;dsimp[kC,bools,nE,Nat.reduceAdd,Nat.reduceSub,ec]
abbrev Bx (i hi:Int):ad:=(jV (i+1) hi).map λj=>.tup [.int i,.int j]
def Ik(a:Int)(u:Nat):jV a (a+((u+1:Nat):Int))=jV a (a+(u:Int))++[a+(u:Int)]:=by
 unfold jV;rw[show(a+((u+1:Nat):Int)-a).toNat=u+1 by lia,show(a+(u:Int)-a).toNat=u by lia,jw,bP];rfl
def K8(n:Nat):prs n=(jV 1 (n:Int)).flatMap λi=>Bx i ((n:Int)+1):=rfl
open Bl
def Hx{xs:ae}{i:Nat}(h:i<=xs.length):(jV ((i:Int)+1) ((xs.length:Int)+1)).map (λj=>xs.getD (j-1).toNat 0)=xs.drop i:=by
 apply bW;intro p;rw[aQ,fB];by_cases c:i+p<xs.length
 ·have:(jV ((i:Int)+1) ((xs.length:Int)+1))[p]?=some ((i:Int)+1+p):=by
   unfold jV;rw[aQ,b7 ()];rfl
  rw[this];show some (xs.getD ((i:Int)+1+p-1).toNat 0)=_;rw[show((i:Int)+1+p-1).toNat=i+p by lia,<- Iv.qv c]
 ·rw[bG (by rw[kF];lia),bG ()];rfl
def M5{xs:ae}{i:Nat}(h:i<xs.length):((Bx ((i:Int)+1) ((xs.length:Int)+1)).filter (wg xs)).length=(xs.drop (i+1)).countP λy=>decide (y<xs.getD i 0):=by
 rw[<- Hx (xs:=xs) (i:=i+1) (),iM,<- List.countP_eq_length_filter];unfold Bx;rw[iM,show(((i+1:Nat):Int))=(i:Int)+1 by lia];refine gR λj _=>?_;show wg xs (.tup [.int ((i:Int)+1),.int j])=true ↔ decide (xs.getD (j-1).toNat 0<xs.getD i 0)=true;show decide (xs.getD ((i:Int)+1-1).toNat 0>xs.getD (j-1).toNat 0)=true ↔ _;rw[show((i:Int)+1-1).toNat=i by lia]
theorem A4{xs:ae}:∀(k i:Nat),i+k=xs.length->(((List.range' i k).flatMap λq:Nat=>Bx ((q:Int)+1) ((xs.length:Int)+1)).filter (wg xs)).length=Iv.inv (xs.drop i)
 | 0,i,h=>by rw[List.drop_of_length_le ()];rfl
 | k+1,i,h=>by
  have hi:i<xs.length:=()
  rw[d9,fL,i7,aU,M5 hi,A4 k (i+1) ()];have:xs.drop i=xs.getD i 0::xs.drop (i+1):=by
   rw[bS hi];congr 1;have:=Iv.qv hi;rw[aH hi]at this;exact aW this
  rw[this];rfl
def P4{xs:ae}{n:Nat}(hl:xs.length=n)(h1:1<=n):((prs n).filter (wg xs)).length=Iv.inv xs:=by
 have h:=A4 (xs:=xs) n 0 ();rw[iY]at h;rw[<- h,K8,hl];have e:(jV 1 (n:Int)).flatMap (λi=>Bx i ((n:Int)+1))=(List.range' 0 n).flatMap λq:Nat=>Bx ((q:Int)+1) ((n:Int)+1):=by
  obtain⟨m,rfl⟩:∃m,n=m+1:=⟨n-1,()⟩;rw[List.range'_concat,List.flatMap_append];have z:Bx (((0+1 * m:Nat):Int)+1) (((m+1:Nat):Int)+1)=[]:=by
   unfold Bx jV;rw[show(((m+1:Nat):Int)+1-((((0+1 * m:Nat):Int)+1)+1)).toNat=0 by lia];rfl
  rw[fL,z];unfold jV;rw[show(((m+1:Nat):Int)-1).toNat=m by lia,jj,cC];dsimp[List.flatMap_nil,cW];congr 1
  funext q
  rw[Int.add_comm]
 rw[e]
def Rc{a:ae}{i j:Nat}(hij:i<j)(hj:j<a.length)(hl:a.length<=1000):∃S',ko [.tup (a.map .int),.int ((i:Int)+1),.int ((j:Int)+1)] S=.ok (.tup ((Iv.sw a i j).map .int)) S'/\qk S S':=by
 have a1:nQ (a.map A.int) (j:Int)=some (.int (a.getD j 0)):=KW rfl hj;have a2:nQ (a.map A.int) (i:Int)=some (.int (a.getD i 0)):=KW rfl ();have x1:yy a.length (i:Int)=some i:=vF rfl ();have x2:yy a.length (j:Int)=some j:=vF rfl hj;have hL:jF (S++[O.lst (a.map .int)]) S.length=some (a.map .int):=jY;have lS:∀ys,jF ((S++[O.lst (a.map .int)]).set S.length (.lst ys)) S.length=some ys:=λys=>nu (by simp);have em:((a.map A.int).set i (.int (a.getD j 0))).set j (.int (a.getD i 0))=(Iv.sw a i j).map .int:=by unfold Iv.sw;rw[gQ,gQ]
 unfold ko mP mK;dsimp[kC,bools,nE,Nat.reduceAdd,Nat.reduceSub,hL,show(j:Int)+1-1=j by lia,show(i:Int)+1-1=i by lia,a1,a2,lq (show 2<=sizeLine by decide),lq (show 2=2 from rfl),aL,x1,lS,bR,x2,em];rw[nu (by simp)];dsimp[kC,bools];exact⟨_,rfl,((Kp.refl.lay).set (.inr (aP _))).set (.inr (aP _))⟩
open Stp
meta abbrev j9 (w:ae):A:=.tup (w.map .int)
abbrev pA (p:Nat×Nat):A:=.tup [.int ((p.1:Int)+1),.int ((p.2:Int)+1)]
abbrev Mu (n i:Nat):List (Nat×Nat):=(List.range' (i+1) (n-(i+1))).map λj=>(i,j)
abbrev RA (n:Nat):List (Nat×Nat):=(List.range n).flatMap (Mu n)
def EO{n:Nat}{p:Nat×Nat}(h:p∈RA n):p.1<p.2/\p.2<n:=by
 obtain⟨i,hi,h⟩:=iz.mp h;obtain⟨j,hj,rfl⟩:=bH.mp h;have:=cU.mp hi;rw[List.mem_range'_1]at hj;exact⟨by show i<j;lia,by show j<n;lia⟩
def Mq{n:Nat}(h1:i<j)(h2:j<n):(i,j)∈RA n:=
 iz.mpr ⟨i,cU.mpr (),bH.mpr ⟨j,List.mem_range'_1.mpr (),rfl⟩⟩
def FE{n:Nat}(h1:1<=n):prs n=(RA n).map pA:=by
 have e1:List.range n=List.range (n-1)++[n-1]:=by rw[<- jw,Nat.succ_eq_add_one,show n-1+1=n by lia]
 have e2:Mu n (n-1)=[]:=by unfold Mu;rw[show n-(n-1+1)=0 by lia];rfl
 unfold RA;rw[e1,List.flatMap_append,fL,List.flatMap_nil,e2,cW,cW,List.map_flatMap];unfold prs;have e3:jV 1 (n:Int)=(List.range (n-1)).map λq:Nat=>(1:Int)+q:=by
  unfold jV;rw[show((n:Int)-1).toNat=n-1 by lia]
 rw[e3,jj];congr 1
 funext i
 unfold Mu jV;rw[bK,bK,List.range'_eq_map_range,bK,show((n:Int)+1-(1+(i:Int)+1)).toNat=n-(i+1)by lia];refine cI λq _=>?_;show A.tup [.int (1+(i:Int)),.int (1+(i:Int)+1+(q:Int))]=A.tup [.int ((i:Int)+1),.int (((i+1+q:Nat):Int)+1)];rw[show(1:Int)+(i:Int)=(i:Int)+1 by lia,show((i:Int)+1+1+(q:Int))=(((i+1+q:Nat):Int)+1)by lia]
def Ro{a:ae}{i j:Nat}(hij:i<j)(hj:j<a.length):ug (a.map A.int) (some ((i:Int)+1)) (some ((j:Int)+1-1))=(mm a i j).map .int:=by
 unfold ug mm;have l:(a.map A.int).length=a.length:=aL ..;have s1:HT.mh (a.map A.int).length 0 (some ((i:Int)+1))=i+1:=by
  rw[show(i:Int)+1=((i+1:Nat):Int)by lia,HT.qm,l];lia
 have s2:HT.mh (a.map A.int).length (a.map A.int).length (some ((j:Int)+1-1))=j:=by
  rw[show(j:Int)+1-1=(j:Int)by lia,HT.qm,l];lia
 rw[s1,s2,map_take,map_drop,show j-(i+1)=j-i-1 by lia]
def VY{f g:A->A->jJ->R A}{ca cb cc:Ex}{a c:A}(h1:ca τ S=.ok a S)(h2:cb τ S=.ok b S)(h3:f a b S=.ok (.bl true) S)(h4:cc τ S=.ok c S):NW f g ca cb cc τ S=g b c S:=by
 unfold NW;rw[h1,R.lI,h2,R.lI,h3,R.lI];unfold Wm;show(cc τ S).bind _=_;rw[h4];rfl
def Vt{f g:A->A->jJ->R A}{ca cb cc:Ex}{a:A}(h1:ca τ S=.ok a S)(h2:cb τ S=.ok b S)(h3:f a b S=.ok (.bl false) S):NW f g ca cb cc τ S=.ok (.bl false) S:=by
 unfold NW;rw[h1,R.lI,h2,R.lI,h3,R.lI];rfl
def Rk{n:Nat}{bs:List Bool}(h:jF S n=some xs)(hb:A.AJ xs=some bs):Qq (.ref n) S=.ok (.bl (bs.any λb=>b)) S:=by
 show opt (jF S n) _=_;rw[h];show opt (A.AJ xs) _=_;rw[hb];rfl
theorem OP{α:Type}(f:α->Bool):∀(xs:List α),A.AJ (xs.map λx=>.bl (f x))=some (xs.map f)
 | []=>rfl
 | x::xs=>by rw[b9,vd,OP f xs];rfl
def NX{a:ae}{i j:Nat}(hij:i<j)(hj:j<a.length)(hl:a.length<=20):nF [.tup (a.map .int),.int ((i:Int)+1),.int ((j:Int)+1)] S=.ok (.bl (GY a i j)) (S++[.lst ((mm a i j).map λm=>.bl (AM (if a.getD j 0<a.getD i 0 then a.getD j 0 else a.getD i 0) (if a.getD j 0>a.getD i 0 then a.getD j 0 else a.getD i 0) m))]):=by
 have a1:nQ (a.map A.int) (j:Int)=some (.int (a.getD j 0)):=KW rfl hj;have a2:nQ (a.map A.int) (i:Int)=some (.int (a.getD i 0)):=KW rfl ();obtain⟨x,hx⟩:∃x,x=(if a.getD j 0<a.getD i 0 then a.getD j 0 else a.getD i 0):=⟨_,rfl⟩;obtain⟨y,hy⟩:∃y,y=(if a.getD j 0>a.getD i 0 then a.getD j 0 else a.getD i 0):=⟨_,rfl⟩;have lm:(mm a i j).length<=20:=by unfold mm;rw[bB,cM];lia
 have ec:=Kx (cap:=[some 3,some 4]) (src:=qh (Sk (jD 0) (vV (jD 1)) (vV (jN aSub (jD 2) (eC (.int 1)))))) (e:=NW ES ES (jD 1) (jD 0) (jD 2)) (τ:=[.tup (a.map .int),.int ((i:Int)+1),.int ((j:Int)+1),.int x,.int y]) (S:=S) (S1:=S) (xs:=(mm a i j).map .int)
  (QV (by
   dsimp[kC,bools];have hg:¬(HT.mh (a.map A.int).length 0 (some ((i:Int)+1))=0/\HT.mh (a.map A.int).length (a.map A.int).length (some ((j:Int)+1-1))=(a.map A.int).length):=by
    rw[show(i:Int)+1=((i+1:Nat):Int)by lia,HT.qm,aL]
    lia
   have hs:Hl (.tup (a.map .int)) (some ((i:Int)+1)) (some ((j:Int)+1-1)) S=.ok (.tup (ug (a.map .int) (some ((i:Int)+1)) (some ((j:Int)+1-1)))) S:=lq hg;rw[hs,Ro hij hj]))
  (λz=>match z with | .int m=>.bl (AM x y m)|_=>.non) (λz hz=>by
   obtain⟨m,_,rfl⟩:=bH.mp hz;show NW ES ES (jD 1) (jD 0) (jD 2) [.int m,.int x,.int y] S=.ok (.bl (AM x y m)) S;unfold AM;by_cases c:x<m
   ·rw[VY (a:=.int x) (b:=.int m) (c:=.int y) rfl rfl (by dsimp[kC,br c]) rfl,br c,je];dsimp[kC]
   ·rw[Vt (a:=.int x) (b:=.int m) rfl rfl (by dsimp[kC,bu c]),bu c];rfl) (by rw[aL];lia)
 rw[bK,show((λz=>match z with | .int m=>A.bl (AM x y m)|_=>.non) ∘ A.int:Int->A)=(λm=>A.bl (AM x y m))from rfl]at ec;unfold nF vG vD;dsimp[kC,bools,nE,Nat.reduceAdd,Nat.reduceSub,show(j:Int)+1-1=j by lia,show(i:Int)+1-1=i by lia,a1,a2,<- hx,<- hy,ec];rw[Rk jY (OP (AM x y) (mm a i j))];dsimp[kC,bools];unfold GY;rw[<- hx,<- hy,List.any_map];rfl
end K51
namespace K51
open PySem L2 Am
open Stp
theorem E4:∀{ls:List (ae)},(∀l∈ls,l≠[])->O4 (ls.map j9)=some ls
 | [],_=>rfl
 | l::ls,h=>by
  have hl:=h l (aR ..);have ih:=E4 λk hk=>h k (aT _ hk);show O4 (.tup (l.map .int)::ls.map j9)=_;unfold O4;rw[ints_map]
  cases l with
  | nil=>exact absurd rfl hl
  | cons k ks=>dsimp only;rw[ih];rfl
def EH{S:jJ}{n:Nat}{ls:List (ae)}(h:jF S n=some (ls.map j9))(hne:∀l∈ls,l≠[]):uR (.ref n) S=.ok (.ref S.length) (S++[.lst ((mZ ls).map j9)]):=by
 cases ls with
 | nil=>
  have e:UU (.ref n) S=false:=by
   show(match jF S n with
    | some (.tup _::_)=>true
    | _=>false)=_
   rw[h];rfl
  unfold uR;rw[e];show opt (jF S n) _=_;rw[h];rfl
 | cons l ls=>
  have e:UU (.ref n) S=true:=by
   show(match jF S n with
    | some (.tup _::_)=>true
    | _=>false)=_
   rw[h];rfl
  unfold uR;rw[e];show Ao n S=_;unfold Ao;rw[h,jX,E4 hne,jX]
def TV{a:ae}(h:1<=a.length):Iv.sw a i j≠[]:=λz=>by
 have:=Iv.AA a i j;rw[z,fD]at this
 lia
def CU{α β:Type}(ls:List α)(p:α->Bool)(f:α->β)(d:α):((List.range ls.length).filter λi=>p (ls.getD i d)).map (λi=>f (ls.getD i d))=(ls.filter p).map f:=by
 have e:ls=(List.range ls.length).map λi=>ls.getD i d:=(range_getD ls d).symm
 conv=>rhs;rw[e,iJ,bK]
 rfl
abbrev stp (a:ae)(ps:List (Nat×Nat)):List (ae):=(ps.filter λp=>GY a p.1 p.2).map λp=>Iv.sw a p.1 p.2
def Lw{S:jJ}{a:ae}{P:Nat}{ps:List (Nat×Nat)}(hp:jF S P=some (ps.map pA))(hps:∀p∈ps,p.1<p.2/\p.2<a.length)(h1:1<=a.length)(hl:a.length<=20)(hlen:ps.length<=16777216) :
  ∃(R:Nat) (S':jJ),uS [j9 a,.ref P] S=.ok (.ref R) S'/\jF S' R=some ((mZ (stp a ps)).map j9)/\qk S S'/\S.length<=R:=by
 have pm:∀i,i<ps.length->ps.getD i (0,0)∈ps:=λi hi=>by rw[aI,aH hi];exact c7 hi
 have lm:(ps.map pA).length=ps.length:=aL ..;obtain⟨S',g1,g2,g3⟩:=o4 (s:=mJ P (ps.map pA).length) (g:=AK 2 (sD (kN 0) (sD (kN 1) (AH)))) (t:=rF (eFn nF (jE (jD 2) (jE (jD 0) (jE (jD 1) (jO)))))) (e:=eFn ko (jE (jD 2) (jE (jD 0) (jE (jD 1) (jO)))))
  (P:=λS1=>jF S1 P=some (ps.map pA)/\qk S S1) (T:=λτ'=>∃y z,τ'=[y,z,j9 a])
  (λi=>pA (ps.getD i (0,0))) (λi=>GY a (ps.getD i (0,0)).1 (ps.getD i (0,0)).2) (λi=>j9 (Iv.sw a (ps.getD i (0,0)).1 (ps.getD i (0,0)).2))
  (λi S1 hi k=>by
   have hi:i<ps.length:=by rw[<- lm];exact hi
   show(jF S1 P).bind _=_;rw[k.1,dw,aQ,aI,aH hi];rfl)
  (λS1 k=>by
   show(match jF S1 P with
    | some ys=>decide (ys.length<=(ps.map pA).length)
    | none=>false)=true
   rw[k.1];simp)
  (λi τ' S1 hi ⟨y,z,hy⟩ k=>by
   have hi:i<ps.length:=by rw[<- lm];exact hi
   subst hy;obtain⟨q1,q2⟩:=hps _ (pm i hi);obtain⟨p,hpe⟩:∃p,p=ps.getD i (0,0):=⟨_,rfl⟩;rw[<- hpe]at q1 q2 ⊢;have s1:=NX (S:=S1) q1 q2 hl;have k1:qk S1 (S1++[.lst ((mm a p.1 p.2).map λm=>.bl (AM (if a.getD p.2 0<a.getD p.1 0 then a.getD p.2 0 else a.getD p.1 0) (if a.getD p.2 0>a.getD p.1 0 then a.getD p.2 0 else a.getD p.1 0) m))]):=Kp.refl.lay;obtain⟨S2,hS2⟩:∃S2,S2=S1++[.lst ((mm a p.1 p.2).map λm=>.bl (AM (if a.getD p.2 0<a.getD p.1 0 then a.getD p.2 0 else a.getD p.1 0) (if a.getD p.2 0>a.getD p.1 0 then a.getD p.2 0 else a.getD p.1 0) m))]:=⟨_,rfl⟩;rw[<- hS2]at s1 k1;obtain⟨S3,e3,k3⟩:=Rc (S:=S2) q1 q2 ();refine⟨[.int ((p.1:Int)+1),.int ((p.2:Int)+1),j9 a],S1,S2,?_,?_,⟨_,_,rfl⟩,λ_=>⟨k1.lst _ _ (λz=>z) k.1,k.2.trans k1⟩,λ_=>⟨S3,?_,(k1.trans k3).lst _ _ (λz=>z) k.1,(k.2.trans k1).trans k3⟩⟩
   ·show AK 2 (sD (kN 0) (sD (kN 1) (AH))) (.tup [.int ((p.1:Int)+1),.int ((p.2:Int)+1)]) _ _=_;dsimp[kC,yT,bools,lq (show([_,_]:ad).length=2 from rfl)]
   ·dsimp[kC,yT,bools,s1]
   ·dsimp[kC,yT,bools,e3])
  (ps.map pA).length 0 (nM [none,none,some 0] [j9 a,.ref P]) S rfl ⟨_,_,rfl⟩ ⟨hp,Kp.refl⟩
 rw[lm,<- cC,CU ps (λp=>GY a p.1 p.2) (λp=>j9 (Iv.sw a p.1 p.2)) (0,0)]at g1;have e1:(ps.filter λp=>GY a p.1 p.2).map (λp=>j9 (Iv.sw a p.1 p.2))=(stp a ps).map j9:=by unfold stp;rw[bK];rfl
 rw[e1]at g1;have ll:((stp a ps).map j9).length<=16777216:=by
  unfold stp;rw[aL,aL];exact bV (eo _ _) hlen
 have ec:kK [none,none,some 0] (qh (jD 1)) (AK 2 (sD (kN 0) (sD (kN 1) (AH)))) (rF (eFn nF (jE (jD 2) (jE (jD 0) (jE (jD 1) (jO)))))) (eFn ko (jE (jD 2) (jE (jD 0) (jE (jD 1) (jO))))) [j9 a,.ref P] S=.ok (.ref S'.length) (S'++[.lst ((stp a ps).map j9)]):=by
  unfold kK;rw[rA (S1:=S) (by dsimp[kC,yT,bools]) hp,R.lI];show R.lJ (l9 (mJ P (ps.map pA).length) _ _ _ (ps.map pA).length 0 _ _) _=_;rw[lm,g1,R.k_,kD ll]
 have so:=EH (S:=S'++[.lst ((stp a ps).map j9)]) (n:=S'.length) jY λl hl=>by
  unfold stp at hl;obtain⟨p,_,rfl⟩:=bH.mp hl;exact TV h1
 refine⟨(S'++[O.lst ((stp a ps).map j9)]).length,(S'++[O.lst ((stp a ps).map j9)])++[.lst ((mZ (stp a ps)).map j9)],?_,jY,g3.lay.lay,by have:=g3.len;rw[aU];lia⟩;unfold uS zS zI;dsimp[kC,yT,bools,nE,Nat.reduceAdd,Nat.reduceSub,ec,so]
def Mp{n:Nat}(h1:1<=n)(h:n<=20):(RA n).length<=16777216:=by
 have:=zU (n:=(n:Int)) () ();rw[FE h1,aL]at this;exact this
def Mj{n:Nat}(h1:1<=n)(q:A->Bool):(prs n).filter q=((RA n).filter λp=>q (pA p)).map pA:=by
 rw[FE h1,iJ];rfl
abbrev ups (a:ae):List (Nat×Nat):=(RA a.length).filter λp=>decide (a.getD p.1 0<a.getD p.2 0)
def IF{S:jJ}{a:ae}(h1:1<=a.length)(hl:a.length<=20):∃(R:Nat) (S':jJ),mz [j9 a] S=.ok (.ref R) S'/\jF S' R=some ((mZ (stp a (ups a))).map j9)/\qk S S'/\S.length<=R:=by
 have eq:=BG (S:=S) (n:=(a.length:Int)) () ();have hL:jF (S++[O.lst (prs a.length)]) S.length=some (prs a.length):=jY;obtain⟨S',g1,g2⟩:=o4 (s:=mJ S.length (prs a.length).length) (g:=AK 2 (sD (kN 0) (sD (kN 1) (AH)))) (t:=tY (jN ES (jN nX (jD 2) (jN aSub (jD 0) (eC (.int 1)))) (jN nX (jD 2) (jN aSub (jD 1) (eC (.int 1)))))) (e:=t9 (jE (jD 0) (jE (jD 1) (jO))))
  (P:=λS1=>S1=S++[O.lst (prs a.length)]) (T:=λτ'=>∃y z,τ'=[y,z,j9 a])
  (λi=>(prs a.length).getD i .unb) (λi=>match (prs a.length).getD i .unb with | .tup [.int i,.int j]=>decide (a.getD (i-1).toNat 0<a.getD (j-1).toNat 0)|_=>false) (λi=>(prs a.length).getD i .unb)
  (λi S1 hi k=>by
   have hi:i<(prs a.length).length:=hi;show(jF S1 S.length).bind _=_;rw[k,hL,dw,aI,aH hi];rfl)
  (λS1 k=>by
   show(match jF S1 S.length with
    | some ys=>decide (ys.length<=(prs a.length).length)
    | none=>false)=true
   rw[k,hL];simp)
  (λi τ' S1 hi ⟨y,z,hy⟩ k=>by
   have hi:i<(prs a.length).length:=hi;subst hy k;have hm:(prs a.length).getD i .unb∈prs a.length:=by rw[aI,aH hi];exact c7 hi
   obtain⟨u,c,q1,q2,q3,eac⟩:=E2.mp hm;rw[eac];have x1:nQ (a.map A.int) (u-1)=some (.int (a.getD (u-1).toNat 0)):=Si () ();have x2:nQ (a.map A.int) (c-1)=some (.int (a.getD (c-1).toNat 0)):=Si () ();refine⟨[.int u,.int c,j9 a],S++[O.lst (prs a.length)],S++[O.lst (prs a.length)],by dsimp[kC,yT,bools,lq (show([_,_]:ad).length=2 from rfl)],by dsimp[kC,yT,bools,x1,x2],⟨_,_,rfl⟩,λ_=>rfl,λ_=>⟨_,by dsimp[kC,yT,bools,z6 (show([_,_]:ad).length<=16777216 by simp)],rfl⟩⟩)
  (prs a.length).length 0 (nM [none,none,some 0] [j9 a]) (S++[O.lst (prs a.length)]) rfl ⟨_,_,rfl⟩ rfl
 subst g2;rw[<- cC,CU (prs a.length) (λz=>match z with | .tup [.int i,.int j]=>decide (a.getD (i-1).toNat 0<a.getD (j-1).toNat 0)|_=>false) (λq=>q) .unb,map_id']at g1;have ef:(prs a.length).filter (λz=>match z with | .tup [.int i,.int j]=>decide (a.getD (i-1).toNat 0<a.getD (j-1).toNat 0)|_=>false)=(ups a).map pA:=by
  rw[Mj h1];have:(λp=>(λz=>match z with | .tup [.int i,.int j]=>decide (a.getD (i-1).toNat 0<a.getD (j-1).toNat 0)|_=>false) (pA p))=λp:Nat×Nat=>decide (a.getD p.1 0<a.getD p.2 0):=by
   funext p
   show decide (a.getD ((p.1:Int)+1-1).toNat 0<a.getD ((p.2:Int)+1-1).toNat 0)=_;rw[show((p.1:Int)+1-1).toNat=p.1 by lia,show((p.2:Int)+1-1).toNat=p.2 by lia]
  rw[this];rfl
 rw[ef]at g1;have lu:(ups a).length<=16777216:=bV (eo _ _) (Mp h1 hl);have ec:kK [none,none,some 0] (qh (eFn kE (jE (jZ (f1 m8) (jE (jD 0) (jO))) (jO)))) (AK 2 (sD (kN 0) (sD (kN 1) (AH)))) (tY (jN ES (jN nX (jD 2) (jN aSub (jD 0) (eC (.int 1)))) (jN nX (jD 2) (jN aSub (jD 1) (eC (.int 1)))))) (t9 (jE (jD 0) (jE (jD 1) (jO)))) [j9 a] S=.ok (.ref (S++[O.lst (prs a.length)]).length) ((S++[O.lst (prs a.length)])++[.lst ((ups a).map pA)]):=by
  unfold kK;rw[rA (S1:=S++[O.lst (prs a.length)]) (by dsimp[kC,yT,bools,aL,eq]) hL,R.lI];show R.lJ (l9 (mJ S.length (prs a.length).length) _ _ _ (prs a.length).length 0 _ _) _=_;rw[g1,R.k_,kD (by rw[aL];exact lu)]
 have k1:qk S ((S++[O.lst (prs a.length)])++[.lst ((ups a).map pA)]):=Kp.refl.lay.lay;have l1:jF ((S++[O.lst (prs a.length)])++[.lst ((ups a).map pA)]) (S++[O.lst (prs a.length)]).length=some ((ups a).map pA):=jY;obtain⟨R,S2,e2,g2,k2,b2⟩:=Lw (a:=a) l1 (λp hp=>EO (cj.mp hp).1) h1 hl lu;refine⟨R,S2,?_,g2,k1.trans k2,bV k1.len b2⟩;unfold mz pT pG;dsimp[kC,yT,bools,nE,Nat.reduceAdd,Nat.reduceSub,ec,e2]
end K51
namespace K51
open PySem L2 Am
open Bl
def t8{xs ys:ae}(h:xs.length=ys.length):lQ [.tup (xs.map .int),.tup (ys.map .int)] S=.ok .non S:=by
 unfold lQ rT rO;dsimp[kC,bools,nE,Nat.reduceAdd,Nat.reduceSub,aL,h,bQ,eN]
def KC{L:Nat}{ms:ae}(hL:jF S L=some (ms.map .int))(hp:∃m∈ms,0<m)(hms:ms.length<=1000):∃j:Nat,kJ [.ref L] S=.ok (.int ((j:Int)+1)) S/\(∃m,ms[j]?=some m/\0<m)/\∀(k:Nat) (m:Int),k<j->ms[k]?=some m->m<=0:=by
 unfold kJ l5 lN;dsimp[kC,bools,nE,Nat.reduceAdd,Nat.reduceSub];refine qQ (λτ S'=>S'=S/\∃p:Nat,p<ms.length/\τ=[.ref L,.int ((p:Int)+1)]/\∀(k:Nat) (m:Int),k<p->ms[k]?=some m->m<=0)
  (λτ _=>match τ with
   | [_,.int i]=>(ms.length+1)-i.toNat
   | _=>0)
  (λr=>∃j:Nat,RS.end (RS.seq r _)=.ok (.int ((j:Int)+1)) S/\(∃m,ms[j]?=some m/\0<m)/\∀(k:Nat) (m:Int),k<j->ms[k]?=some m->m<=0) ?_ 1000000 _ _ ⟨rfl,0,?_,rfl,λk m hk=>absurd hk (iI _)⟩ ?_
 ·rintro τ S' ⟨rfl,p,hpl,rfl,hall⟩;have ha:nQ (ms.map A.int) ((p:Int)+1-1)=some (.int ms[p]):=uU (k:=p) () (aH hpl);unfold ni nj;dsimp[kC,bools,hL,ha];by_cases h0:ms[p]<=0
  ·right;refine⟨S',by rw[br h0],.inl ⟨_,_,rfl,⟨rfl,p+1,?_,dJ (λz=>[A.ref L,A.int z]) (),λk m hk hm=>?_⟩,?_⟩⟩
   ·obtain⟨m,hm,hm0⟩:=hp;obtain⟨k,hk,e⟩:=iD.mp hm;have:¬k<=p:=λhkp=>by
     rcases iT k p with h|h
     ·have:=hall k m h (by rw[aH hk,e])
      lia
     ·have:k=p:=()
      subst this
      lia
    lia
   ·rcases iT k p with h|h
    ·exact hall k m h hm
    ·have:k=p:=()
     subst this;rw[aH hpl]at hm
     cases hm
     exact h0
   ·show ms.length+1-((p:Int)+1+1).toNat<ms.length+1-((p:Int)+1).toNat
    lia
  ·left;refine⟨S',by rw[bu h0],p,by dsimp[kC,bools],⟨ms[p],aH hpl,()⟩,hall⟩
 ·obtain⟨m,hm,_⟩:=hp;exact gO hm
 ·show ms.length+1-(1:Int).toNat<1000000
  lia
def B7{f:A->A->jJ->R A}{d:Int}(hf:∀(m:Int) S,f (.int m) (.int 1) S=.ok (.int (m+d)) S){src:Ic}{L:Nat}{ms:ae}{x:Int}{Post:RS->Prop}(hx0:0<=x)(hx:x<=ms.length)
  (hsrc:src [a0,a1,.ref L,a3,a4] S=.ok (kL 0 x) S) (hL:jF S L=some (ms.map .int)) (fin:∀a4' S',jF S' L=some ((mC x.toNat d ms).map .int)->Kp (·=L) S S'->Post (.nx [a0,a1,.ref L,a3,a4'] S')) :
  Post (qM src (kN 4) (vO (jD 2) (jD 4) (eC (.int 1)) f) [a0,a1,.ref L,a3,a4] S):=by
 refine wo (lo:=0) (hi:=x) hsrc (λi τ S'=>∃a4',τ=[a0,a1,.ref L,a3,a4']/\jF S' L=some ((mC i d ms).map .int)/\Kp (·=L) S S') Post ⟨a4,rfl,hL,Kp.refl⟩ ?_ ?_
 ·rintro i τ S' hi ⟨a4',rfl,hL',hk⟩;left;have hi':i<ms.length:=()
  have e1:((mC i d ms).map A.int)[((0:Int)+(i:Int)).toNat]?=some (.int ms[i]):=by
   rw[show((0:Int)+(i:Int)).toNat=i by lia,aQ,sC,aH hi'];simp
  have e2:yy (mC i d ms).length (0+(i:Int))=some i:=vF () (by rw[vA];exact hi');have lL:=oR hL';dsimp[kC,bools,hL',lq (show(0:Int)<=0+(i:Int)by lia),e1,hf,aL,e2];refine⟨_,_,rfl,_,rfl,?_,hk.set (.inl rfl)⟩;rw[nu lL,<- xV i d ms ms[i] (aH hi'),gQ]
 ·rintro τ S' ⟨a4',rfl,hL',hk⟩;exact fin a4' S' (by rw[Int.sub_zero]at hL';exact hL') hk
abbrev Om (xs ys:ae)(i j:Nat):Prop:=cnt (ys.take i) j<cnt (xs.take i) j/\(∀i' j':Nat,i'<i->1<=j'->j'<=xs.length->cnt (xs.take i') j'<=cnt (ys.take i') j')/\∀j':Nat,1<=j'->j'<j->cnt (xs.take i) j'<=cnt (ys.take i) j'
def QJ{xs ys:ae}{n:Nat}(px:xs.Perm (jV 1 ((n:Int)+1)))(py:ys.Perm (jV 1 ((n:Int)+1)))(h1:1<=n)(h2:n<=20):∃S',((zf [.tup (xs.map .int),.tup (ys.map .int)] S=.ok .non S'/\Below xs ys) \/
  ∃i j:Nat,zf [.tup (xs.map .int),.tup (ys.map .int)] S=.ok (.tup [.int i,.int j]) S'/\1<=i/\i<=n/\1<=j/\j<=n/\Om xs ys i j)/\qk S S':=by
 have lx:xs.length=n:=by have:=A8 px ();lia
 have ly:ys.length=n:=by have:=A8 py ();lia
 unfold zf JX Hw;dsimp[kC,bools,nE,Nat.reduceAdd,Nat.reduceSub,t8 (S:=S) (lx.trans ly.symm),aL,lx];rw[Ov (k:=n) jY ()];dsimp[kC,bools];have hlen:(S++[O.lst [.int 0]]).length=S.length+1:=by simp
 rw[hlen];refine wo (lo:=0) (hi:=(n:Int)) (S1:=S++[O.lst [.int 0]]++[O.lst (List.replicate n (.int 0))]) ?_
  (λt τ S'=>∃a3 a4,τ=[.tup (xs.map .int),.tup (ys.map .int),.ref (S.length+1),a3,a4]/\jF S' (S.length+1)=some ((p7 n xs ys t).map .int)/\qk S S'/\∀i' j':Nat,i'<=t->1<=j'->j'<=n->cnt (xs.take i') j'<=cnt (ys.take i') j')
  (λr=>∃S',((RS.end (RS.seq r _)=.ok .non S'/\Below xs ys)\/∃i j:Nat,RS.end (RS.seq r _)=.ok (.tup [.int i,.int j]) S'/\1<=i/\i<=n/\1<=j/\j<=n/\Om xs ys i j)/\qk S S') ⟨.unb,.unb,rfl,?_,Kp.refl.lay.lay,?_⟩ ?_ ?_
 ·refine oK ?_ (mU () ());dsimp[kC,bools,aL,lx]
 ·rw[Mr,List.map_replicate,<- hlen];exact jY
 ·intro i' j' hi _ _;have:i'=0:=()
  subst this;simp[cnt]
 ·rintro t τ S' ht ⟨a3,a4,rfl,hL,hk,hok⟩;have ht':t<n:=()
  have hx:t<xs.length:=()
  have hy:t<ys.length:=()
  have mx:=Ba px (c7 hx);have my:=Ba py (c7 hy);have ax:nQ (xs.map A.int) (0+(t:Int))=some (.int xs[t]):=uU (k:=t) () (aH hx);have ay:nQ (ys.map A.int) (0+(t:Int))=some (.int ys[t]):=uU (k:=t) () (aH hy);unfold F0;dsimp[kC,bools];obtain⟨a4',S2,e2,hL2,hk2⟩:=B7 (f:=CK) (d:=1) (ms:=p7 n xs ys t) (x:=xs[t]) (src:=DX) (a0:=.tup (xs.map .int)) (a1:=.tup (ys.map .int)) (a3:=.int (0+(t:Int))) (a4:=a4) (Post:=λr=>∃a4' S2,r=.nx [.tup (xs.map .int),.tup (ys.map .int),.ref (S.length+1),.int (0+(t:Int)),a4'] S2/\jF S2 (S.length+1)=some ((mC xs[t].toNat 1 (p7 n xs ys t)).map .int)/\Kp (·=S.length+1) S' S2) (λ_ _=>rfl) () (by rw[nG];lia)
   (oK (by dsimp[kC,bools,ax]) (mU () ())) hL (λa4' S2 h1 h2=>⟨a4',S2,rfl,h1,h2⟩)
  obtain⟨a4'',S3,e3,hL3,hk3⟩:=B7 (f:=aSub) (d:=-1) (ms:=mC xs[t].toNat 1 (p7 n xs ys t)) (x:=ys[t]) (src:=ER) (a0:=.tup (xs.map .int)) (a1:=.tup (ys.map .int)) (a3:=.int (0+(t:Int))) (a4:=a4') (Post:=λr=>∃a4'' S3,r=.nx [.tup (xs.map .int),.tup (ys.map .int),.ref (S.length+1),.int (0+(t:Int)),a4''] S3/\jF S3 (S.length+1)=some ((mC ys[t].toNat (-1) (mC xs[t].toNat 1 (p7 n xs ys t))).map .int)/\Kp (·=S.length+1) S2 S3) (λ_ _=>rfl) () (by rw[vA,nG];lia)
   (oK (by dsimp[kC,bools,ay]) (mU () ())) hL2 (λa4' S2 h1 h2=>⟨a4',S2,rfl,h1,h2⟩)
  rw[Dt hx hy]at hL3;have hk':qk S S3:=(hk.old hk2 λn hn _=>()).old hk3 λn hn _=>()
  obtain⟨m,em,m1,m2⟩:=Kw hL3 (by intro z;have:=dJ List.length z;rw[nG]at this;simp at this;lia);dsimp[show Ff=vO (jD 2) (jD 4) (eC (.int 1)) CK from rfl,show EY=vO (jD 2) (jD 4) (eC (.int 1)) aSub from rfl,e2,e3,kC,bools,em];by_cases hm:0<m
  ·right;rw[br hm];obtain⟨j,ej,⟨mj,hj1,hj2⟩,hj3⟩:=KC hL3 ⟨m,m1,hm⟩ (by rw[nG];lia);dsimp[kC,bools,ej,z6 (show([_,_]:ad).length<=16777216 by simp)];have hjn:j<n:=by
    have:=(aK.mp hj1).1
    rwa [nG]at this
   refine⟨_,_,rfl,S3,.inr ⟨t+1,j+1,?_,(),(),(),(),?_,?_,?_⟩,hk'⟩
   ·have e5:(0:Int)+(t:Int)+1=((t+1:Nat):Int):=()
    have e6:(j:Int)+1=((j+1:Nat):Int):=()
    rw[e5,e6]
   ·rw[p8 hjn]at hj1
    cases hj1
    have:((j+1:Nat):Int)=(j:Int)+1:=()
    rw[this]
    lia
   ·intro i' j' hi' h1' h2';exact hok i' j' () h1' ()
   ·intro j' h1' h2';have:=hj3 (j'-1) _ () (p8 ());rw[show(((j'-1:Nat):Int)+1)=(j':Int)by lia]at this
    lia
  ·left;rw[bu hm];dsimp[kC,bools];refine⟨_,_,rfl,_,_,rfl,hL3,hk',λi' j' hi' h1' h2'=>?_⟩;by_cases hi:i'<=t
   ·exact hok i' j' hi h1' h2'
   ·have:i'=t+1:=()
    subst this;have:=m2 _ (aZ (p8 (n:=n) (xs:=xs) (ys:=ys) (t:=t+1) (j:=j'-1) ()));rw[show(((j'-1:Nat):Int)+1)=(j':Int)by lia]at this
    lia
 ·rintro τ S' ⟨a3,a4,rfl,hL,hk,hok⟩;refine⟨S',.inl ⟨by dsimp[kC,bools],?_⟩,hk⟩;refine(Gy px py).mp λi q hi hq=>?_;have:=hok (i+1) (q+1) () () ();exact this
def BQ{xs ys:ae}{n:Nat}(px:xs.Perm (jV 1 ((n:Int)+1)))(py:ys.Perm (jV 1 ((n:Int)+1)))(h1:1<=n)(h2:n<=20):∃(k:Bool) (S':jJ),lR [.tup (xs.map .int),.tup (ys.map .int)] S=.ok (.bl k) S'/\(k=true ↔ Below xs ys)/\qk S S':=by
 obtain⟨S',h|⟨i,j,e,i1,i2,j1,j2,h,_⟩,hk⟩:=QJ (S:=S) px py h1 h2
 ·refine⟨true,S',?_,⟨λ_=>h.2,λ_=>rfl⟩,hk⟩;unfold lR qA qw;dsimp[kC,bools,nE,Nat.reduceAdd,Nat.reduceSub,h.1]
 ·refine⟨false,S',?_,⟨λz=>absurd z aY,λz=>?_⟩,hk⟩
  ·unfold lR qA qw;dsimp[kC,bools,nE,Nat.reduceAdd,Nat.reduceSub,e]
  ·have:=z i j
   lia
end K51
namespace K51
open PySem L2 Am
open Bl
open Stp
open Fw (rg)
section
variable {S:jJ}
def Gf:j8 (S++[.dct xs]) S.length=some xs:=uf (by simp)
def DB{o:O}{n:Nat}(h:j8 S n=some xs):j8 (S++[o]) n=some xs:=by
 have h':=nh h;exact uf (by rw[bF (aK.mp h').1];exact h')
def Dw{n:Nat}(h:j8 S n=some xs):n<S.length:=(aK.mp (nh h)).1
def Fp{n:Nat}(h:n<S.length):j8 (S.set n (.dct ys)) n=some ys:=uf (cB h)
def xH{n:Nat}(h:n≠m):j8 (S.set n o) m=j8 S m:=by unfold j8;rw[b8 h]
def uW{n:Nat}(h:n≠m):jF (S.set n o) m=jF S m:=by unfold jF;rw[b8 h]
end
meta abbrev Eb:=List (ae×Bool)
abbrev kb (es:Eb):List (ae×A):=es.map λe=>(e.1,.bl e.2)
theorem Aq:∀{es:Eb}{w:ae},(nA (kb es) w).isSome=decide (w∈es.map (·.1))
 | [],w=>rfl
 | e::es,w=>by
  show(nA ((e.1,.bl e.2)::kb es) w).isSome=_;by_cases c:e.1=w
  ·rw[rZ c,br (by rw[<- c];simp)];rfl
  ·rw[sF c,Aq,decide_eq_decide];constructor
   ·exact λz=>aT _ z
   ·intro z
    rcases bL.mp z with z|z
    ·exact absurd z.symm c
    ·exact z
theorem Cd:∀{es:Eb}{w:ae}{b:Bool},w∉es.map (·.1)->nA (kb (es++[(w,b)])) w=some (.bl b)
 | [],w,b,_=>rZ rfl
 | e::es,w,b,h=>by
  show nA ((e.1,.bl e.2)::kb (es++[(w,b)])) w=_;rw[sF λz=>h (by rw[<- z];simp)];exact Cd λz=>h (aT _ z)
def NS{es:Eb}{w:ae}(h:w∉es.map (·.1)):putD (kb es) w (.bl b)=kb (es++[(w,b)]):=by
 unfold putD;rw[Aq,bu h,aM aY];unfold kb;rw[bP];rfl
def oN(w:ae):A.ints (w.map .int)=some w:=ints_map w
def Qa{D:Nat}{es:Eb}{w:ae}(h:j8 S D=some (kb es)):Qm true (j9 w) (.ref D) S=.ok (.bl (!decide (w∈es.map (·.1)))) S:=by
 show opt (j8 S D) _=_;rw[h,jX];show opt (A.ints (w.map .int)) _=_;rw[oN,jX,<- Aq];rfl
def VB{D:Nat}{w:ae}{v:A}(h:j8 S D=some (kb es))(hl:nA (kb es) w=some v):Gk (.ref D) (j9 w) S=.ok v S:=by
 show opt (j8 S D) _=_;rw[h,jX];show opt (A.ints (w.map .int)) _=_;rw[oN,jX,hl,jX]
def RB{n:Nat}(hn:n<=9){ks:List (ae)}(nd:ks.Nodup)(h:∀k∈ks,k.Perm (rg n)):ks.length<=362880:=by
 have hr:∀k∈ks,Nu.rank k<Nu.sP n/\Nu.To n (rg n) (Nu.rank k)=k:=λk hk=>Nu.Er n (rg n) k (Wd.kj n) (Nu.Kv _ _) (h k hk);have h1:(ks.map Nu.rank).Nodup:=by
  unfold List.Nodup;rw[eF];exact gh (λ{a b} ha hb hab z=>hab (by rw[<- (hr a ha).2,<- (hr b hb).2,z])) nd
 have:=Rd.yi (Nu.sP n) _ h1 λx hx=>by
  obtain⟨k,hk,rfl⟩:=bH.mp hx;exact(hr k hk).1
 rw[aL]at this;exact bV this (bV (Nu.J5 hn) ⋯)
abbrev Cl (n:Nat)(z:ae)(es:Eb):Prop:=∀i j,i<j->j<n->z.getD i 0<z.getD j 0->GY z i j=true->Iv.sw z i j∈es.map (·.1)
structure Lk (n:Nat)(u y:ae)(es:Eb)(ws:List (ae))(v:Option (ae)):Prop where
 nd:(es.map (·.1)).Nodup
 pm:∀e∈es,e.1.Perm (rg n)
 wt:∀w∈ws,(w,true)∈es
 up:∀e∈es,Below u e.1
 fl:∀e∈es,(e.2=true ↔ Below e.1 y)
 st:u∈es.map (·.1)
 cl:∀e∈es,e.2=true->e.1∈ws\/some e.1=v\/Cl n e.1 es
def Lk.few{n:Nat}{es:Eb}{v:Option (ae)}(h:Lk n u y es ws v)(hn:n<=9):es.length<=362880:=by
 have:=RB hn h.nd λk hk=>by
  obtain⟨e,he,rfl⟩:=bH.mp hk;exact h.pm e he
 rwa [aL]at this
def PK{n:Nat}{a:ae}(pa:a.Perm (rg n))(hij:i<j)(hj:j<n)(h:a.getD i 0<a.getD j 0):Below a (Iv.sw a i j):=by
 have la:a.length=n:=by rw[pa.length_eq,Wd.kj]
 unfold Iv.sw;rw[Eu.kh (show i<a.length by lia),Eu.kh (show j<a.length by lia)]at h ⊢;exact vQ () () hij h
def Cl.more{n:Nat}{x:ae×Bool}(h:Cl n z es):Cl n z (es++[x]):=λi j a b c d=>by
 rw[bP];exact bN _ (h i j a b c d)
def Lk.more{n:Nat}{x:ae}{es:Eb}{v:Option (ae)}{k:Bool}(h:Lk n u y es ws v)(hx:x∉es.map (·.1))(px:x.Perm (rg n))(ux:Below u x)(hk:k=true ↔ Below x y):Lk n u y (es++[(x,k)]) (if k=true then ws++[x]else ws) v where
 nd:=by
  rw[bP,cP];refine⟨h.nd,by simp,λa ha b hb zz=>hx ?_⟩;have:b=x:=by simpa using hb
  rw[<- this,<- zz];exact ha
 pm:=λe he=>by
  rcases bq.mp he with z|z
  ·exact h.pm e z
  ·have:e=(x,k):=by simpa using z
   rw[this];exact px
 wt:=λw hw=>by
  cases k with
  | false=>exact bN _ (h.wt w hw)
  | true=>
   rcases bq.mp hw with z|z
   ·exact bN _ (h.wt w z)
   ·have:w=x:=by simpa using z
    rw[this];exact a_ _ (by simp)
 up:=λe he=>by
  rcases bq.mp he with z|z
  ·exact h.up e z
  ·have:e=(x,k):=by simpa using z
   rw[this];exact ux
 fl:=λe he=>by
  rcases bq.mp he with z|z
  ·exact h.fl e z
  ·have:e=(x,k):=by simpa using z
   rw[this];exact hk
 st:=by rw[bP];exact bN _ h.st
 cl:=λe he h2=>by
  rcases bq.mp he with z|z
  ·rcases h.cl e z h2 with q|q|q
   ·left
    cases k with
    | false=>exact q
    | true=>exact bN _ q
   ·exact .inr (.inl q)
   ·exact .inr (.inr q.more)
  ·have:e=(x,k):=by simpa using z
   subst this;have h2:k=true:=h2;subst h2;left;exact a_ _ (by simp)
def Fl{n:Nat}{a:ae}(la:a.length=n){l:ae}:l∈mZ (stp a (ups a)) ↔ ∃i j,i<j/\j<n/\a.getD i 0<a.getD j 0/\GY a i j=true/\l=Iv.sw a i j:=by
 rw[(tW _).mem_iff];unfold stp ups;rw[bH];constructor
 ·rintro⟨p,hp,rfl⟩;obtain⟨h1,h2⟩:=cj.mp hp;obtain⟨h3,h4⟩:=cj.mp h1;have:=EO h3;exact⟨p.1,p.2,this.1,(),dG h4,h2,rfl⟩
 ·rintro⟨i,j,h1,h2,h3,h4,rfl⟩;exact⟨(i,j),cj.mpr ⟨cj.mpr ⟨Mq h1 (),br h3⟩,h4⟩,rfl⟩
def looked{S0:jJ}{n D:Nat}{es:Eb}{ws:List (ae)}{L:List (ae)}{v oth:ae}(hn:n<=9)(h1:1<=n)(po:oth.Perm (rg n))(hD:j8 S D=some (kb es))(hW:jF S W=some (ws.map j9))(hM:jF S M=some (L.map j9))(hL:∀l∈L,l.Perm (rg n)/\Below u l)(lk:Lk n u oth es ws (some v))
  (hDS:S0.length<=D) (hWS:S0.length<=W) (hDW:D≠W) (hDM:D≠M) (hWM:W≠M) (hwe:ws.length<=es.length) (kp:qk S0 S) {a0 a4 a5:A} (hsrc:oY [a0,j9 oth,.ref D,.ref W,a4,a5] T=.ok (mJ M (L.map j9).length) S) :
  ∃(es':Eb) (ws':List (ae)) (b5:A) (S':jJ),qM oY (kN 5) rP [a0,j9 oth,.ref D,.ref W,a4,a5] T=.nx [a0,j9 oth,.ref D,.ref W,a4,b5] S'/\j8 S' D=some (kb es')/\jF S' W=some (ws'.map j9)/\Lk n u oth es' ws' (some v)/\(∀l∈L,l∈es'.map (·.1))/\es.length<=es'.length/\ws'.length+es.length<=ws.length+es'.length/\qk S0 S':=by
 refine wI (n:=M) (xs:=L.map j9) (S1:=S) hsrc
  (λi τ S'=>∃(es':Eb) (ws':List (ae)) (b5:A),τ=[a0,j9 oth,.ref D,.ref W,a4,b5]/\j8 S' D=some (kb es')/\jF S' W=some (ws'.map j9)/\jF S' M=some (L.map j9)/\Lk n u oth es' ws' (some v)/\(∀l∈L.take i,l∈es'.map (·.1))/\es.length<=es'.length/\ws'.length+es.length<=ws.length+es'.length/\qk S0 S')
  (λr=>∃(es':Eb) (ws':List (ae)) (b5:A) (S':jJ),r=.nx [a0,j9 oth,.ref D,.ref W,a4,b5] S'/\j8 S' D=some (kb es')/\jF S' W=some (ws'.map j9)/\Lk n u oth es' ws' (some v)/\(∀l∈L,l∈es'.map (·.1))/\es.length<=es'.length/\ws'.length+es.length<=ws.length+es'.length/\qk S0 S')
  ⟨es,ws,_,rfl,hD,hW,hM,lk,λl hl=>absurd hl (by simp),aP _,aP _,kp⟩ (λi τ S' hh=>by obtain⟨_,_,_,_,_,_,z,_⟩:=hh;exact z) ?_ ?_
 ·rintro i z τ S' hz ⟨es',ws',b5,rfl,hD',hW',hM',lk',hin,hle,hle2,kp'⟩;rw[aQ]at hz;obtain⟨x,hx,rfl⟩:=bw.mp hz;obtain⟨px,ux⟩:=hL x (aZ hx);have ht:L.take (i+1)=L.take i++[x]:=by
   obtain⟨hi,e⟩:=aK.mp hx;rw[cE hi,e]
  refine⟨[a0,j9 oth,.ref D,.ref W,a4,j9 x],S',rfl,.inl ?_⟩;unfold rP;by_cases c:x∈es'.map (·.1)
  ·dsimp[kC,yT,bools,Qa hD',br c,eN];refine⟨_,_,rfl,es',ws',_,rfl,hD',hW',hM',lk',λl hl=>?_,hle,hle2,kp'⟩;rw[ht]at hl
   rcases bq.mp hl with z|z
   ·exact hin l z
   ·have:l=x:=by simpa using z
    rw[this];exact c
  ·obtain⟨k,U,e1,hk,kU⟩:=BQ (S:=S') (n:=n) px po h1 ();have hDU:=kU.dct _ _ (λz=>z) hD';have hWU:=kU.lst _ _ (λz=>z) hW';have hMU:=kU.lst _ _ (λz=>z) hM';have fw:=lk'.few hn;have lkb:(kb es').length=es'.length:=aL ..;have sd:Bh (.ref D) (j9 x) (.bl k) U=.ok Unit.unit (U.set D (.dct (kb (es'++[(x,k)])))):=by
    show opt (j8 U D) _=_;rw[hDU,jX];show opt (A.ints (x.map .int)) _=_;rw[oN,jX,NI (by rw[lkb,c5];lia),NS c]
   have gw:Gi (jD 2) (jD 5) (.bl k) [a0,j9 oth,.ref D,.ref W,a4,j9 x] U=.ok [a0,j9 oth,.ref D,.ref W,a4,j9 x] (U.set D (.dct (kb (es'++[(x,k)])))):=by
    show(Bh (.ref D) (j9 x) (.bl k) U).bind _=_;rw[sd];rfl
   have lD:=Dw hDU;have hD2:j8 (U.set D (.dct (kb (es'++[(x,k)])))) D=some (kb (es'++[(x,k)])):=Fp lD;have hW2:jF (U.set D (.dct (kb (es'++[(x,k)])))) W=some (ws'.map j9):=by rw[uW hDW];exact hWU
   have hM2:jF (U.set D (.dct (kb (es'++[(x,k)])))) M=some (L.map j9):=by rw[uW hDM];exact hMU
   have ix:=VB hD2 (Cd c);have k2:qk S0 (U.set D (.dct (kb (es'++[(x,k)])))):=(kp'.trans kU).MU (.inr hDS);have lk2:=lk'.more c px ux hk;have le2:(es'++[(x,k)]).length=es'.length+1:=by simp
   have hin2:∀l∈L.take (i+1),l∈(es'++[(x,k)]).map (·.1):=λl hl=>by
    rw[ht]at hl;rw[bP]
    rcases bq.mp hl with z|z
    ·exact bN _ (hin l z)
    ·have:l=x:=by simpa using z
     rw[this];exact a_ _ (by simp)
   have e1:lR [j9 x,j9 oth] S'=.ok (.bl k) U:=e1
   cases k with
   | false=>
    dsimp[kC,yT,bools,Qa hD',bu c,fO,e1,gw,ix];exact⟨_,_,rfl,_,ws',_,rfl,hD2,hW2,hM2,lk2,hin2,(),(),k2⟩
   | true=>
    have lW:=oR hW2;have ew:ws'.map j9++[j9 x]=(ws'++[x]).map j9:=by rw[bP];rfl
    dsimp[kC,yT,bools,Qa hD',bu c,fO,e1,gw,ix,hW2,Fx (show(ws'.map j9).length<16777216 by rw[aL];lia),ew];refine⟨_,_,rfl,_,ws'++[x],_,rfl,?_,nu lW,?_,lk2,hin2,(),?_,k2.set (.inr hWS)⟩
    ·rw[xH hDW.symm];exact hD2
    ·rw[nK hWM];exact hM2
    ·rw[aU,le2];show _+1+_<=_;lia
 ·rintro τ S' ⟨es',ws',b5,rfl,hD',hW',hM',lk',hin,hle,hle2,kp'⟩;rw[aL,fX]at hin;exact⟨es',ws',b5,S',rfl,hD',hW',lk',hin,hle,hle2,kp'⟩
end K51
namespace K51
open PySem L2 Am
open Bl
open Stp
open Fw (rg)
def OY{n:Nat}{xs:ad}(h:jF S n=some xs):A.QW (.ref n) S=some (!xs.isEmpty):=by
 show(jF S n).map _=_;rw[h];rfl
def mL{n:Nat}{x:ae}(px:x.Perm (rg n)):x.length=n:=by rw[px.length_eq,Wd.kj]
def G3{n:Nat}{x:ae}(px:x.Perm (rg n))(h6:n<=6):mE [j9 x,j9 y,.int 6,.int 9,.int 4] S=.ok .non S:=by
 have lx:=mL px;unfold mE pR pD;dsimp[kC,bools,nE,Nat.reduceAdd,Nat.reduceSub,aL,lx,br (show(n:Int)<=6 by lia)]
def Mz{S:jJ}{n D:Nat}{es:Eb}{v:Option (ae)}(hD:j8 S D=some (kb es))(lk:Lk n u y es ws v)(h1:1<=n)(hn:n<=9) :
  ∃(V:Nat) (S':jJ),RS.end (RS.seq (.nx [a0,a1,.ref D,a3,a4,a5] S) (lE (jZ (f1 uR) (jE (kK [none,none] (GV (jD 2)) (AK 2 (sD (kN 0) (sD (kN 1) (AH)))) (rF (jD 1)) (jD 0)) (jO)))))=.ok (.ref V) S'/\jF S' V=some ((mZ ((es.filter (·.2)).map (·.1))).map j9)/\S'=S.set D (.ins "" [])++[.lst ((es.filter (·.2)).map λe=>j9 e.1)]++[.lst ((mZ ((es.filter (·.2)).map (·.1))).map j9)]/\S.length<=V:=by
 have hs:GV (jD 2) [a0,a1,.ref D,a3,a4,a5] S=.ok (nH ((kb es).map Gp)) (S.set D (.ins "" [])):=by
  show opt (j8 S D) _=_;rw[hD,jX]
 have lkb:((kb es).map Gp).length=es.length:=by unfold kb;rw[aL,aL]
 have fw:=lk.few hn;obtain⟨T,g1,g2⟩:=o4 (s:=nH ((kb es).map Gp)) (g:=AK 2 (sD (kN 0) (sD (kN 1) (AH)))) (t:=rF (jD 1)) (e:=jD 0)
  (P:=λS1=>S1=S.set D (.ins "" [])) (T:=λτ=>∃y z,τ=[y,z]) (λi=>Gp ((es.getD i ([],false)).1,.bl (es.getD i ([],false)).2)) (λi=>(es.getD i ([],false)).2) (λi=>j9 (es.getD i ([],false)).1)
  (λi S1 hi _=>by
   have hi:i<((kb es).map Gp).length:=hi;rw[lkb]at hi;show((kb es).map Gp)[i]?=_;unfold kb;rw[bK,aQ,aI,aH hi];rfl)
  (λS1 _=>rfl)
  (λi τ S1 hi ⟨y,z,hy⟩ k=>by
   subst hy k;refine⟨[j9 (es.getD i ([],false)).1,.bl (es.getD i ([],false)).2],S.set D (.ins "" []),S.set D (.ins "" []),?_,by dsimp[kC,bools],⟨_,_,rfl⟩,λ_=>rfl,λ_=>⟨_,by dsimp[kC,bools],rfl⟩⟩;unfold Gp;dsimp[kC,bools,lq (show([_,_]:ad).length=2 from rfl)])
  es.length 0 (nM [none,none] [a0,a1,.ref D,a3,a4,a5]) (S.set D (.ins "" [])) (by show es.length+0=((kb es).map Gp).length;rw[lkb];rfl) ⟨_,_,rfl⟩ rfl
 subst g2;have ef:=CU es (λe=>e.2) (λe=>j9 e.1) ([],false);rw[cC]at ef;rw[ef]at g1;obtain⟨fs,hfs⟩:∃fs:List (ae),fs=(es.filter (·.2)).map (·.1):=⟨_,rfl⟩;have efs:((es.filter (·.2)).map λe=>j9 e.1)=fs.map j9:=by rw[hfs,bK];rfl
 have hne:∀l∈fs,l≠[]:=λl hl=>by
  rw[hfs]at hl;obtain⟨e,he,rfl⟩:=bH.mp hl;have:=mL (lk.pm e (cj.mp he).1);intro z;rw[z]at this;simp at this
  lia
 have ec:kK [none,none] (GV (jD 2)) (AK 2 (sD (kN 0) (sD (kN 1) (AH)))) (rF (jD 1)) (jD 0) [a0,a1,.ref D,a3,a4,a5] S=.ok (.ref (S.set D (.ins "" [])).length) (S.set D (.ins "" [])++[.lst (fs.map j9)]):=by
  unfold kK;rw[hs,R.lI];show R.lJ (l9 (nH ((kb es).map Gp)) _ _ _ ((kb es).map Gp).length 0 _ _) _=_;rw[lkb,g1,R.k_,kD (by rw[aL];exact bV (eo _ _) ()),efs]
 have so:=EH (S:=S.set D (.ins "" [])++[.lst (fs.map j9)]) (n:=(S.set D (.ins "" [])).length) jY hne;dsimp[kC,bools,ec,so];rw[hfs]at so ⊢;refine⟨_,_,rfl,jY,by rw[efs,hfs],?_⟩;rw[aU,bR];lia
def C4{S:jJ}{n:Nat}{x y:ae}(px:x.Perm (rg n))(py:y.Perm (rg n))(h1:1<=n)(h6:n<=6)(q:ae->Bool)(hq:∀z,z.Perm (rg n)->(q z=true ↔ Below x z/\Below z y)):∃(V:Nat) (S':jJ),oF [j9 x,j9 y] S=.ok (.ref V) S'/\jF S' V=some (((Eu.inj n n).filter q).map j9)/\qk S S'/\S.length<=V:=by
 have hn:n<=9:=()
 have h2:n<=20:=()
 have lx:=mL px;have ly:=mL py;have ep:=t8 (S:=S) (xs:=x) (ys:=y) ();have e1:=G3 (S:=S) (y:=y) px h6;obtain⟨k,S2,e2,hk,k2⟩:=BQ (S:=S) (n:=n) px py h1 h2;have k12:=k2
 cases k with
 | false=>
  unfold oF su sE;dsimp[kC,yT,bools,nE,Nat.reduceAdd,Nat.reduceSub,ep,e1,e2,fO];have e0:(Eu.inj n n).filter q=[]:=List.filter_eq_nil_iff.mpr λz hz hqz=>by
   obtain⟨z1,z2⟩:=(hq z (Eu.Ae.mp hz)).mp hqz;exact absurd (hk.mpr (z1.trans z2)) aY
  rw[e0];exact⟨_,_,rfl,jY,k12.lay,k12.len⟩
 | true=>
  have ed:yg (jD 0) (eC (.bl true)) [j9 x,j9 y,.unb,.unb,.unb,.unb] S2=.ok (.ref S2.length) (S2++[.dct (kb [(x,true)])]):=by
   show opt (A.ints (x.map .int)) _=_;rw[oN,jX];rfl
  have l1:(S2++[O.dct (kb [(x,true)])]).length=S2.length+1:=by simp
  have key:=qQ (t:=rW) (c:=rG)
   (λτ T=>∃(a4 a5:A) (es:Eb) (ws:List (ae)),τ=[j9 x,j9 y,.ref S2.length,.ref (S2.length+1),a4,a5]/\j8 T S2.length=some (kb es)/\jF T (S2.length+1)=some (ws.map j9)/\Lk n x y es ws none/\ws.length<=es.length/\qk S2 T)
   (λ_ T=>2 * (362880-((j8 T S2.length).getD []).length)+((jF T (S2.length+1)).getD []).length)
   (λr=>∃(V:Nat) (S':jJ),RS.end (RS.seq r (lE (jZ (f1 uR) (jE (kK [none,none] (GV (jD 2)) (AK 2 (sD (kN 0) (sD (kN 1) (AH)))) (rF (jD 1)) (jD 0)) (jO)))))=.ok (.ref V) S'/\jF S' V=some (((Eu.inj n n).filter q).map j9)/\qk S S'/\S.length<=V) ?_ 1000000
  ·unfold oF su sE;dsimp[kC,yT,bools,nE,Nat.reduceAdd,Nat.reduceSub,ep,e1,e2,eN,ed,l1];have hd0:j8 (S2++[O.dct (kb [(x,true)])]++[O.lst [j9 x]]) S2.length=some (kb [(x,true)]):=DB Gf;have hw0:jF (S2++[O.dct (kb [(x,true)])]++[O.lst [j9 x]]) (S2.length+1)=some [j9 x]:=by rw[<- l1];exact jY
   refine key _ _ ⟨_,_,[(x,true)],[x],rfl,hd0,hw0,⟨by simp,λe he=>?_,λw hw=>?_,λe he=>?_,λe he=>?_,by simp,λe he _=>?_⟩,aP _,Kp.refl.lay.lay⟩ ?_
   ·have:e=(x,true):=by simpa using he
    rw[this];exact px
   ·have:w=x:=by simpa using hw
    rw[this];simp
   ·have:e=(x,true):=by simpa using he
    rw[this];exact Below.refl _
   ·have:e=(x,true):=by simpa using he
    rw[this];exact hk
   ·have:e=(x,true):=by simpa using he
    rw[this];left;simp
   ·rw[hd0,hw0];show 2 * (362880-1)+1<1000000;decide
  ·rintro τ T ⟨a4,a5,es,ws,rfl,hD,hW,lk,hwe,kp⟩;have fw:=lk.few hn;unfold rW;have lk2:(kb es).length=es.length:=aL ..
   rcases g_ ws with c|⟨vs,v,c⟩
   ·left;subst c;obtain⟨V,T2,e3,h3,hT2,hV⟩:=Mz (a0:=j9 x) (a1:=j9 y) (a3:=.ref (S2.length+1)) (a4:=a4) (a5:=a5) hD lk h1 hn;have dn:Eu.Done n x y es:=⟨lk.nd,lk.pm,lk.up,lk.fl,lk.st,λe he h2=>by
     rcases lk.cl e he h2 with z|z|z
     ·cases z
     ·cases z
     ·exact z⟩
    rw[dn.told q hq]at h3;have l2:=k12.len;have lT:=kp.len;refine⟨T,by dsimp[kC,bools,OY hW];rfl,V,T2,e3,h3,?_,()⟩;rw[hT2];exact k12.trans (((kp.MU (.inr (aP _))).lay).lay)
   ·right;rw[h_]at c;subst c;have tr:A.QW (.ref (S2.length+1)) T=some true:=by
     rw[OY hW]
     cases vs<;>rfl
    refine⟨T,by dsimp[kC,bools,tr],.inl ?_⟩;have ev:=lk.wt v (by simp);have pv:v.Perm (rg n):=lk.pm _ ev;have uv:Below x v:=lk.up _ ev;have lv:=mL pv;have pop:RQ (.ref (S2.length+1)) [] T=.ok (j9 v) (T.set (S2.length+1) (.lst (vs.map j9))):=by
     show opt (jF T (S2.length+1)) _=_;rw[hW,jX,bP];show opt ((vs.map j9++[j9 v])[(vs.map j9++[j9 v]).length-1]?) _=_;rw[aU,show(vs.map j9).length+[j9 v].length-1=(vs.map j9).length by simp,eg (aP _),fV];show R.ok (j9 v) (T.set (S2.length+1) (.lst (vs.map j9++[j9 v]).dropLast))=_;rw[List.dropLast_concat]
    have lW:=oR hW;have hD1:j8 (T.set (S2.length+1) (.lst (vs.map j9))) S2.length=some (kb es):=by rw[xH ()];exact hD
    obtain⟨M,U,e4,hM,k4,sM⟩:=IF (S:=T.set (S2.length+1) (.lst (vs.map j9))) (a:=v) () ();have hDU:=k4.dct _ _ (λz=>z) hD1;have hWU:=k4.lst _ _ (λz=>z) (nu (ys:=vs.map j9) lW);rw[bR]at sM;have hsrc:oY [j9 x,j9 y,.ref S2.length,.ref (S2.length+1),j9 v,a5] (T.set (S2.length+1) (.lst (vs.map j9)))=.ok (mJ M ((mZ (stp v (ups v))).map j9).length) U:=
     rA (by dsimp[kC,bools,e4]) hM
    have kU:qk S2 U:=(kp.set (.inr ())).trans k4;rw[aU]at hwe;have hwe':vs.length+1<=es.length:=hwe;have lk0:Lk n x y es vs (some v):=⟨lk.nd,lk.pm,λw hw=>lk.wt w (bN _ hw),lk.up,lk.fl,lk.st,λe he h2=>by
     rcases lk.cl e he h2 with z|z|z
     ·rcases bq.mp z with z|z
      ·exact .inl z
      ·have:e.1=v:=by simpa using z
       rw[this];exact .inr (.inl rfl)
     ·cases z
     ·exact .inr (.inr z)⟩
    obtain⟨es',ws',b5,S',e5,hD',hW',lk',hin,hle,hle2,kp'⟩:=looked (S0:=S2) hn h1 py hDU hWU hM (λl hl=>by
     obtain⟨i,j,c1,c2,c3,c4,rfl⟩:=(Fl lv).mp hl;exact⟨(Stp.MK c1 ()).trans pv,uv.trans (PK pv c1 c2 c3)⟩) lk0 (aP _) () () () () () kU hsrc
    have lkn:Lk n x y es' ws' none:=⟨lk'.nd,lk'.pm,lk'.wt,lk'.up,lk'.fl,lk'.st,λe he h2=>by
     rcases lk'.cl e he h2 with z|z|z
     ·exact .inl z
     ·have z:e.1=v:=aW z;right;right;intro i j c1 c2 c3 c4;rw[z]at c3 c4 ⊢;exact hin _ ((Fl lv).mpr ⟨i,j,c1,c2,c3,c4,rfl⟩)
     ·exact .inr (.inr z)⟩
    unfold rG;dsimp[kC,yT,bools,hW,pop,e5];refine⟨_,_,rfl,⟨_,_,es',ws',rfl,hD',hW',lkn,(),kp'⟩,?_⟩;have fw':=lk'.few hn;have lk3:(kb es').length=es'.length:=aL ..;dsimp[hD',hW',hD,hW,eZ,aL,aU,lk2,lk3];show 2 * (362880-es'.length)+ws'.length<2 * (362880-es.length)+(vs.length+1)
    lia
end K51
namespace K51
open PySem L2 Am
def Vg(xs:ad)(j:Nat)(h:j<=xs.length):ug xs none (some (j:Int))=xs.take j:=by
 unfold ug;rw[HT.qm,HT.BJ,iY,jx (),jm]
def WX{us:ae}{t:Nat}(h:t<us.length):Hl (.tup (us.map .int)) none (some (t:Int)) S=.ok (.tup ((us.take t).map .int)) S:=by
 have hg:¬(HT.mh (us.map A.int).length 0 none=0/\HT.mh (us.map A.int).length (us.map A.int).length (some (t:Int))=(us.map A.int).length):=by
  rw[HT.qm,aL]
  lia
 have hs:Hl (.tup (us.map .int)) none (some (t:Int)) S=.ok (.tup (ug (us.map .int) none (some (t:Int)))) S:=lq hg;rw[hs,Vg _ t (by rw[aL];lia),map_take]
def WW{us:ae}{t:Nat}(h0:1<=t)(h:t<=us.length):Hl (.tup (us.map .int)) (some (t:Int)) none S=.ok (.tup ((us.drop t).map .int)) S:=by
 have hg:¬(HT.mh (us.map A.int).length 0 (some (t:Int))=0/\HT.mh (us.map A.int).length (us.map A.int).length none=(us.map A.int).length):=by
  rw[HT.qm,aL]
  lia
 have hs:Hl (.tup (us.map .int)) (some (t:Int)) none S=.ok (.tup (ug (us.map .int) (some (t:Int)) none)) S:=lq hg;rw[hs];congr 2;unfold ug;rw[HT.qm,HT.BJ,aL,jx (),cD (by simp),map_drop]
def Pj{xs:ae}{k:Nat}(h0:1<=k)(h:k<xs.length):xs.take (k-1)++[xs.getD k 0,xs.getD (k-1) 0]++xs.drop (k+1)=Wd.ex xs k:=by
 apply bW;intro p;rw[Wd.oQ h0 h,bJ];have e1:xs[k]?=some (xs.getD k 0):=by rw[aI,aH h];rfl
 have e2:xs[k-1]?=some (xs.getD (k-1) 0):=by rw[aI,aH ()];rfl
 by_cases c1:p<k-1
 ·rw[bF (by rw[bB];lia),dh c1,aM (),aM ()]
 ·rw[eg (by rw[bB];lia),bB,jx ()];by_cases c2:p=k-1
  ·rw[aM (),aN c2,e1,show p-(k-1)=0 by lia];rfl
  ·by_cases c3:p=k
   ·rw[aN c3,e2,show p-(k-1)=1 by lia];rfl
   ·rw[aM c3,aM c2,show p-(k-1)=(p-(k+1))+2 by lia];show(xs.drop (k+1))[p-(k+1)]?=_;rw[fB,show k+1+(p-(k+1))=p by lia]
open Fw (rg)
open Wd (ex)
def Lr{xs ys:ae}(h:xs.length+ys.length<=16777216):l7 (.tup (xs.map .int)) (.tup (ys.map .int)) S=.ok (.tup ((xs++ys).map .int)) S:=by
 rw[bP];exact NI (by rw[aL,aL];exact h)
def Ln{xs:ae}{k:Nat}(k1:1<=k)(k2:k<xs.length)(hl:xs.length<=1000):ku [j9 xs,.int k] S=.ok (j9 (ex xs k)) S:=by
 have s1:Hl (.tup (xs.map .int)) none (some ((k:Int)-1)) S=.ok (.tup ((xs.take (k-1)).map .int)) S:=by
  rw[show(k:Int)-1=((k-1:Nat):Int)by lia];exact WX ()
 have s2:Hl (.tup (xs.map .int)) (some ((k:Int)+1)) none S=.ok (.tup ((xs.drop (k+1)).map .int)) S:=by
  rw[show(k:Int)+1=((k+1:Nat):Int)by lia];exact WW () ()
 have x1:nQ (xs.map A.int) (k:Int)=some (.int (xs.getD k 0)):=KW rfl ();have x2:nQ (xs.map A.int) ((k:Int)-1)=some (.int (xs.getD (k-1) 0)):=KW (k:=k-1) () ();have d1:l7 (.tup ((xs.take (k-1)).map .int)) (.tup [.int (xs.getD k 0),.int (xs.getD (k-1) 0)]) S=.ok (.tup ((xs.take (k-1)++[xs.getD k 0,xs.getD (k-1) 0]).map .int)) S:=
  Lr (ys:=[xs.getD k 0,xs.getD (k-1) 0]) (by rw[bB];show _+2<=_;lia)
 have d2:l7 (.tup ((xs.take (k-1)++[xs.getD k 0,xs.getD (k-1) 0]).map .int)) (.tup ((xs.drop (k+1)).map .int)) S=.ok (.tup ((ex xs k).map .int)) S:=by
  rw[Lr (by rw[aU,bB,cM];show _+2+_<=_;lia),Pj k1 k2]
 unfold ku n5 nW;dsimp[kC,yT,bools,nE,Nat.reduceAdd,Nat.reduceSub,s1,x1,x2,NI (show 2<=sizeLine by rw[c5];decide),d1,s2,d2]
theorem DO{a:ae}{x:Int}:∀(i:Nat),i<=a.length->((jV 0 (i:Int)).filter λj=>decide (a.getD j.toNat 0>x)).length=(a.take i).countP λy=>decide (x<y)
 | 0,_=>rfl
 | i+1,h=>by
  have e:jV 0 ((i+1:Nat):Int)=jV 0 (i:Int)++[(i:Int)]:=by
   have:=Ik 0 i;rw[jo,jo]at this;exact this
  rw[e,i7,aU,DO i (),Bl.take_snoc (show i<a.length by lia),i6];congr 1;rw[iw,bO,cu,aI,aH (show i<a.length by lia)];show(if decide (x<a[i])=true then[(i:Int)]else[]).length=0+_;split<;>rfl
def MT{a:ae}(hl:a.length<=20):∃S',mS [j9 a] S=.ok (.int (Iv.inv a:Nat)) S'/\qk S S':=by
 unfold mS tF tD;dsimp[kC,bools,nE,Nat.reduceAdd,Nat.reduceSub];refine wo (lo:=0) (hi:=(a.length:Int)) (S1:=S) (show uV _ _=_ from oK (by dsimp[kC,bools,aL]) (mU () ()))
  (λi τ S1=>(∃a2,τ=[j9 a,.int (Iv.inv (a.take i):Nat),a2])/\qk S S1)
  (λr=>∃S',RS.end (RS.seq r _)=.ok (.int (Iv.inv a:Nat)) S'/\qk S S') ⟨⟨_,rfl⟩,Kp.refl⟩ ?_ ?_
 ·rintro i τ S1 hi ⟨⟨a2,rfl⟩,kp⟩;left;have hi':i<a.length:=()
  have ec:=xK (lo:=0) (hi:=(i:Int)) (cap:=[some 0,some 2]) (src:=oh (jD 2)) (t:=tY (jN Bu (jN nX (jD 1) (jD 0)) (jN nX (jD 1) (jD 2)))) (e:=jD 0) (τ:=[j9 a,.int (Iv.inv (a.take i):Nat),.int (i:Int)]) (S:=S1) (S1:=S1)
   (oK (by dsimp[kC,bools]) (mU () ()))
   (λj=>decide (a.getD j.toNat 0>a.getD i 0)) (λj=>.int j) (λj h1 h2=>by
    have x1:nQ (a.map A.int) j=some (.int (a.getD j.toNat 0)):=KW () ();have x2:nQ (a.map A.int) (i:Int)=some (.int (a.getD i 0)):=KW rfl hi';dsimp[kC,bools,x1,x2]) (λj _ _ _=>by dsimp[kC,bools]) ()
  have e2:Iv.inv (a.take (i+1))=Iv.inv (a.take i)+(a.take i).countP λy=>decide (a.getD i 0<y):=by
   rw[Bl.take_snoc hi',Eu.Kh,aI,aH hi'];rfl
  unfold ud;rw[jo];dsimp[kC,bools,ec,aL,DO i (jk hi'),jY];exact⟨_,_,rfl,⟨.int (i:Int),by rw[e2];rfl⟩,kp.lay⟩
 ·rintro τ S1 ⟨⟨a2,rfl⟩,kp⟩;refine⟨S1,?_,kp⟩;rw[show((a.length:Int)-0).toNat=a.length by lia,fX];dsimp[kC,bools]
def HQ{i:Int}:m7 [.int i] S=.ok (.bl true) S:=by
 unfold m7 rq rK;dsimp[kC,bools,nE,Nat.reduceAdd,Nat.reduceSub,show CG .int "int" = some true from rfl,show CG .int "bool" = some false from rfl,fO]
def Lm{n:Nat}{xs:ae}(hp:xs.Perm (rg n))(hn:n<=20):∃S',oO [j9 xs] S=.ok (j9 (He.bk xs)) S'/\qk S S':=by
 have hl:=mL hp;have hin:∀v:Int,1<=v->v<(n:Int)+1->v∈xs:=λv h1 h2=>hp.mem_iff.mpr (kG.mpr ⟨h1,h2⟩);have hs:om (eC (.int 1)) (jN l7 (jZ (f1 m8) (jE (jD 0) (jO))) (eC (.int 1))) [.tup (xs.map .int)] S=.ok (kL 1 ((n:Int)+1)) S:=
  uL (S1:=S) (by dsimp[kC,bools]) (by dsimp[kC,bools,aL,hl]) (mU () ()) (mU () ())
 have hfl:(xs.map A.int).all A.flat=true:=by rw[all_map];exact ig.mpr λ_ _=>rfl
 have he:∀v:Int,1<=v->v<(n:Int)+1->true=true->jN l7 (Nx (jD 1) (jE (jD 0) (jO))) (eC (.int 1)) (.int v::nM [some 0] [.tup (xs.map .int)]) S=.ok (A.int (((xs.idxOf v:Nat):Int)+1)) S:=λv h1 h2 _=>by
  have e:xs.findIdx? (· == v)=some (xs.idxOf v):=by
   rw[gE];refine⟨List.idxOf_lt_length_iff.mpr (hin v h1 h2),by simp,λj hj=>?_⟩;have:=List.not_of_lt_findIdx (p:=(· == v)) (xs:=xs) hj;simpa using this
  have e2:(xs.map A.int).findIdx? (λz=>T4 z (.int v))=some (xs.idxOf v):=by
   rw[List.findIdx?_map];exact e
  have e3:A.seq S (.tup (xs.map .int))=some (xs.map .int):=rfl;unfold jN Nx P1;dsimp[kC,bools,e3,e2,lq (show A.flat (.int v)=true/\(xs.map A.int).all A.flat=true from⟨rfl,hfl⟩)]
 have ec:=xK (cap:=[some 0]) (t:=sH) hs (λ_=>true) (λv=>A.int (((xs.idxOf v:Nat):Int)+1)) (λ_ _ _=>rfl) he ();rw[eX.mpr (λ_ _=>rfl)]at ec;have eb:((jV 1 ((n:Int)+1)).map λv=>A.int (((xs.idxOf v:Nat):Int)+1))=(He.bk xs).map A.int:=by
  unfold He.bk jV;rw[bK,bK,hl,show((n:Int)+1-1).toNat=n by lia];refine cI λi _=>?_;show A.int (((xs.idxOf (1+(i:Int)):Nat):Int)+1)=_;rw[Int.add_comm 1];rfl
 rw[eb]at ec;refine⟨S++[O.lst ((He.bk xs).map A.int)],?_,Kp.refl.lay⟩;have el:jF (S++[O.lst ((He.bk xs).map A.int)]) S.length=some ((He.bk xs).map A.int):=jY;unfold oO tK sQ;dsimp[kC,bools,nE,Nat.reduceAdd,Nat.reduceSub,ec,el]
end K51
namespace K51
open PySem L2 Am
open Wd (ex led j_)
open Fw (rg)
abbrev fl (xs:ae)(n:Nat):ae:=(jV 1 (n:Int)).filter λk=>decide (xs.getD (k-1).toNat 0>xs.getD k.toNat 0)
def JZ{xs:ae}{n:Nat}{k:Int}:k∈fl xs n ↔ 1<=k/\k<n/\xs.getD k.toNat 0<xs.getD (k-1).toNat 0:=by
 unfold fl;rw[cj,kG,gv];constructor
 ·exact λh=>⟨h.1.1,h.1.2,h.2⟩
 ·exact λh=>⟨⟨h.1,h.2.1⟩,h.2.2⟩
def downs{S:jJ}{n:Nat}{xs:ae}(hlen:xs.length=n)(h2:n<=20):kK [none,some 0] (om (eC (.int 1)) (jZ (f1 m8) (jE (jD 0) (jO)))) (kN 0) (tY (jN Bu (jN nX (jD 1) (jN aSub (jD 0) (eC (.int 1)))) (jN nX (jD 1) (jD 0)))) (jD 0) [j9 xs,w1,w2] S=.ok (.ref S.length) (S++[.lst ((fl xs n).map .int)]):=by
 have ec:=xK (lo:=1) (hi:=(n:Int)) (cap:=[some 0]) (src:=om (eC (.int 1)) (jZ (f1 m8) (jE (jD 0) (jO)))) (t:=tY (jN Bu (jN nX (jD 1) (jN aSub (jD 0) (eC (.int 1)))) (jN nX (jD 1) (jD 0)))) (e:=jD 0) (τ:=[j9 xs,w1,w2]) (S:=S) (S1:=S)
  (uL (S1:=S) (by dsimp[kC,bools]) (by dsimp[kC,bools,aL,hlen]) (mU () ()) (mU () ()))
  (λk=>decide (xs.getD (k-1).toNat 0>xs.getD k.toNat 0)) (λk=>.int k) (λk h1 h2=>by
   have x1:nQ (xs.map A.int) (k-1)=some (.int (xs.getD (k-1).toNat 0)):=Si () ();have x2:nQ (xs.map A.int) k=some (.int (xs.getD k.toNat 0)):=Si () ();dsimp[kC,bools,x1,x2]) (λk _ _ _=>by dsimp[kC,bools]) ()
 exact ec
def B4{x:A}:nQ (xs++[x]) (-1)=some x:=by
 have e:yy (xs++[x]).length (-1)=some xs.length:=by
  unfold yy;rw[aU,c_,aM (),aN ()];congr 1
  lia
 unfold nQ;rw[e,dw];simp
abbrev kI (k:Nat):A:=.int k
def M9{S:jJ}{n:Nat}{a:ae}(pa:a.Perm (rg n))(hn:n<=20):∃(W:Nat) (w:ag) (S':jJ),oM [j9 a] S=.ok (.ref W) S'/\jF S' W=some (w.map kI)/\j_ (rg n) w/\led (rg n) w=a/\qk S S'/\S.length<=W:=by
 have la:=mL pa;have iv:=Iv.tV a;have i4:a.length * a.length<=400:=by rw[la];exact i8 hn hn
 have key:=qQ (t:=oq) (c:=qD)
  (λτ T=>∃(z:ae) (v:ag) (D:Nat),τ=[j9 z,.ref S.length,.ref D]/\z.Perm (rg n)/\jF T S.length=some (v.map kI)/\jF T D=some ((fl z n).map .int)/\S.length<D/\j_ z v.reverse/\led z v.reverse=a/\v.length+Iv.inv z=Iv.inv a/\qk S T)
  (λτ _=>match τ with
   | .tup xs::_=>Iv.inv ((A.ints xs).getD [])
   | _=>0)
  (λr=>∃(W:Nat) (w:ag) (S':jJ),RS.end (RS.seq r (lE (N7 G8 (jD 1))))=.ok (.ref W) S'/\jF S' W=some (w.map kI)/\j_ (rg n) w/\led (rg n) w=a/\qk S S'/\S.length<=W) ?_ 1000000
 ·unfold oM tM tu;dsimp[kC,bools,nE,Nat.reduceAdd,Nat.reduceSub,kD (show([]:ad).length<=16777216 by simp),downs la hn];refine key _ _ ⟨a,[],(S++[O.lst []]).length,rfl,pa,qE jY,jY,by simp,trivial,rfl,by simp,Kp.refl.lay.lay⟩ ?_;show Iv.inv ((A.ints (a.map .int)).getD [])<_;rw[ints_map];show Iv.inv a<_
  lia
 ·rintro τ T ⟨z,v,D,rfl,pz,hW,hD,lD,hr,hl,hi,kp⟩;have lz:=mL pz;have hD':jF (T++[O.lst []]) D=some ((fl z n).map .int):=qE hD;have te:oq [j9 z,.ref S.length,.ref D] T=.ok (!(fl z n).isEmpty) (T++[O.lst []]):=by
   unfold oq;have e:=eq_nil hD' (jY (S:=T) (xs:=[]));rw[List.isEmpty_map]at e;dsimp[kC,bools,kD (show([]:ad).length<=16777216 by simp),J0 e]
  rcases g_ (fl z n)with c|⟨l',kk,c⟩
  ·left;refine⟨_,by rw[te,c];rfl,?_⟩;have ez:z=rg n:=Fw.Ef pz λk hk=>by
    have:(k:Int)∈fl z n:=JZ.mpr ⟨by have:=hk.1;lia,by have:=hk.2.1;lia,by
     rw[show((k:Int)-1).toNat=k-1 by have:=hk.1;lia,cu];exact hk.2.2⟩
    rw[c]at this;cases this
   subst ez;have hW':jF (T++[O.lst []]) S.length=some (v.map kI):=qE hW;refine⟨(T++[O.lst []]).length,v.reverse,T++[O.lst []]++[O.lst (v.map kI).reverse],?_,?_,hr,hl,kp.lay.lay,?_⟩
   ·dsimp[kC,bools,hW']
   ·rw[List.map_reverse];exact jY
   ·have:=kp.len;rw[aU];lia
  ·right;rw[h_]at c;refine⟨T++[O.lst []],by rw[te,c];simp,.inl ?_⟩;obtain⟨k1,k2,k3⟩:=JZ.mp (show kk∈fl z n by rw[c];simp);obtain⟨k,rfl⟩:∃k:Nat,kk=k:=⟨kk.toNat,()⟩;rw[show((k:Int)-1).toNat=k-1 by lia,cu]at k3;have k1:1<=k:=()
   have k2:k<n:=()
   have pe:=Eu.PY pz k1 k2;have hW':jF (T++[O.lst []]) S.length=some (v.map kI):=qE hW;have ix:nQ ((fl z n).map A.int) (-1)=some (.int k):=by rw[c,bP];exact B4
   have lx:=Ln (S:=T++[O.lst []]) (xs:=z) (k:=k) k1 () ();have lT:=kp.len;have vl:(v.map kI).length<16777216:=by rw[aL];lia
   have hDs:jF ((T++[O.lst []]).set S.length (.lst (v.map kI++[.int k]))) D=some ((fl z n).map .int):=by rw[uW ()];exact hD'
   unfold qD;dsimp[kC,bools,hD',ix,lx,hW',Fx vl,downs (mL pe) hn];have li:=oR hW';have iu:=Fw.yw (l:=ex z k) k1 (by rw[Wd.mR];lia) (by rw[Eu.lo pz k1 k2,Eu.hi pz k1 k2];exact k3);rw[Eu.Sb pz k1 k2]at iu;refine⟨_,_,rfl,⟨ex z k,v++[k],_,rfl,pe,?_,jY,by rw[bR,aU,c_];lia,?_,?_,?_,(kp.lay.set (.inr (aP _))).lay⟩,?_⟩
   ·rw[bP];exact qE (nu li)
   ·rw[iQ];refine⟨k1,by rw[Wd.mR];lia,by rw[Eu.lo pz k1 k2,Eu.hi pz k1 k2];exact k3,?_⟩;rw[Eu.Sb pz k1 k2];exact hr
   ·rw[iQ];show led (ex (ex z k) k) v.reverse=a;rw[Eu.Sb pz k1 k2];exact hl
   ·rw[aU,c_];lia
   ·show Iv.inv ((A.ints ((ex z k).map .int)).getD [])<Iv.inv ((A.ints (z.map .int)).getD []);rw[ints_map,ints_map];show Iv.inv (ex z k)<Iv.inv z
    lia
end K51
namespace K51
open PySem L2 Am
open Wd (ex led j_)
open Fw (rg)
open Eu (Lo)
abbrev ki (ks:List (ae)):List (ae×A):=ks.map λz=>(z,.int (Iv.inv z:Nat))
theorem An:∀{ks:List (ae)}{w:ae},nA (ki ks) w=if w∈ks then some (.int (Iv.inv w:Nat))else none
 | [],w=>rfl
 | e::es,w=>by
  show nA ((e,.int (Iv.inv e:Nat))::ki es) w=_;by_cases c:e=w
  ·subst c;rw[rZ rfl,aN (aR ..)]
  ·rw[sF c,An];by_cases d:w∈es
   ·rw[aN d,aN (aT _ d)]
   ·rw[aM d,aM λz=>(bL.mp z).elim (λq=>c q.symm) d]
abbrev pu (ks:List (ae))(w:ae):List (ae):=if w∈ks then ks else ks++[w]
def RE{w:ae}:putD (ki ks) w (.int (Iv.inv w:Nat))=ki (pu ks w):=by
 unfold putD pu;rw[An];by_cases c:w∈ks
 ·rw[aN c,aN c,aN (by simp)];unfold ki;rw[bK];refine cI λz _=>?_;show(if z=w then(z,_)else(z,_))=_;split
  ·next e=>rw[e]
  ·rfl
 ·rw[aM c,aM c,aM (by simp)];unfold ki;rw[bP];rfl
def Ub{ks:List (ae)}{w:ae}(h:ks.Nodup):(pu ks w).Nodup:=by
 unfold pu;split
 ·exact h
 ·next c=>exact cP.mpr ⟨h,by simp,λa ha b hb e=>c (by rw[<- bh.mp hb,<- e];exact ha)⟩
def LV{ks:List (ae)}{w z:ae}:z∈pu ks w ↔ z∈ks\/z=w:=by
 unfold pu;split
 ·next c=>exact⟨.inl,λh=>h.elim id λe=>by rw[e];exact c⟩
 ·rw[bq,bh]
def PV(ks:List (ae)):(ki ks).map Tf=ks.map j9:=by
 unfold ki;rw[bK];rfl
def NU{n k D:Nat}{ks:List (ae)}(hn:n<=6)(k1:1<=k)(k2:k<n)(hD:j8 S D=some (ki ks))(nd:ks.Nodup)(hp:∀z∈ks,z.Perm (rg n)) :
  ∃(ls:List (ae)) (b3:A) (S':jJ),pK [a0,.ref D,.int k,a3] S=.nx [a0,.ref D,.int k,b3] S'/\j8 S' D=some (ki ls)/\ls.Nodup/\(∀z,z∈ls ↔ z∈ks\/∃y∈ks,y.getD (k-1) 0<y.getD k 0/\z=ex y k)/\Kp (·=D) S S':=by
 have dl:=Dw hD;have hs:sL [a0,.ref D,.int k,a3] S=.ok (mJ S.length (ks.map j9).length) (S++[O.lst (ks.map j9)]):=by
  refine rA ?_ jY;show(opt (j8 S D) _)=_;rw[hD,jX,PV]
 unfold pK;refine wI (n:=S.length) (xs:=ks.map j9) (S1:=S++[O.lst (ks.map j9)]) hs
  (λi τ T=>(∃b3,τ=[a0,.ref D,.int k,b3])/\jF T S.length=some (ks.map j9)/\∃ls:List (ae),j8 T D=some (ki ls)/\ls.Nodup/\(∀z∈ls,z.Perm (rg n))/\(∀z,z∈ls ↔ z∈ks\/∃y∈ks.take i,y.getD (k-1) 0<y.getD k 0/\z=ex y k)/\Kp (·=D) S T)
  (λr=>∃(ls:List (ae)) (b3:A) (S':jJ),r=.nx [a0,.ref D,.int k,b3] S'/\j8 S' D=some (ki ls)/\ls.Nodup/\(∀z,z∈ls ↔ z∈ks\/∃y∈ks,y.getD (k-1) 0<y.getD k 0/\z=ex y k)/\Kp (·=D) S S')
  ⟨⟨_,rfl⟩,jY,ks,DB hD,nd,hp,λz=>⟨.inl,λh=>h.elim id λh=>by obtain⟨y,hy,_⟩:=h;cases hy⟩,Kp.refl.lay⟩ (λi τ T h=>h.2.1) ?_ ?_
 ·rintro i x τ T hx ⟨⟨b3,rfl⟩,hM,ls,hL,ln,lp,lm,lk⟩;rw[aQ]at hx;obtain⟨y,hy,rfl⟩:=bw.mp hx;have ym:=aZ hy;have py:=hp y ym;have ly:=mL py;have ht:ks.take (i+1)=ks.take i++[y]:=by
   obtain⟨hi,e⟩:=aK.mp hy;rw[cE hi,e]
  refine⟨[a0,.ref D,.int k,j9 y],T,rfl,.inl ?_⟩;have x1:nQ (y.map A.int) ((k:Int)-1)=some (.int (y.getD (k-1) 0)):=KW (k:=k-1) () ();have x2:nQ (y.map A.int) (k:Int)=some (.int (y.getD k 0)):=KW rfl ();unfold sO;by_cases c:y.getD (k-1) 0<y.getD k 0
  ·have lx:=Ln (S:=T) (xs:=y) (k:=k) k1 () ();have iu:=Fw.yw (l:=y) k1 () c;have fw:=RB (n:=n) () ln lp;have ix:Gk (.ref D) (j9 y) T=.ok (.int (Iv.inv y:Nat)) T:=by
    show opt (j8 T D) _=_;rw[hL,jX];show opt (A.ints (y.map .int)) _=_;rw[oN,jX,An,aN ((lm y).mpr (.inl ym)),jX]
   have sd:Bh (.ref D) (j9 (ex y k)) (.int ((Iv.inv y:Nat)+1)) T=.ok Unit.unit (T.set D (.dct (ki (pu ls (ex y k))))):=by
    show opt (j8 T D) _=_;rw[hL,jX];show opt (A.ints ((ex y k).map .int)) _=_;have lk':(ki ls).length=ls.length:=aL ..;rw[oN,jX,NI (by rw[lk',c5];lia),<- RE,iu];rfl
   have gw:Gi (jD 1) (eFn ku (jE (jD 3) (jE (jD 2) jO))) (.int ((Iv.inv y:Nat)+1)) [a0,.ref D,.int k,j9 y] T=.ok [a0,.ref D,.int k,j9 y] (T.set D (.dct (ki (pu ls (ex y k))))):=by
    unfold Gi;dsimp[kC,bools,lx,sd]
   dsimp[kC,yT,bools,x1,x2,br c,ix,gw];have tl:D<T.length:=Dw hL;refine⟨_,_,rfl,⟨_,rfl⟩,by rw[uW ()];exact hM,pu ls (ex y k),Fp tl,Ub ln,λz hz=>?_,λz=>?_,lk.MU (.inl rfl)⟩
   ·rcases LV.mp hz with q|q
    ·exact lp z q
    ·rw[q];exact Eu.PY py k1 k2
   ·rw[LV,lm,ht];constructor
    ·rintro((q|⟨y',h1,h2,h3⟩)|q)
     ·exact .inl q
     ·exact .inr ⟨y',bN _ h1,h2,h3⟩
     ·exact .inr ⟨y,a_ _ (aR ..),c,q⟩
    ·rintro(q|⟨y',h1,h2,h3⟩)
     ·exact .inl (.inl q)
     ·rcases bq.mp h1 with h1|h1
      ·exact .inl (.inr ⟨y',h1,h2,h3⟩)
      ·rw[bh.mp h1]at h3;exact .inr h3
  ·dsimp[kC,yT,bools,x1,x2,bu c];refine⟨_,_,rfl,⟨_,rfl⟩,hM,ls,hL,ln,lp,λz=>?_,lk⟩;rw[lm,ht];constructor
   ·rintro(q|⟨y',h1,h2,h3⟩)
    ·exact .inl q
    ·exact .inr ⟨y',bN _ h1,h2,h3⟩
   ·rintro(q|⟨y',h1,h2,h3⟩)
    ·exact .inl q
    ·rcases bq.mp h1 with h1|h1
     ·exact .inr ⟨y',h1,h2,h3⟩
     ·rw[bh.mp h1]at h2;exact absurd h2 c
 ·rintro τ T ⟨⟨b3,rfl⟩,hM,ls,hL,ln,lp,lm,lk⟩;rw[aL,fX]at lm;exact⟨ls,b3,T,rfl,hL,ln,lm,lk⟩
end K51
namespace K51
open PySem L2 Am
open Wd (ex led j_)
open Fw (rg)
open Eu (Lo)
abbrev sf (m:Nat)(ks:List (ae)):ae:=(List.range (m+1)).map λj=>((ks.countP λz=>Iv.inv z == j:Nat):Int)
def r8(m:Nat)(ks:List (ae)):(sf m ks).length=m+1:=by unfold sf;rw[aL,cO]
def UL{N:Nat}(hN:N<=1000)(T:jJ):nY (.rng 1 ((N:Int)+1)) T=.ok (j9 (rg N)) T:=CM (Cj (show(-1000000:Int)<=1 by decide) ⋯ (show -1000000<=(N:Int)+1 by lia) () ())
def Rq{S:jJ}{D:Nat}{ks:List (ae)}(h:j8 S D=some (ki ks)):Tc (.ref D) S=.ok (.ref S.length) (S++[.lst ((ks.map λz=>(Iv.inv z:Int)).map .int)]):=by
 show opt (j8 S D) _=_;rw[h,jX];unfold ki;rw[bK,bK];rfl
def Uo(ks:List (ae))(i:Nat):((ks.map λz=>(Iv.inv z:Int)).countP λx=>x == (i:Int))=ks.countP λz=>Iv.inv z == i:=by
 rw[iM];refine gR λz _=>?_;show((Iv.inv z:Int) == (i:Int))=true ↔ _;rw[beq_iff_eq,beq_iff_eq]
 lia
def zj{S:jJ}{n:Nat}{a:ae}(pa:a.Perm (rg n))(h1:1<=n)(hn:n<=6):∃(V:Nat) (ks:List (ae)) (S':jJ),mW [j9 a] S=.ok (.ref V) S'/\Lo n a ks/\jF S' V=some ((sf (Iv.inv a) ks).map .int)/\qk S S'/\S.length<=V:=by
 have la:=mL pa;have iv:=Iv.tV a;have i4:a.length * a.length<=36:=by rw[la];exact i8 hn hn
 have ed:yg (jZ (f1 nY) (jE (jZ (f2 qg) (jE (eC (.int 1)) (jE (jN l7 (jZ (f1 m8) (jE (jD 0) jO)) (eC (.int 1))) jO))) jO)) (eC (.int 0)) [j9 a,.unb,.unb,.unb] S=.ok (.ref S.length) (S++[.dct (ki [rg n])]):=by
  unfold yg;dsimp[kC,bools,aL,la,UL (show n<=1000 by lia)];show opt (A.ints ((rg n).map .int)) _=_;rw[oN,jX];unfold ki;rw[b9,Fw.vp];rfl
 obtain⟨W,w,S1,e1,hW,hR,hL,k1,lW⟩:=M9 (S:=S++[O.dct (ki [rg n])]) pa ();have dl:j8 S1 S.length=some (ki [rg n]):=k1.dct _ _ (λz=>z) Gf;unfold mW qZ rX;dsimp[kC,bools,nE,Nat.reduceAdd,Nat.reduceSub];rw[show(yg (jZ (f1 nY) (jE (jZ (f2 qg) (jE (eC (.int 1)) (jE (jN l7 (jZ (f1 m8) (jE (jD 0) jO)) (eC (.int 1))) jO))) jO)) (eC (.int 0)) [j9 a,.unb,.unb,.unb] S)=_ from ed];dsimp[kC,bools];refine wI (n:=W) (xs:=w.map kI) (S1:=S1) (show sJ _ _=_ from rA (by dsimp[kC,bools,e1]) hW)
  (λi τ T=>(∃b2 b3,τ=[j9 a,.ref S.length,b2,b3])/\jF T W=some (w.map kI)/\(∃ks,j8 T S.length=some (ki ks)/\Lo n (led (rg n) (w.take i)) ks)/\qk S T)
  (λr=>∃(V:Nat) (ks:List (ae)) (S':jJ),RS.end (RS.seq r _)=.ok (.ref V) S'/\Lo n a ks/\jF S' V=some ((sf (Iv.inv a) ks).map .int)/\qk S S'/\S.length<=V)
  ⟨⟨_,_,rfl⟩,hW,⟨_,dl,Lo.start n⟩,(Kp.refl.lay).trans k1⟩ (λi τ T h=>h.2.1) ?_ ?_
 ·rintro i x τ T hx ⟨⟨b2,b3,rfl⟩,hM,⟨ks,hD,lo⟩,kp⟩;rw[aQ]at hx;obtain⟨k,hk,rfl⟩:=bw.mp hx;obtain⟨hi,ek⟩:=aK.mp hk;have ew:w=w.take i++k::w.drop (i+1):=by rw[<- ek,gS,cA]
  rw[ew]at hR;obtain⟨r1,r2,r3,_⟩:=hR.drop;rw[Wd.zP,Wd.kj]at r2;have pv:(led (rg n) (w.take i)).Perm (rg n):=Wd.BR λq hq=>by
   have:=Wd.j_.valid hR q (by rw[<- ew];exact bI hq);exact this
  refine⟨[j9 a,.ref S.length,.int k,b3],T,rfl,.inl ?_⟩;obtain⟨ls,b3',T',e2,hD',nd,hm,kk⟩:=NU (a0:=j9 a) (a3:=b3) (k:=k) hn r1 r2 hD lo.nd λz hz=>((lo.mm z).mp hz).1;rw[aU,c_]at lW;refine⟨_,_,e2,⟨_,_,rfl⟩,?_,⟨ls,hD',?_⟩,kp.old kk λq hq z=>()⟩
  ·exact kk.lst _ _ () hM
  ·rw[cE hi,ek,Wd.wL];exact lo.step pv r1 r2 r3 nd hm
 ·rintro τ T ⟨⟨b2,b3,rfl⟩,hM,⟨ks,hD,lo⟩,kp⟩;rw[aL,fX,hL]at lo;obtain⟨T1,e2,k2⟩:=MT (S:=T) (a:=a) ();have hD1:=k2.dct _ _ (λz=>z) hD;have hs:oh (jN l7 (eFn mS (jE (jD 0) jO)) (eC (.int 1))) [j9 a,.ref S.length,b2,b3] T=.ok (kL 0 (((Iv.inv a+1:Nat)):Int)) T1:=oK (S1:=T1) (by dsimp[kC,bools,e2];rfl) (mU () ());have fw:=RB (n:=n) () lo.nd λz hz=>((lo.mm z).mp hz).1;obtain⟨T',g1,g2⟩:=o4 (s:=kL 0 (((Iv.inv a+1:Nat)):Int)) (g:=kN 0) (t:=sH) (e:=Jv um (Tw (jD 1)) (jE (jD 0) jO)) (P:=λT2=>qk T1 T2) (T:=λτ'=>∃y,τ'=[y,.ref S.length])
   (λi=>.int i) (λ_=>true) (λi=>.int ((ks.countP λz=>Iv.inv z == i:Nat):Int))
   (λi S2 hi _=>by
    have hi:i<((((Iv.inv a+1:Nat)):Int)-0).toNat:=hi;show(if _ then _ else _)=_;rw[aN hi,jo])
   (λ_ _=>rfl)
   (λi τ' S2 hi ⟨y,hy⟩ k=>by
    subst hy;have hD2:=k.dct _ _ (λz=>z) hD1;have hl2:jF (S2++[O.lst ((ks.map λz=>(Iv.inv z:Int)).map .int)]) S2.length=some ((ks.map λz=>(Iv.inv z:Int)).map .int):=jY;have mc:um (.ref S2.length) [.int i] (S2++[O.lst ((ks.map λz=>(Iv.inv z:Int)).map .int)])=.ok (.int ((ks.countP λz=>Iv.inv z == i:Nat):Int)) (S2++[O.lst ((ks.map λz=>(Iv.inv z:Int)).map .int)]):=by
     show opt (jF _ _) _=_;rw[hl2,jX];show opt (A.ints _) _=_;rw[ints_map,jX,Uo]
    refine⟨[.int i,.ref S.length],S2,S2,rfl,rfl,⟨_,rfl⟩,(λz=>nomatch z),λ_=>⟨S2++[O.lst ((ks.map λz=>(Iv.inv z:Int)).map .int)],?_,k.lay⟩⟩;unfold Jv Tw;dsimp[kC,bools,Rq hD2,hl2,mc])
   (Iv.inv a+1) 0 [.unb,.ref S.length] T1 (by show _=((((Iv.inv a+1:Nat)):Int)-0).toNat;lia) ⟨_,rfl⟩ Kp.refl
  rw[eX.mpr (λ_ _=>rfl),<- cC]at g1;have eq:((List.range (Iv.inv a+1)).map λi=>A.int ((ks.countP λz=>Iv.inv z == i:Nat):Int))=(sf (Iv.inv a) ks).map .int:=by unfold sf;rw[bK];rfl
  rw[eq]at g1;refine⟨T'.length,ks,T'++[O.lst ((sf (Iv.inv a) ks).map .int)],?_,lo,jY,((kp.trans k2).trans g2).lay,by have:=((kp.trans k2).trans g2).len;exact this⟩;have ec:kK [none,some 1] (oh (jN l7 (eFn mS (jE (jD 0) jO)) (eC (.int 1)))) (kN 0) sH (Jv um (Tw (jD 1)) (jE (jD 0) jO)) [j9 a,.ref S.length,b2,b3] T=.ok (.ref T'.length) (T'++[O.lst ((sf (Iv.inv a) ks).map .int)]):=by
   unfold kK;rw[hs,R.lI];show R.lJ (l9 (kL 0 (((Iv.inv a+1:Nat)):Int)) _ _ _ ((((Iv.inv a+1:Nat)):Int)-0).toNat 0 _ _) _=_;rw[show((((Iv.inv a+1:Nat)):Int)-0).toNat=Iv.inv a+1 by lia];show R.lJ (l9 (kL 0 (((Iv.inv a+1:Nat)):Int)) _ _ _ (Iv.inv a+1) 0 [.unb,.ref S.length] _) _=_;rw[g1,R.k_,kD (by rw[aL,r8];lia)]
  dsimp[kC,bools,ec]
end K51
namespace K51
open PySem L2 Am
open Wd (ex led j_)
open Fw (rg)
open Eu (Lo inj)
open Bl
def NF{ks:List (ae)}(h:j<=m):(sf m ks).getD j 0=((ks.countP λz=>Iv.inv z == j:Nat):Int):=by
 unfold sf;rw[aI,aQ,b7 ()];rfl
def LX{l:ae}(h:Iv.inv l<=m):(sf m ks).set (Iv.inv l) ((sf m ks).getD (Iv.inv l) 0+1)=sf m (ks++[l]):=by
 rw[NF h];refine bW λj=>?_;by_cases hj:j<m+1
 ·have g:∀ks',(sf m ks')[j]?=some ((ks'.countP λz=>Iv.inv z == j:Nat):Int):=λks'=>by unfold sf;rw[aQ,b7 hj];rfl
  rw[g,ja,r8,i6,bO,iL];by_cases e:Iv.inv l=j
  ·subst e;rw[aN rfl,aN hj,aN (by simp)];congr 1
  ·rw[aM e,g,aM (by simpa using e)];rfl
 ·rw[bG (by rw[bR,r8];lia),bG (by rw[r8];lia)]
abbrev qd (n:Nat)(a z:ae):Bool:=@decide (Below (rg n) z/\Below z a) (Classical.propDecidable _)
def Ig{n:Nat}{a:ae}:qd n a z=true ↔ Below (rg n) z/\Below z a:=@gv _ (Classical.propDecidable _)
def PJ{n:Nat}{z:ae}(pz:z.Perm (rg n)):Below (rg n) z:=by
 obtain⟨h1,h2⟩:=He.A3 pz;have:=Wd.xr h1;rw[h2]at this;exact this
def wU{n:Nat}{a:ae}:Lo n a ((inj n n).filter (qd n a)) where
 nd:=by
  refine ie eY (gT (λ{a b} h z=>?_) (Eu.Af n));rw[z,Sx.rY]at h;cases h
 mm:=λz=>by
  rw[cj,Eu.Ae,Ig];exact⟨λh=>⟨h.1,h.2.2⟩,λh=>⟨h.1,PJ h.1,h.2⟩⟩
def IJ{n:Nat}(hn:n<=20):mD [.int n] S=.ok (j9 (rg n)) S:=by
 unfold mD pB pQ;dsimp[kC,bools,nE,Nat.reduceAdd,Nat.reduceSub,UL (show n<=1000 by lia)]
def Ge{n:Nat}{x:ae}(px:x.Perm (rg n))(h1:1<=n)(h2:n<=20):∃S',m_ [j9 x] S=.ok (.int (Iv.inv x:Nat)) S'/\qk S S':=by
 obtain⟨P,S1,e1,g1,k1,_⟩:=TN (S:=S) (mL px) h2;unfold m_ yd yr;dsimp[kC,bools,nE,Nat.reduceAdd,Nat.reduceSub,e1,g1,P4 (mL px) h1];exact⟨_,rfl,k1⟩
def xF{S:jJ}{n:Nat}{a:ae}(pa:a.Perm (rg n))(h1:1<=n)(hn:n<=6):∃(D:Nat) (S':jJ),uG [j9 a] S=.ok (.ref D) S'/\jF S' D=some ((sf (Iv.inv a) ((inj n n).filter (qd n a))).map .int)/\qk S S'/\S.length<=D:=by
 have la:=mL pa;have iv:=Iv.tV a;have i4:a.length * a.length<=36:=by rw[la];exact i8 hn hn
 obtain⟨S1,e1,k1⟩:=Ge (S:=S++[O.lst [.int 0]]) pa h1 ();have h0:jF S1 S.length=some [.int 0]:=k1.lst _ _ (λz=>z) jY;have em:uB (.ref S.length) (.int ((Iv.inv a:Nat)+1)) S1=.ok (.ref S1.length) (S1++[O.lst ((sf (Iv.inv a) []).map .int)]):=by
  have:=Ov (k:=Iv.inv a+1) h0 ();have e:(sf (Iv.inv a) []).map A.int=List.replicate (Iv.inv a+1) (.int 0):=by
   unfold sf;rw[bK];refine List.eq_replicate_iff.mpr ⟨by simp,λx hx=>?_⟩;obtain⟨q,_,rfl⟩:=bH.mp hx;rfl
  rw[e];exact this
 obtain⟨V,S2,e2,hV,k2,lV⟩:=C4 (S:=S1++[O.lst ((sf (Iv.inv a) []).map .int)]) (dO (rg n)) pa h1 hn (qd n a) (λz _=>Ig);have hD2:jF S2 S1.length=some ((sf (Iv.inv a) []).map .int):=k2.lst _ _ (λz=>z) jY;have l1:=k1.len;rw[aU,c_]at l1;rw[aU,c_]at lV;unfold uG wz AB;dsimp[kC,bools,nE,Nat.reduceAdd,Nat.reduceSub,aL,la,bu (show ¬(6:Int)<n by lia),kD (show([.int 0]:ad).length<=16777216 by simp),e1,em];refine wI (n:=V) (xs:=((inj n n).filter (qd n a)).map j9) (S1:=S2) (show zg _ _=_ from rA (by dsimp[kC,bools,aL,la,IJ (show n<=20 by lia),e2]) hV)
  (λi τ T=>(∃b2,τ=[j9 a,.ref S1.length,b2])/\jF T V=some (((inj n n).filter (qd n a)).map j9)/\jF T S1.length=some ((sf (Iv.inv a) (((inj n n).filter (qd n a)).take i)).map .int)/\qk S T)
  (λr=>∃(D:Nat) (S':jJ),RS.end (RS.seq r _)=.ok (.ref D) S'/\jF S' D=some ((sf (Iv.inv a) ((inj n n).filter (qd n a))).map .int)/\qk S S'/\S.length<=D)
  ⟨⟨_,rfl⟩,hV,hD2,(((Kp.refl.lay).trans k1).lay).trans k2⟩ (λi τ T h=>h.2.1) ?_ ?_
 ·rintro i x τ T hx ⟨⟨b2,rfl⟩,hM,hD,kp⟩;rw[aQ]at hx;obtain⟨l,hl,rfl⟩:=bw.mp hx;obtain⟨hi,el⟩:=aK.mp hl;obtain⟨pl,bl⟩:=(wU.mm l).mp (aZ hl);have ml:=(Eu.mono pa _ l rfl pl bl).1;refine⟨[j9 a,.ref S1.length,j9 l],T,rfl,.inl ?_⟩;obtain⟨T1,e3,k3⟩:=Ge (S:=T) pl h1 ();have hD1:=k3.lst _ _ (λz=>z) hD;have hM1:=k3.lst _ _ (λz=>z) hM;have cl:=r8 (Iv.inv a) (((inj n n).filter (qd n a)).take i);have x1:((sf (Iv.inv a) (((inj n n).filter (qd n a)).take i)).map A.int)[((Iv.inv l:Nat):Int).toNat]?=some (.int ((sf (Iv.inv a) (((inj n n).filter (qd n a)).take i)).getD (Iv.inv l) 0)):=by
   rw[cu,aQ,aI,aH ()];rfl
  have x2:yy ((sf (Iv.inv a) (((inj n n).filter (qd n a)).take i)).map A.int).length ((Iv.inv l:Nat):Int)=some (Iv.inv l):=vF rfl (by rw[aL];lia);unfold zu;dsimp[kC,yT,bools,e3,hD1,lq (show(0:Int)<=((Iv.inv l:Nat):Int)by lia),x1,x2];have lt:=oR hD1;refine⟨_,_,rfl,⟨_,rfl⟩,by rw[nK ()];exact hM1,?_,(kp.trans k3).set (.inr ())⟩;rw[nu lt,cE hi,el,<- LX ml,gQ]
 ·rintro τ T ⟨⟨b2,rfl⟩,hM,hD,kp⟩;rw[aL,fX]at hD;dsimp[kC,bools];exact⟨_,_,rfl,hD,kp,()⟩
end K51
namespace K51
open PySem L2 Am
open Wd (ex led j_)
open Fw (rg)
open Eu (Lo inj)
def RZ{n:Nat}{bs:List Bool}(h:jF S n=some xs)(hb:A.AJ xs=some bs):RN (.ref n) S=.ok (.bl (bs.all λb=>b)) S:=by
 show opt (jF S n) _=_;rw[h];show opt (A.AJ xs) _=_;rw[hb];rfl
theorem O2:∀(xs:ad),A.AJ (xs.map λ_=>.bl true)=some (xs.map λ_=>true)
 | []=>rfl
 | x::xs=>by show(A.AJ (xs.map λ_=>.bl true)).map (true::·)=_;rw[O2 xs];rfl
theorem Of:∀(xs:ad),((xs.map λ_=>true).all λb=>b)=true
 | []=>rfl
 | x::xs=>Of xs
def uP{n V:Nat}{a:ae}(pa:a.Perm (rg n))(h1:1<=n)(hn:n<=6)(hV:jF S V=some ((sf (Iv.inv a) ks).map .int))(he:sf (Iv.inv a) ks=sf (Iv.inv a) ((inj n n).filter (qd n a))) :
  ∃S',lA [j9 a,.ref V] S=.ok (.bl true) S'/\qk S S':=by
 have la:=mL pa;have iv:=Iv.tV a;have i4:a.length * a.length<=36:=by rw[la];exact i8 hn hn
 obtain⟨D,S1,e1,hD,k1,lD⟩:=xF (S:=S) pa h1 hn;have hV1:=k1.lst _ _ (λz=>z) hV;have q1:=J0 (TY hD hV1);rw[he,br rfl]at q1;have cl:=r8 (Iv.inv a) ((inj n n).filter (qd n a));generalize sf (Iv.inv a) ((inj n n).filter (qd n a))=cs at hD cl;have cc:=LQ (cap:=[]) (src:=qh (jD 2)) (t:=sH) (e:=eFn m7 (jE (jD 0) (jO))) (τ:=[j9 a,.ref V,.ref D]) (S:=S1) (rA (by dsimp[kC,bools]) hD) hD (λ_=>true) (λ_=>.bl true) (λ_ _=>rfl) (λx hx _=>by
  obtain⟨i,_,rfl⟩:=bH.mp hx;dsimp[kC,bools,HQ]) (by rw[aL];lia)
 rw[eX.mpr (λ_ _=>rfl)]at cc;have ea:=RZ (jY (S:=S1) (xs:=(cs.map A.int).map λ_=>A.bl true)) (O2 _);rw[Of]at ea;have hD2:jF (S1++[O.lst ((cs.map A.int).map λ_=>A.bl true)]) D=some (cs.map .int):=qE hD;unfold lA qW rB;dsimp[kC,bools,nE,Nat.reduceAdd,Nat.reduceSub,e1,hD,iK,show CG .lst "list" = some true from rfl,eN,q1,cc,ea,hD2,Fx (show(cs.map A.int).length<16777216 by rw[aL];lia)];exact⟨_,rfl,k1.lay.set (.inr ())⟩
def RL(ns:ae)(hl:ns.length<=63):∃S',yU [.frz (ns.map .int)] []=.ok (.bl true) S':=by
 obtain⟨c0,ec0⟩:=Ek (S:=[]) (ns:=ns) (k:=0) ⋯;obtain⟨S1,e1,b1,kp1⟩:=F9 (S:=[]) (c:=c0) (k:=1) ⋯ ⋯;have b1l:0<S1.length:=by obtain⟨_,_,e,_⟩:=b1;exact oR e
 obtain⟨os,hos⟩:∃os:ad,os=[.int 5,.int 4,.int 5,.int 3,.int 2,.int 1]:=⟨_,rfl⟩;have n1:newL [.int 5,.int 4,.int 5,.int 3,.int 2,.int 1] S1=.ok (.ref S1.length) (S1++[O.lst os]):=by rw[hos];exact kD (show 6<=16777216 by decide)
 have k1:qk S1 (S1++[O.lst os]):=Kp.refl.lay;obtain⟨q,S2,e2,q0,q1,b2,kp2⟩:=digit (m:=6) (b1.kp k1 λz=>z) ⋯ ⋯;have g2:jF S2 S1.length=some os:=kp2.lst _ _ (by show S1.length≠0;lia) jY;obtain⟨m,em,m0,m1⟩:∃m:Nat,nQ os q=some (.int m)/\1<=m/\m<=6:=by
  have:q=0\/q=1\/q=2\/q=3\/q=4\/q=5:=()
  rw[hos]
  rcases this with rfl|rfl|rfl|rfl|rfl|rfl
  ·exact⟨5,rfl,by decide,by decide⟩
  ·exact⟨4,rfl,by decide,by decide⟩
  ·exact⟨5,rfl,by decide,by decide⟩
  ·exact⟨3,rfl,by decide,by decide⟩
  ·exact⟨2,rfl,by decide,by decide⟩
  ·exact⟨1,rfl,by decide,by decide⟩
 obtain⟨d,S3,e3,d0,d1,b3,kp3⟩:=digit (m:=4) b2 ⋯ ⋯;obtain⟨n,hn,n0,n6⟩:∃n:Nat,(n:Int)=(if d=3 then 6 else(m:Int))/\1<=n/\n<=6:=by
  by_cases c:d=3
  ·exact⟨6,by rw[aN c];rfl,by decide,by decide⟩
  ·exact⟨m,by rw[aM c],m0,m1⟩
 obtain⟨a,S4,e4,pa,b4,kp4⟩:=BA (n:=(n:Int)) b3 () ();obtain⟨c1,ec1⟩:=Ek (S:=S4) (ns:=ns) (k:=1) ⋯;obtain⟨S5,e5,b5,kp5⟩:=F9 (S:=S4) (c:=c1) (k:=2) ⋯ ⋯;obtain⟨o,S6,e6,po,b6,kp6⟩:=BA (n:=5) b5 ⋯ ⋯;obtain⟨V,ks,S7,e7,lo,hV,k7,lV⟩:=zj (S:=S6) pa n0 n6;obtain⟨S8,e8,k8⟩:=uP pa n0 n6 hV (by unfold sf;exact cI λj _=>by rw[lo.cnt wU]);obtain⟨W,ls,S9,e9,lo9,hW,k9,lW⟩:=zj (S:=S8) (n:=5) po ⋯ ⋯;obtain⟨S10,e10,k10⟩:=uP (n:=5) po ⋯ ⋯ hW (by unfold sf;exact cI λj _=>by rw[lo9.cnt wU]);obtain⟨S11,e11,k11⟩:=Lm (S:=S10) pa ();have hV11:=(((k8.trans k9).trans k10).trans k11).lst _ _ (λz=>z) hV;have ib:=He.JC pa;obtain⟨S12,e12,k12⟩:=uP (S:=S11) (ks:=ks) (He.r6 pa) n0 n6 (by rw[ib];exact hV11) (by
  unfold sf;exact cI λj _=>by rw[lo.VX pa wU])
 obtain⟨S13,e13,k13⟩:=uP (S:=S12) pa n0 n6 (k12.lst _ _ (λz=>z) hV11) (by unfold sf;exact cI λj _=>by rw[lo.cnt wU]);unfold yU KH Lu;dsimp[kC,bools,nE,Nat.reduceAdd,Nat.reduceSub,ec0,e1,n1,e2,g2,em,e3];by_cases c:d=3
 ·rw[aN c]at hn;dsimp[kC,bools,show(d == 3)=true by simpa using c,<- hn,e4,ec1,e5,e6,e7,e8,e9,e10,e11,e12,e13,eN];exact⟨_,rfl⟩
 ·rw[aM c]at hn;dsimp[kC,bools,show(d == 3)=false by simpa using c,<- hn,e4,ec1,e5,e6,e7,e8,e9,e10,e11,e12,e13,eN];exact⟨_,rfl⟩
end K51
namespace K51
open PySem L2 Am
def all_mk{l:PySem.W.OpenLaw}{w:ah}{K:au}{h:aq}{mg:Str->ba}{fa:ak}(X:K.In h)(G:h.Ns mainGlobals mg)(hfa:mg "law" = some (.ref fa))
  (a1:Df K "plain_order" pU)
  (a2:Df K "need_pair" rm)
  (a3:Df K "exchanged_places" mO)
  (a4:Df K "place_pairs" pN)
  (a5:Df K "wrong_pairs" pL)
  (a6:Df K "length" yu)
  (a7:Df K "first_above_nought" lO)
  (a8:Df K "bar" Jc)
  (a9:Df K "is_below" tN)
  (a10:Df K "need_bounds" pV)
  (a11:Df K "is_step" vH)
  (a12:Df K "steps" zy)
  (a13:Df K "steps_above" pS)
  (a14:Df K "between" u0)
  (a15:Df K "count" z_)
  (a16:Df K "_law_cell" sR)
  (a17:Df K "_law_bag" vj)
  (a18:Df K "_law_mixed" rR)
  (a19:Df K "_law_digit" rf)
  (a20:Df K "_law_order" qS)
  (a21:Df K "_law_exchanged" nV)
  (a22:Df K "_law_long" tX)
  (a23:Df K "_law_word" tQ)
  (a24:Df K "_law_whole" rH)
  (a25:Df K "_law_back" sS)
  (a26:Df K "_law_count" rJ)
  (a27:Df K "_law_right" rQ)
  (a28:Df K "law" Js)
  (X8:PySem.W.nsIn K mainGlobals "tuple" = some none)
  (X9:PySem.W.nsIn K mainGlobals "range" = some none)
  (X_:PySem.W.nsIn K mainGlobals "len" = some none)
  (Yb:PySem.W.nsIn K mainGlobals "list" = some none)
  (Yc:PySem.W.nsIn K mainGlobals "max" = some none)
  (Yd:PySem.W.nsIn K mainGlobals "min" = some none)
  (Ye:PySem.W.nsIn K mainGlobals "any" = some none)
  (Yg:PySem.W.nsIn K mainGlobals "sorted" = some none)
  (Yh:PySem.W.nsIn K mainGlobals "abs" = some none)
  (Yi:PySem.W.nsIn K mainGlobals "isinstance" = some none)
  (Yj:PySem.W.nsIn K mainGlobals "bool" = some none)
  (Yk:PySem.W.nsIn K mainGlobals "int" = some none)
  (Yl:PySem.W.nsIn K mainGlobals "all" = some none)
  {X4:Tok} (Ym:PySem.W.nsIn K mainGlobals "MOST_CLIMBED_PAIRS" = some (some (.int 4 X4)))
  {X5:Tok} (Yn:PySem.W.nsIn K mainGlobals "MOST_CLIMBED_THINGS" = some (some (.int 9 X5)))
  {X6:Tok} (Yo:PySem.W.nsIn K mainGlobals "MOST_THINGS_chains" = some (some (.int 6 X6)))
  {X7:Tok} (Yp:PySem.W.nsIn K mainGlobals "MOST_THINGS_counts" = some (some (.int 6 X7)))
  : ∃fd:FuncData,(∀(s:aC) (v:af),BindsTo s fd ⟨[v],[]⟩ [("_law_script",v)])/\∀base:aq,K.In base->base.Ns mainGlobals mg->FnOk l.prog w K mg base qy 8 fa fd ["_law_script"] (rz K 1 yU):=by
 obtain⟨f,fd,a,F⟩:=a28;have e:=hfa.symm.trans (gf X G a)
 cases e
 have Xc:=bX X G X8;have Xb:=bX X G X9;have Xa:=bX X G X_;have Xd:=bX X G Yb;have Xi:=bX X G Yc;have Xy:=bX X G Yd;have Xz:=bX X G Ye;have Xk:=bX X G Yg;have XS:=bX X G Yh;have Xg:=bX X G Yi;have XT:=bX X G Yj;have XU:=bX X G Yk;have XY:=bX X G Yl;have XF:∃t,mg "MOST_CLIMBED_PAIRS" = some (.int 4 t):=⟨X4,gf X G Ym⟩;have XG:∃t,mg "MOST_CLIMBED_THINGS" = some (.int 9 t):=⟨X5,gf X G Yn⟩;have XH:∃t,mg "MOST_THINGS_chains" = some (.int 6 t):=⟨X6,gf X G Yo⟩;have XM:∃t,mg "MOST_THINGS_counts" = some (.int 6 t):=⟨X7,gf X G Yp⟩;refine⟨fd,λs v=>(by obtain⟨_,_,_,_,_,_,_,_,_,rfl,_,_⟩:=F.ex;exact .of_eq rfl),λbase _ _=>?_⟩;have E:En l.prog w K mg base:=⟨h,X,G⟩;have XR:=a1.kA E (λF=>xW F Xc Xb) (G7 λ_ _ _ _ _ _ _=>rfl);have Xj:=a2.kA E (λF=>Ai F Xa) (Ht λ_ _ _ _ _ _ _ _=>rfl);have XC:=a3.kA E (λF=>sI F Xd Xc) (Wg λ_ _ _ _ _ _ _ _ _=>rfl);have Xh:=a4.kA E (λF=>wN F Xb) (G7 λ_ _ _ _ _ _ _=>rfl);have Xu:=a5.kA E (λF=>xM F Xa Xh) (G7 λ_ _ _ _ _ _ _=>rfl);have Xe:=a6.kA E (λF=>G6 F Xa Xu) (G7 λ_ _ _ _ _ _ _=>rfl);have Xv:=a7.kA E (λF=>qJ F) (G7 λ_ _ _ _ _ _ _=>rfl);have Xx:=a8.kA E (λF=>Qw F Xa Xb Xi Xj Xv) (Ht λ_ _ _ _ _ _ _ _=>rfl);have Xn:=a9.kA E (λF=>Br F Xx) (Ht λ_ _ _ _ _ _ _ _=>rfl);have XI:=a10.kA E (λF=>xP F Xa Xe) (W3 λ_ _ _ _ _ _ _ _ _ _ _=>rfl);have XA:=a11.kA E (λF=>CI F Xy Xi Xz) (Wg λ_ _ _ _ _ _ _ _ _=>rfl);have XD:=a12.kA E (λF=>LU F Xk XA XC) (Ht λ_ _ _ _ _ _ _ _=>rfl);have XJ:=a13.kA E (λF=>xw F Xa XD Xh) (G7 λ_ _ _ _ _ _ _=>rfl);have XQ:=a14.kA E (λF=>CV F Xk XF XG XH Xj XI Xn XJ) (Ht λ_ _ _ _ _ _ _ _=>rfl);have XZ:=a15.kA E (λF=>Ib F Xa XM Xe XQ XR) (G7 λ_ _ _ _ _ _ _=>rfl);have Xq:=a16.kA E (λF=>BX F Xa) (Ht λ_ _ _ _ _ _ _ _=>rfl);have Xp:=a17.kA E (λF=>Dl F XS) (Ht λ_ _ _ _ _ _ _ _=>rfl);have Xo:=a18.kA E (λF=>Ak F) (G7 λ_ _ _ _ _ _ _=>rfl);have Xf:=a19.kA E (λF=>Aa F Xb Xo) (Ht λ_ _ _ _ _ _ _ _=>rfl);have Xr:=a20.kA E (λF=>zG F Xd Xb Xa Xc Xf) (Ht λ_ _ _ _ _ _ _ _=>rfl);have Xl:=a21.kA E (λF=>vK F) (Ht λ_ _ _ _ _ _ _ _=>rfl);have XX:=a22.kA E (λF=>BF F Xb Xa) (G7 λ_ _ _ _ _ _ _=>rfl);have XW:=a23.kA E (λF=>A9 F Xb Xa Xl) (G7 λ_ _ _ _ _ _ _=>rfl);have X0:=a24.kA E (λF=>z0 F Xg XT XU) (G7 λ_ _ _ _ _ _ _=>rfl);have X3:=a25.kA E (λF=>BZ F Xc Xb Xa) (G7 λ_ _ _ _ _ _ _=>rfl);have Xs:=a26.kA E (λF=>zV F Xc Xb Xa Xd XW Xl XX) (G7 λ_ _ _ _ _ _ _=>rfl);have Xm:=a27.kA E (λF=>zF F XY Xg Xd XZ X0) (Ht λ_ _ _ _ _ _ _ _=>rfl);exact Rf F Xp Xq Xf Xr Xs Xm X3
def walk{l:PySem.W.OpenLaw}{q:aj}{XP:(Str->ba)->aq->Prop}{YP:ah->aq->Prop}{d:DefRec}{K:Params->au}(hn:l.most=some 63)(hdf:d.params.defaults=[])
  (hY:∀(w:ah) (h:aq),YP w h->(K w.params).In h)
  (F:∀(w:ah) (mg:Str->ba) (fa:ak) (h:aq),(K w.params).In h->h.Ns mainGlobals mg->mg d.name=some (.ref fa) ->
   ∃fd:FuncData,(∀(s:aC) (u:af),BindsTo s fd ⟨[u],[]⟩ [("_law_script",u)])/\∀base:aq,(K w.params).In base->base.Ns mainGlobals mg->FnOk l.prog w (K w.params) mg base qy 8 fa fd ["_law_script"] (rz (K w.params) 1 yU)) :
  PySem.W.WalkO q loose XP YP l.row.toRowW d [] (λf vs=>PySem.call f vs):=
 L2.ML (n:=63) (k:=8) (x := "_law_script") (CX:=λ_=>qy) (sp:=λw=>rz (K w.params) 1 yU) hn ⋯ hdf ⟨rfl,by decide,by decide⟩ hY F (λ_ H a ns hl hO hS=>GA hO hS (RL ns hl)) λ_ _ _ _ _ z=>z
end K51
open PySem PySem.W PyProof.Rows
namespace PySem.W.Fast
def tw17338942238633458494:=Nat
def tw15189365716368659333:=Nat
def tw2442863484552017123:=Nat
def tw12330874214676550912:=Nat
def tw16162164052797012649:=Nat
def tw6816824024909255186:=Nat
def tw14062934000182744378:=Nat
def tw13321805506559015695:=Nat
def tw2344035882453050372:=Nat
def tw465535933653486286:=Nat
def tw12742625703269784885:=Nat
def tw13182610865762594774:=Nat
def tw14406060108285070315:=Nat
def tw1743097779494024868:=Nat
def tw4524136048431047031:=Nat
def tw15196664612396251300:=Nat
def tw16296883876691587941:=Nat
def tw4247454622508003825:=Nat
def tw18072317671229943684:=Nat
def tw631928961786047249:=Nat
def tw14330000877794059712:=Nat
def tw10117471312617188702:=Nat
def tw15458405064735085199:=Nat
def tw9022281497781498296:=Nat
def tw1809147604665359410:=Nat
def tw6258552662601733279:=Nat
def tw4996417377802853857:=Nat
def tw5801889778596206252:=Nat
def tw8232978032853598047:=Nat
def tw3360994893345977575:=Nat
def tw10642603733955605607:=Nat
def tw2249358110336912239:=Nat
def tw4842423973348360699:=Nat
def tw15324817337645743937:=Nat
def tw6982861863504970222:=Nat
def tw5797009056916714344:=Nat
def tw18418388858115090676:=Nat
def tw4329383886860786930:=Nat
def tw6684279351852952554:=Nat
def tw15655911786067971892:=Nat
def tw4086595344513830136:=Nat
def tw8192413779421623181:=Nat
def tw15196530520256190555:=Nat
def tw17866158946546525888:=Nat
def tw6382292078194949258:=Nat
def tw15480711072394341448:=Nat
def tw5146806843708750857:=Nat
def tw15039188426453390038:=Nat
def tw12686811515798201246:=Nat
def tw3812650826300222682:=Nat
def tw11642853589928969950:=Nat
def tw9439855379713196143:=Nat
def tw5440250289551091689:=Nat
def tw6342800578935747432:=Nat
def tw18057265498519917515:=Nat
def tw17217868085666722561:=Nat
def tw3374938121467060674:=Nat
def tw5568786964056234623:=Nat
def tw10050599326200463204:=Nat
def tw9692811289496784679:=Nat
def tw11857677423592370346:=Nat
def tw1052935631305908119:=Nat
def tw11120415179796411492:=Nat
def tw8500421172068335458:=Nat
def tw9487700512631971337:=Nat
def tw7839246197190562780:=Nat
def tw8953496770638919510:=Nat
def tw11976559636906795405:=Nat
def tw972138800644050333:=Nat
def tw2966515479287297219:=Nat
def tw18037461615222041109:=Nat
def tw15451618480534912500:=Nat
def tw9186509666031416385:=Nat
def tw14594391398130001085:=Nat
def tw8546966858945663865:=Nat
def tw1786180470293993115:=Nat
def tw615880210546721554:=Nat
def tw4102540107529645293:=Nat
def tw15460215993885541720:=Nat
def tw388516525788345177:=Nat
def tw14177950394077756004:=Nat
def tw8019244250421256352:=Nat
def tw18409843255099010581:=Nat
def tw15093006835287531438:=Nat
def tw16761292497241800798:=Nat
def tw3953876386929146943:=Nat
def tw2191522745073822188:=Nat
def tw6107827027056532709:=Nat
def tw8044499817721184144:=Nat
def tw14909105968004416240:=Nat
def tw442720177793705998:=Nat
def tw13466642137522122435:=Nat
def tw13187615816659801629:=Nat
def tw16443856487320121703:=Nat
def tw7662472938671364465:=Nat
def tw13795432693335909879:=Nat
def tw6640801991544639753:=Nat
def tw2741601945920633058:=Nat
def tw2818107331532645646:=Nat
def tw4416345386009033028:=Nat
end PySem.W.Fast
set_option maxRecDepth 100000 in
set_option maxHeartbeats 0 in
theorem PySem.Challenge.cw_undercells_k51_counts_holds : PySem.Challenge.rw_undercells_k51_counts.Holds := by
 w_on;o_law;k_head;(case hw=>w_witness2)
 k_fill
 refine K51.walk (l:=PySem.Challenge.rw_undercells_k51_counts) rfl rfl (fun w h Y=>PySem.W.kIn_of Y) ?F
 case F=>
  intro w mg fa h KX G hmg;refine' K51.all_mk KX G hmg (.of ?_ ?_ ?_ ?_) (.of ?_ ?_ ?_ ?_) (.of ?_ ?_ ?_ ?_) (.of ?_ ?_ ?_ ?_) (.of ?_ ?_ ?_ ?_) (.of ?_ ?_ ?_ ?_) (.of ?_ ?_ ?_ ?_) (.of ?_ ?_ ?_ ?_) (.of ?_ ?_ ?_ ?_) (.of ?_ ?_ ?_ ?_) (.of ?_ ?_ ?_ ?_) (.of ?_ ?_ ?_ ?_) (.of ?_ ?_ ?_ ?_) (.of ?_ ?_ ?_ ?_) (.of ?_ ?_ ?_ ?_) (.of ?_ ?_ ?_ ?_) (.of ?_ ?_ ?_ ?_) (.of ?_ ?_ ?_ ?_) (.of ?_ ?_ ?_ ?_) (.of ?_ ?_ ?_ ?_) (.of ?_ ?_ ?_ ?_) (.of ?_ ?_ ?_ ?_) (.of ?_ ?_ ?_ ?_) (.of ?_ ?_ ?_ ?_) (.of ?_ ?_ ?_ ?_) (.of ?_ ?_ ?_ ?_) (.of ?_ ?_ ?_ ?_) (.of ?_ ?_ ?_ ?_) ?_ ?_ ?_ ?_ ?_ ?_ ?_ ?_ ?_ ?_ ?_ ?_ ?_ ?_ ?_ ?_ ?_
  any_goals first|k_is|kernel_rfl
