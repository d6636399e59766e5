import PyProof.Rows.All
import Wide.All
import OpenK.AllK
import Wide.FinOn
import Lean
import PyProof.EqAt
import PyProof.EqKinds
import PyProof.TupleCall
import PySem.Challenge.RW_undercells_k51_counts
set_option autoImplicit true
set_option relaxedAutoImplicit true
set_option Elab.async false
set_option linter.all false
set_option maxRecDepth 100000
set_option maxHeartbeats 4000000
local macro_rules|`(command|abbrev $n:declId $s:optDeclSig $v:declVal)=>`(command|noncomputable def $n:declId $s:optDeclSig $v:declVal)|`(command|meta abbrev $n:declId $s:optDeclSig $v:declVal)=>`(command|@[reducible]noncomputable def $n:declId $s:optDeclSig $v:declVal)
local macro_rules|`(∅)=>`(by decide +kernel)
local macro_rules|`(⋯)=>`(by decide)
local macro_rules|`(tactic|dsimp[$l,*])=>`(tactic|simp only[$l,*])|`(tactic|dsimp[$l,*]$o:location)=>`(tactic|simp only[$l,*]$o:location)
local macro_rules(kind:=Lean.Parser.Term.structInst)|`({})=>`({cls:=.type "list",data:=.seq ([]:List PySem.Value).toArray})
set_option hygiene false
local macro_rules|`(tactic|room)=>`(tactic|obtain⟨ρ,S,τ,R,r,h⟩:=h9)
local macro_rules|`(tactic|z_go)=>`(tactic|obtain⟨ρ,S,a,b,R,va,vb,h⟩:=h9)
local macro_rules|`(tactic|x_go)=>`(tactic|intro pins s σ H Q I h)
local macro_rules|`(tactic|w_up)=>`(tactic|intro pins s σ H xs us Q I r h)
local macro_rules|`(tactic|k_ne)=>`(tactic|intro X hP hw hK hc i pins s σ H E I hf st hg)
local macro_rules|`(tactic|kt_k)=>`(tactic|obtain⟨xs,hn,h⟩:=jM h)
local macro_rules|`(tactic|kd_p)=>`(tactic|obtain⟨w,rfl,ρ,S,x,R,hv,h⟩:=Ms h0)
local macro_rules|`(tactic|gn_on)=>`(tactic|intro pins s σ H x y v u Q I rx ry h)
local macro_rules|`(tactic|gp_on)=>`(tactic|obtain⟨f0,f1,f2,f3,f4,f5⟩:=hf it (by simp))
local macro_rules|`(tactic|kj_on)=>`(tactic|refine aG (wpAny_isInstance (b:=true) (T := "StopIteration") ⟨_,bg _ rfl,rfl⟩ isSubtype_stop (aJ (q _ (((ff ..).extBut.push _).push _)))))
local macro_rules|`(tactic|kcf_m)=>`(tactic|obtain⟨u,rfl,rx⟩:=vals1 r)
local macro_rules|`(tactic|kcj_m)=>`(tactic|rw[aM (show ¬_ by simp)])
local macro_rules|`(tactic|kpc_g)=>`(tactic|have nn:¬((Value.ref d == Value.none)=true):=aY)
local macro_rules|`(tactic|kpf_c)=>`(tactic|have hfree:∀y∈scope.names,y.2=.free->∃c,X.env.cells.lookup y.1=some c:=λy hy e=>I.ok.has _ (S.fr y hy e))
local macro_rules|`(tactic|ksr_p)=>`(tactic|intro pins s σ H D I h)
local macro_rules|`(tactic|kst_p)=>`(tactic|refine aV (wpS_lift (fR ⟨rfl,?_⟩)))
local macro_rules|`(tactic|kln_w)=>`(tactic|obtain⟨ρ,S,τ,R,r,h⟩:=h)
local macro_rules|`(tactic|kl_no)=>`(tactic|obtain⟨t,rfl⟩:=rx)
local macro_rules|`(tactic|mg_lt)=>`(tactic|intro value slice pins s σ H x y v u Q I rx ry h hs)
local macro_rules|`(tactic|cb_eq)=>`(tactic|refine aG (aJ (aG (dg ho hd ?_))))
local macro_rules|`(tactic|o_rec)=>`(tactic|refine aG (aJ (aG (dM ho hd ?_))))
local macro_rules|`(tactic|f_are)=>`(tactic|refine aV (kg (mh hy) ?_))
set_option hygiene true
local macro_rules|`(())=>`(by lia)
@[reducible]def ae:=List Int
@[reducible]def ag:=List Nat
@[reducible]def am:=List PySem.Str
@[reducible]def ap:=List PySem.Value
@[reducible]def ar:=List PySem.Addr
@[reducible]def ba:=Option PySem.Value
@[reducible]def bb:=Option Int
@[reducible]def bd:=Option Bool
@[reducible]def bi:=Option Nat
@[reducible]def bj:=List (PySem.Addr×PySem.Obj)
def aG:=@PySem.wpAny_bind
def aH:=@List.getElem?_eq_getElem
def aI:=@List.getD_eq_getElem?_getD
def aJ:=@PySem.wpAny_pure
def aK:=@List.getElem?_eq_some_iff
def aL:=@List.length_map
def aM:=@if_neg
def aN:=@if_pos
def aO:=@PySem.Heap.get?_push_of_some
def aP:=@List.mem_cons_self
def aQ:=@List.mem_cons_of_mem
def aR:=@List.getElem?_map
def aS:=@Nat.le_refl
def aT:=@List.size_toArray
def aU:=@List.length_append
def aV:=@PyProof.Rows.wpS_bind
def aW:=@Option.some.inj
def aX:=@PySem.Heap.lt_size
def aY:=@Bool.false_ne_true
def aZ:=@List.mem_of_getElem?
def a_:=@List.mem_append_right
def bf:=@PyProof.Rows.wpS_pure
def bg:=@PySem.Heap.get?_push_size
def bh:=@decide_eq_false
def bq:=@decide_eq_true
def br:=@List.mem_singleton
def bu:=@List.mem_append
def bw:=@Bool.false_eq_true
def bA:=@Option.map_eq_some_iff
def bB:=@List.length_take
def bC:=@List.getElem?_append_left
def bD:=@PySem.wpAny_newObj_type
def bE:=@Nat.ne_of_lt
def bF:=@List.length_cons
def bG:=@List.getElem?_eq_none
def bH:=@List.mem_map
def bI:=@List.map_cons
def bJ:=@List.map_map
def bK:=@List.getElem?_set_ne
def bL:=@List.mem_of_mem_take
def bM:=@List.getElem?_set_self
def bN:=@List.length_set
def bO:=@List.append_assoc
def bP:=@List.mem_cons
def bQ:=@Nat.lt_of_lt_of_le
def bR:=@List.ext_getElem?
def bS:=@List.mem_append_left
def bT:=@List.countP_cons
def bU:=@List.map_append
def bV:=@List.sum_cons
def bW:=@beq_self_eq_true
def bX:=@Nat.le_trans
def bZ:=@List.drop_eq_getElem_cons
def b7:=@PySem.wpAny_call_entry
def b8:=@if_false
def b9:=@List.forall_mem_cons
def b_:=@List.take_append_drop
def cg:=@PySem.W.mg_none_of
def cj:=@List.getElem?_range
def cu:=@PySem.F.slot_dict_itemiterator_next
def cA:=@List.pairwise_append
def cB:=@List.mem_filter
def cC:=@Int.toNat_natCast
def cD:=@List.map_congr_left
def cE:=@List.range_eq_range'
def cF:=@List.take_of_length_le
def cG:=@List.take_succ_eq_append_getElem
def cH:=@List.pairwise_cons
def cI:=@PyProof.Rows.slot_tuple_getitem
def cJ:=@PyProof.Rows.wpS_forRange
def cK:=@PySem.F.slot_dict_valueiterator_next
def cM:=@PySem.PassesOwn.never
def cN:=@List.length_drop
def cO:=@PySem.wpAny_callSpecial?_slot
def cP:=@List.length_range
def cQ:=@List.nodup_append
def cT:=@Array.getElem?_eq_getElem
def cU:=@PySem.F.slot_dict_keyiterator_next
def cV:=@List.mem_range
def cW:=@PySem.W.kia_one
def cX:=@List.append_nil
def cY:=@Array.length_toList
def cZ:=@Nat.zero_le
def c5:=@Array.getElem?_toList
def c6:=@if_true
def c7:=@PySem.sizeLine_eq
def c8:=@List.getElem_inj
def c9:=@Nat.lt_succ_self
def c_:=@List.getElem_mem
def dc:=@List.replicate_succ
def dg:=@PySem.wpAny_dictEntries
def dh:=@List.length_singleton
def di:=@List.set_append_right
def dj:=@PySem.wpAny_holding
def dm:=@List.getElem?_take_of_lt
def dw:=@List.length_eq_zero_iff
def dz:=@Option.bind_eq_some_iff
def dB:=@Option.bind_some
def dD:=@PySem.wpAny_truthy_bool
def dF:=@PySem.Calls.callWith_builtin
def dG:=@List.pairwise_map
def dH:=@PySem.wpAny_fieldsOf
def dI:=@Array.getElem?_eq_none
def dJ:=@of_decide_eq_true
def dM:=@PySem.wpAny_dictEpoch
def dN:=@List.pairwise_iff_getElem
def dO:=@congrArg
def dP:=@Bool.and_eq_true
def dQ:=@PySem.wpAny_typeNameOfWhole_itemiter
def dR:=@List.getElem_map
def dS:=@List.Perm.refl
def dU:=@PySem.wpAny_typeNameOfWhole_keyiter
def dW:=@PySem.wpAny_typeNameOfWhole_valiter
def dX:=@List.reverse_cons
def dY:=@List.flatten_cons
def dZ:=@List.pairwise_singleton
def d7:=@List.find?_cons
def d8:=@List.length_reverse
def d9:=@PyProof.Rows.wpS_mono
def d_:=@List.getElem_cons_drop
def eg:=@PySem.wpAny_field
def eo:=@Int.le_refl
def eB:=@List.range'_succ
def eE:=@List.prefix_refl
def eF:=@List.getElem?_append_right
def eG:=@List.length_filter_le
def eK:=@PySem.wpAny_typeNameOf_itemiter
def eL:=@PySem.wpAny_passesOwn
def eN:=@Option.map_some
def eO:=@List.getElem?_of_mem
def eS:=@List.mem_of_mem_drop
def eT:=@PySem.wpAny_standAt
def eU:=@Bool.not_true
def eV:=@PySem.wpAny_typeNameOf_keyiter
def eW:=@List.Pairwise.imp_of_mem
def eX:=@PySem.F.slot_list_append
def eY:=@PySem.F.type_list_append
def eZ:=@List.eraseIdxIfInBounds_toArray
def e_:=@PySem.mem_of_lookup
def ff:=@PySem.Heap.SameBut.update
def fh:=@List.filter_eq_self
def fj:=@List.filter_sublist
def fm:=@Option.getD_some
def fq:=@PySem.Heap.size_push
def fu:=@PySem.wpAny_mono
def fB:=@Nat.zero_add
def fC:=@PySem.wpAny_isOneOf_itemiter
def fD:=@PySem.wpAny_setField_rec
def fF:=@PyProof.Rows.wpS_modify
def fG:=@List.getElem?_drop
def fH:=@List.nodup_cons
def fJ:=@List.length_nil
def fK:=@Nat.lt_irrefl
def fL:=@PySem.wpAny_attempt
def fM:=@List.getElem?_toArray
def fN:=@PyProof.Rows.callWith_type1
def fO:=@Nat.lt_succ_of_lt
def fP:=@List.flatMap_cons
def fQ:=@PySem.call_meets
def fR:=@PySem.wpAny_rule
def fS:=@Bool.not_false
def fU:=@List.take_zero
def fV:=@List.perm_ext_iff_of_nodup
def fW:=@PySem.F.args_dict_valueiterator_next_1
def fX:=@List.lookup_cons
def fY:=@PySem.F.args_dict_itemiterator_next_1
def fZ:=@Nat.sub_self
def f6:=@PySem.F.entry_dict_valueiterator_next
def f7:=@List.take_length
def f9:=@Classical.byContradiction
def f_:=@PySem.F.entry_dict_itemiterator_next
def gb:=@PySem.F.args_dict_keyiterator_next_1
def gc:=@Option.isSome_iff_exists
def gf:=@PySem.F.args_tuple_add_2
def gg:=@List.Perm.eq_of_pairwise
def gh:=@PySem.F.slot_dict_itemiterator_iter
def gp:=@PySem.F.entry_dict_keyiterator_next
def gq:=@PySem.W.mg_of
def gr:=@Ne.symm
def gu:=@List.prefix_append
def gv:=@List.getElem_range
def gz:=@PySem.Obj.data_mapFields
def gA:=@decide_eq_true_iff
def gB:=@Int.emod_lt_of_pos
def gC:=@List.getElem?_replicate
def gD:=@PySem.F.entry_tuple_add
def gE:=@PySem.wpAny_Call_method0_late
def gF:=@PySem.F.plainAttrs_list
def gG:=@List.findIdx?_eq_some_iff_getElem
def gH:=@PySem.F.slot_tuple_add
def gI:=@List.pairwise_lt_range
def gJ:=@PySem.wpAny_setField
def gK:=@PySem.wpAny_pyIter_slot
def gM:=@PyProof.Rows.wpS_get
def gO:=@PySem.Heap.get?_push_ne
def gP:=@List.range_succ_eq_map
def gQ:=@List.length_pos_of_mem
def gR:=@Nat.lt_of_succ_lt_succ
def gS:=@List.map_set
def gT:=@List.countP_congr
def gU:=@List.Pairwise.imp
def gW:=@List.eraseIdx_eq_take_drop_succ
def gX:=@PySem.Heap.get?_update_self
def gY:=@PySem.wpAny_notOrdered_dict
def gZ:=@PySem.wpAny_isOneOf_keyiter
def g_:=@PySem.wpAny_isOneOf_valiter
def h_:=@List.eq_nil_or_concat
def ie:=@List.concat_eq_append
def ig:=@List.Pairwise.sublist
def ir:=@List.all_eq_true
def iw:=@PySem.Heap.size_update
def iy:=@List.filter_cons
def iz:=@List.ext_getElem
def iA:=@List.mem_flatMap
def iB:=@List.mem_reverse
def iC:=@Nat.add_assoc
def iD:=@PySem.Calls.evalArgs_plain
def iE:=@List.reverse_reverse
def iF:=@List.mem_iff_getElem
def iG:=@PySem.F.slot_dict_values_iter
def iH:=@List.take_append_of_le_length
def iI:=@PySem.wpAny_execs_nil
def iJ:=@PySem.F.slot_dict_items_iter
def iK:=@Nat.not_lt_zero
def iL:=@List.filter_map
def iM:=@List.countP_nil
def iN:=@List.countP_map
def iO:=@Int.emod_nonneg
def iP:=@List.filterMap_cons
def iQ:=@PySem.evalArgs_none
def iR:=@List.reverse_append
def iS:=@List.countP_eq_zero
def iT:=@PySem.codeAny_mono
def iU:=@Nat.lt_or_ge
def iV:=@PySem.wpAny_Call_Name_kw
def iW:=@List.filterMap_map
def iX:=@PySem.Heap.IsSliceOf.new
def iY:=@PySem.tupleKind_room_in1
def iZ:=@Nat.add_sub_cancel
def i6:=@List.drop_zero
def i7:=@Array.getElem?_eq_none_iff
def i8:=@List.countP_append
def i9:=@List.filter_append
def i_:=@Nat.mul_le_mul
def ja:=@PySem.wpAny_pyIter_list
def jb:=@PySem.slot_list_getitem
def jc:=@List.getElem?_set
def jd:=@PySem.Paired.length
def je:=@PySem.evalPart_none
def jf:=@List.all_cons
def jh:=@Bool.true_and
def ji:=@List.zipIdx_cons
def jj:=@List.take_append
def jk:=@decide_eq_decide
def jl:=@List.flatMap_map
def jm:=@Nat.le_of_lt
def jn:=@PySem.wpAny_typeOf
def jo:=@Nat.sub_zero
def jq:=@Nat.succ_pos
def jt:=@Int.zero_add
def ju:=@List.of_mem_zip
def jv:=@List.foldl_cons
def jw:=@List.forIn_cons
def jx:=@Int.le_antisymm
def jy:=@List.range_succ
def jz:=@Nat.min_eq_left
def jA:=@List.forIn_nil
def jB:=@Array.size_zip
def jC:=@Option.map_map
def jD:=@List.take_succ
@[reducible]def af:=PySem.Value
@[reducible]def ah:=PySem.World
@[reducible]def aj:=PySem.Program
@[reducible]def ak:=PySem.Addr
@[reducible]def aq:=PySem.Heap
@[reducible]def au:=PySem.W.Frag
@[reducible]def aA:=PySem.Around
@[reducible]def aC:=PySem.Shared
@[reducible]def aE:=PySem.Expr
@[reducible]def aF:=PySem.Stmt
def anI{a b:Prop}(h:a)(k:b):a/\b:=⟨h,k⟩
open Array (size_map)
open List (all_map any_cons map_drop map_id map_id' map_nil map_take)
open Nat (mul_comm ne_of_gt)
open Option (getD_none isSome_map)
namespace L2
open PySem PySem.Spec PyProof.Rows
meta abbrev Key:=Sum Int Str
abbrev zG:Key->af->Bool
 | .inl k,v=>Value.isInt k v
 | .inr x,v=>Value.isStrOf x v
abbrev VH (w:ah):Key->Int
 | .inl k=>hashInt k
 | .inr x=>hashStr w x
def kX:∀{k:Key}{v:af},zG k v=true->(∃i t,k=Sum.inl i/\v=Value.int i t)\/(∃x t,k=Sum.inr x/\v=Value.str x t)
 | .inl i,v,h=>by
  obtain⟨t,e⟩:=Value.isInt_shape (k:=i) (v:=v) h;exact .inl ⟨i,t,rfl,e⟩
 | .inr x,v,h=>by
  obtain⟨t,e⟩:=Value.isStrOf_shape (x:=x) (v:=v) h;exact .inr ⟨x,t,rfl,e⟩
def GL(i:Int)(t:Tok):zG (.inl i) (.int i t)=true:=by simp[zG,Value.isInt]
def GV(x:Str)(t:Tok):zG (.inr x) (.str x t)=true:=by simp[zG,Value.isStrOf]
def Qf(a b:Int):decide ((Sum.inl a:Key)=Sum.inl b)=(a == b):=by
 by_cases e:a=b
 ·subst e;simp
 ·have h:¬(Sum.inl a:Key)=Sum.inl b:=λq=>e (Sum.inl.inj q);rw[bh h];exact(beq_eq_false_iff_ne.mpr e).symm
def QH(a b:Str):decide ((Sum.inr a:Key)=Sum.inr b)=decide (a=b):=by
 by_cases e:a=b
 ·subst e;simp
 ·have h:¬(Sum.inr a:Key)=Sum.inr b:=λq=>e (Sum.inr.inj q);rw[bh h,bh e]
def SG(a:Int)(b:Str):decide ((Sum.inl a:Key)=Sum.inr b)=false:=bh (λq=>nomatch q)
def P_(a:Str)(b:Int):decide ((Sum.inr a:Key)=Sum.inl b)=false:=bh (λq=>nomatch q)
abbrev k_ (prog:aj)(w:ah):PySem.KeyKind prog w Key where
 is:=zG
 hash:=VH w
 inj:=λv a b ha hb=>by
  rcases kX ha with⟨i,t,rfl,rfl⟩|⟨x,t,rfl,rfl⟩
  ·rcases kX hb with⟨j,u,rfl,e⟩|⟨y,u,rfl,e⟩
   ·injection e with e1 _;rw[e1]
   ·exact nomatch e
  ·rcases kX hb with⟨j,u,rfl,e⟩|⟨y,u,rfl,e⟩
   ·exact nomatch e
   ·injection e with e1 _;rw[e1]
 byValue:=λk v h=>by
  rcases kX h with⟨i,t,rfl,rfl⟩|⟨x,t,rfl,rfl⟩<;>rfl
 pyHash:=λhv h=>by
  rcases kX hv with⟨i,t,rfl,rfl⟩|⟨x,t,rfl,rfl⟩
  ·exact wpAny_pyHash_int h
  ·exact wpAny_pyHash_str h
 eqBool:=λhu hv h=>by
  rcases kX hu with⟨i,t,rfl,rfl⟩|⟨x,t,rfl,rfl⟩
  ·rcases kX hv with⟨j,u,rfl,rfl⟩|⟨y,u,rfl,rfl⟩
   ·rw[Qf]at h;exact wpAny_eqBool_int h
   ·rw[SG]at h;exact SeqAt.EqAt.int_str i t y u _ _ _ _ h
  ·rcases kX hv with⟨j,u,rfl,rfl⟩|⟨y,u,rfl,rfl⟩
   ·rw[P_]at h;exact SeqAt.EqAt.str_int x t j u _ _ _ _ h
   ·rw[QH]at h;exact wpAny_eqBool_str h
 «strs»:=λk x t v h=>by
  rcases kX h with⟨i,u,rfl,e⟩|⟨y,u,rfl,e⟩
  ·exact nomatch e
  ·injection e with e1 _
   subst e1
   cases v<;>rfl
def BJ(prog:aj)(w:ah)(i:Int)(t:Tok):(k_ prog w).is (.inl i) (.int i t)=true:=GL i t
def CH(prog:aj)(w:ah)(x:Str)(t:Tok):(k_ prog w).is (.inr x) (.str x t)=true:=GV x t
inductive V where
 | non|bl (b:Bool)|int (i:Int)|str (x:Str)|byt (b:Array UInt8)|flt (b:UInt64)|ref (a:ak)|ty (n:String)
 deriving DecidableEq
abbrev RelV:V->af->Prop
 | .non,u=>u=Value.none
 | .bl b,u=>u=Value.bool b
 | .int i,u=>∃t,u=Value.int i t
 | .str x,u=>∃t,u=Value.str x t
 | .byt b,u=>∃t,u=Value.bytes b t
 | .flt b,u=>∃t,u=Value.float b t
 | .ref a,u=>u=Value.ref a
 | .ty n,u=>u=Value.type n
meta abbrev Vals:List V->ap->Prop:=Paired RelV
def Vals.length{xs:List V}{us:ap}(r:Vals xs us):xs.length=us.length:=jd r
theorem Vals.get:∀{xs:List V}{us:ap}{i:Nat}{x:V},Vals xs us->xs[i]?=some x->∃u,us[i]?=some u/\RelV x u
 | _,_,_,_,.nil,e=>by simp at e
 | _,_,0,_,.cons r _,e=>by simp at e;subst e;exact⟨_,rfl,r⟩
 | _,_,i+1,x,.cons _ t,e=>by
  obtain⟨u,h1,h2⟩:=Vals.get (i:=i) (x:=x) t (by simpa using e);exact⟨u,by simpa using h1,h2⟩
theorem Vals.set{x:V}(r:RelV x u):∀{xs:List V}{us:ap}(i:Nat),Vals xs us->Vals (xs.set i x) (us.set i u)
 | _,_,_,.nil=>.nil
 | _,_,0,.cons _ t=>.cons r t
 | _,_,i+1,.cons q t=>.cons q (Vals.set r i t)
theorem Vals.append:∀{xs ys:List V}{us ws:ap},Vals xs us->Vals ys ws->Vals (xs++ys) (us++ws)
 | _,_,_,_,.nil,s=>s
 | _,_,_,_,.cons r t,s=>.cons r (Vals.append t s)
theorem Vals.take:∀{xs:List V}{us:ap}(n:Nat),Vals xs us->Vals (xs.take n) (us.take n)
 | _,_,0,_=>.nil
 | _,_,_+1,.nil=>.nil
 | _,_,n+1,.cons r t=>.cons r (Vals.take n t)
theorem Vals.drop:∀{xs:List V}{us:ap}(n:Nat),Vals xs us->Vals (xs.drop n) (us.drop n)
 | _,_,0,r=>r
 | _,_,_+1,.nil=>.nil
 | _,_,n+1,.cons _ t=>Vals.drop n t
abbrev yz:Option V->ba->Prop
 | some v,some u=>RelV v u
 | none,none=>True
 | _,_=>False
abbrev KV {κ:Type}:List (κ×V)->List (κ×af)->Prop:=Paired λ(p:κ×V) (q:κ×af)=>p.1=q.1/\RelV p.2 q.2
abbrev kV:Key->V
 | .inl i=>.int i
 | .inr x=>.str x
inductive HO where
 | lst (xs:List V)
 | tup (xs:List V)
 | dK (kvs:List (Key×V))|dT (kvs:List (List Key×V))
 | set (S:Int->Bool) (n:Nat)
 | ins (C dx:ak) (fs:List (Str×V))
 | own (x:ak)
 | xd (fs:List (Str×V))
 | met (f x:ak)
 | rng (lo hi:Int)
 | frz (o:Obj) (u:HO)
 | tbl (ps:Array af)
 | ext (φ:aq->Prop)
meta abbrev Hp:=ak->Option HO
abbrev upd (H:Hp)(a:ak)(o:HO):Hp:=λb=>if b=a then some o else H b
def kB{H:Hp}{a:ak}:upd H a o a=some o:=by unfold upd;rw[aN rfl]
def jS{H:Hp}{a:ak}(h:b≠a):upd H a o b=H b:=by unfold upd;rw[aM h]
def HF{H:Hp}{a:ak}(h:H a=some o)(h':H b=some u)(d:o≠u):a≠b:=by
 intro e;subst e;rw[h]at h';exact d (aW h')
def j6{H:Hp}{a:ak}(h:H a=some o)(h':H b=none):a≠b:=by
 intro e;subst e;rw[h]at h';cases h'
abbrev nM (h:aq)(a:ak)(items:Array af):Prop:=∃o,h.get? a=some o/\o.cls=.type "tuple" /\ o.dict=none/\∃n,o.data=.seq items n
def nM.tup{a:ak}:nM h a items->IsTup h a items:=λ⟨o,e,c,_,n,d⟩=>⟨o,e,c,n,d⟩
def nM.new(h:aq)(items:Array af):nM (h.push { cls:=.type "tuple",data:=.seq items }) h.objs.size items:=⟨_,bg _ rfl,rfl,rfl,_,rfl⟩
def nM.lt{h:aq}{a:ak}(x:nM h a items):a<h.objs.size:=let⟨_,ho,_⟩:=x;aX ho
section
variable (P:aj) (w:ah)
abbrev kR (H:Hp)(h:aq)(a:ak):HO->Prop
 | .lst xs=>xs.length<=sizeLine/\∃(its:ap) (n:Nat),Vals xs its/\h.get? a=some { cls:=.type "list",data:=.seq its.toArray n }
 | .tup xs=>xs.length<=sizeLine/\∃its:ap,Vals xs its/\nM h a its.toArray
 | .dK kvs=>kvs.length<=sizeLine/\(a == sysModules)=false/\∃vs,KV kvs vs/\h.DictOf (k_ P w) a vs
 | .dT kvs=>kvs.length<=sizeLine/\(a == sysModules)=false/\∃xs:List (List Key×ak×af),
   Paired (λ(p:List Key×V) (q:List Key×ak×af)=>p.1=q.1/\H q.2.1=some (.tup (p.1.map kV))/\RelV p.2 q.2.2) kvs xs /\
   ∃o es ep,h.get? a=some o/\o.ExactDict/\o.data=.dict es ep/\es.toList=xs.map (entryOfKey (tupleKind (k_ P w)))/\(xs.map (·.1)).Nodup
 | .set S n=>h.SetOf (intKind P w) a S n
 | .ins C dx fs=>H dx=some (.own a)/\fs.length<=1000/\dx≠a/\h.get? a=some (PySem.W.instObj C dx) /\
   ∃mA,h.Ns1 dx mA/\(∀f,yz (fs.lookup f) (mA f))/\PySem.Within mA (fs.map (·.1))
 | .own _=>∃o,h.get? a=some o
 | .xd fs=>∃mA,h.Ns1 a mA/\∀f,yz (fs.lookup f) (mA f)
 | .rng lo hi=>∃t u v,h.get? a=some { cls:=.type "range",data:=.fields #[.int lo t,.int hi u,.int 1 v]}
 | .frz o u=>h.get? a=some o/\kR H h a u
 | .tbl ps=>h.get? a=some { cls:=.none,data:=.fields ps }
 | .met f x=>h.get? a=some (PySem.W.methodObj (.ref f) (.ref x))
 | .ext φ=>φ h/\(∃o,h.get? a=some o)/\∀h1 h2:aq,φ h1->(∀o,h1.get? a=some o->h2.get? a=some o)->φ h2
abbrev uh (H:Hp)(h:aq):Prop:=∀a o,H a=some o->kR P w H h a o
end
section
variable {P:aj}{w:ah}{H H':Hp}{h h':aq}{a:ak}{o:HO}
def kR.lt(x:kR P w H h a o):a<h.objs.size:=by
 cases o with
 | lst xs=>obtain⟨_,_,_,_,e⟩:=x;exact aX e
 | tup xs=>obtain⟨_,_,_,p⟩:=x;exact nM.lt p
 | dK kvs=>obtain⟨_,_,_,_,o,_,_,e,_⟩:=x;exact aX e
 | dT kvs=>obtain⟨_,_,_,_,o,_,_,e,_⟩:=x;exact aX e
 | set S n=>obtain⟨o,_,_,_,e,_⟩:=x;exact aX e
 | ins C dx fs=>obtain⟨_,_,_,e,_⟩:=x;exact aX e
 | own y=>obtain⟨_,e⟩:=x;exact aX e
 | xd fs=>obtain⟨_,⟨_,_,_,e,_⟩,_⟩:=x;exact aX e
 | rng lo hi=>obtain⟨_,_,_,e⟩:=x;exact aX e
 | frz ob u=>obtain⟨e,_⟩:=x;exact aX e
 | tbl ps=>exact aX (show h.get? a=some _ from x)
 | met f y=>exact aX (show h.get? a=some _ from x)
 | ext φ=>obtain⟨_,⟨_,e⟩,_⟩:=x;exact aX e
theorem Paired.Sa{α β:Type}{F G:α->β->Prop}:∀{l₁:List α}{l₂:List β},Paired F l₁ l₂->(∀a b,F a b->G a b)->Paired G l₁ l₂
 | _,_,.nil,_=>.nil
 | _,_,.cons r t,f=>.cons (f _ _ r) (Paired.Sa t f)
def kR.stay(x:kR P w H h a o)(k:∀b u,(b=a\/H b=some (.own a))->h.get? b=some u->h'.get? b=some u)
  (ho:∀b,H b=some (.own a)->H' b=some (.own a)) (ht:∀b xs,H b=some (.tup xs)->H' b=some (.tup xs)):kR P w H' h' a o:=by
 induction o with
 | lst xs=>obtain⟨z,its,n,r,e⟩:=x;exact⟨z,its,n,r,k _ _ (.inl rfl) e⟩
 | tup xs=>obtain⟨z,its,r,ob,e,c⟩:=x;exact⟨z,its,r,ob,k _ _ (.inl rfl) e,c⟩
 | dK kvs=>obtain⟨z,y,vs,r,ob,es,ep,e,c⟩:=x;exact⟨z,y,vs,r,ob,es,ep,k _ _ (.inl rfl) e,c⟩
 | dT kvs=>
  obtain⟨z,y,xs,r,ob,es,ep,e,c⟩:=x;exact⟨z,y,xs,Paired.Sa r λp q z=>⟨z.1,ht _ _ z.2.1,z.2.2⟩,ob,es,ep,k _ _ (.inl rfl) e,c⟩
 | set S n=>obtain⟨ob,es,ep,t,e,c⟩:=x;exact⟨ob,es,ep,t,k _ _ (.inl rfl) e,c⟩
 | ins C dx fs=>
  obtain⟨d,z,ne,e,mA,⟨od,es,ep,e2,c⟩,r⟩:=x;exact⟨ho _ d,z,ne,k _ _ (.inl rfl) e,mA,⟨od,es,ep,k _ _ (.inr d) e2,c⟩,r⟩
 | own y=>obtain⟨ob,e⟩:=x;exact⟨ob,k _ _ (.inl rfl) e⟩
 | xd fs=>obtain⟨mA,⟨od,es,ep,e,c⟩,r⟩:=x;exact⟨mA,⟨od,es,ep,k _ _ (.inl rfl) e,c⟩,r⟩
 | rng lo hi=>obtain⟨t,u,v,e⟩:=x;exact⟨t,u,v,k _ _ (.inl rfl) e⟩
 | frz ob u ih=>obtain⟨e,q⟩:=x;exact⟨k _ _ (.inl rfl) e,ih q⟩
 | tbl ps=>
  have e:h.get? a=some { cls:=.none,data:=.fields ps }:=x
  skip
  exact k a _ (.inl rfl) e
 | met f y=>
  have e:h.get? a=some (PySem.W.methodObj (.ref f) (.ref y)):=x
  skip
  exact k a _ (.inl rfl) e
 | ext φ=>obtain⟨p,⟨o,e⟩,st⟩:=x;exact⟨st _ _ p λo q=>k _ _ (.inl rfl) q,⟨o,k _ _ (.inl rfl) e⟩,st⟩
def uh.lt(x:uh P w H h)(e:H a=some o):a<h.objs.size:=(x a o e).lt
def uh.fresh(x:uh P w H h)(e:h.objs.size<=a):H a=none:=by
 cases q:H a with
 | none=>rfl
 | some u=>exact absurd (bQ (x.lt q) e) (fK _)
def uh.kept(x:uh P w H h)(k:∀b u,h.get? b=some u->h'.get? b=some u):uh P w H h':=λa o e=>
 (x a o e).stay (λb u _ q=>k b u q) (λ_ q=>q) λ_ _ q=>q
def uh.laid(x:uh P w H h)(k:∀b u,h.get? b=some u->h'.get? b=some u)(hp:h.objs.size<=a)(new:kR P w (upd H a o) h' a o):uh P w (upd H a o) h':=λb u e=>by
 have hn:=x.fresh hp;by_cases hb:b=a
 ·subst hb;rw[kB]at e;cases e;exact new
 ·rw[jS hb]at e;exact(x b u e).stay (λc v _ q=>k c v q) (λc q=>by rw[jS (j6 q hn)];exact q) λc xs q=>by rw[jS (j6 q hn)];exact q
end
abbrev Rd (H:Hp)(a:ak)(u:HO):Prop:=H a=some u\/∃o,H a=some (.frz o u)
def Rd.ok{P:aj}{w:ah}{H:Hp}{a:ak}(r:Rd H a u)(x:uh P w H h):kR P w H h a u:=by
 rcases r with r|⟨o,r⟩
 ·exact x a u r
 ·obtain⟨_,q⟩:=x a _ r;exact q
abbrev Td:Option HO->Prop
 | some (.lst _)=>True
 | some (.dK _)=>True
 | some (.dT _)=>True
 | some (.set _ _)=>True
 | some (.ins _ _ _)=>True
 | some (.ext _)=>True
 | _=>False
section
variable {P:aj}{w:ah}{H:Hp}{h h':aq}{x e:ak}{o':HO}
def uh.write(ok:uh P w H h)(mu:Td (H x))(he:e=x\/H e=some (.own x))(k:∀b u,b≠e->h.get? b=some u->h'.get? b=some u)(heo:∃u,h'.get? e=some u)
  (new:kR P w (upd H x o') h' x o'):uh P w (upd H x o') h':=λb u q=>by
 have nown:∀c y,H c=some (.own y)->c≠x:=λc y r z=>by subst z;rw[r]at mu;exact mu
 have ntup:∀c xs,H c=some (.tup xs)->c≠x:=λc xs r z=>by subst z;rw[r]at mu;exact mu
 by_cases hb:b=x
 ·subst hb;rw[kB]at q;cases q;exact new
 ·rw[jS hb]at q;by_cases hbe:b=e
  ·have q':H b=some (.own x):=by
    rcases he with z|z
    ·exact absurd (hbe.trans z) hb
    ·rw[hbe];exact z
   rw[q]at q';cases q';obtain⟨v,hv⟩:=heo;exact⟨v,by rw[hbe];exact hv⟩
  ·refine(ok b u q).stay (λc v hc r=>k c v ?_ r) (λc r=>by rw[jS (nown c b r)];exact r) λc xs r=>by rw[jS (ntup c xs r)];exact r
   rcases hc with rfl|hc
   ·exact hbe
   ·rintro rfl
    rcases he with z|z
    ·exact nown c b hc z
    ·rw[hc]at z;cases z;exact hb rfl
end
structure Un (fs ex:ar)(H H':Hp)(h h':aq):Prop where
 keep:∀b o,h.get? b=some o->H b=none->b∉fs->b∉ex->h'.get? b=some o
 slot:∀b o,h.get? b=some o->H b=none->b∈fs->b∉ex->∃sl,h'.get? b=some { o with slots:=sl }
 free:∀b o,h.get? b=some o->H b=none->b∉ex->H' b=none
 there:∀b o,h.get? b=some o->b∉ex->∃o',h'.get? b=some o'
 tups:∀b xs,H b=some (.tup xs)->H' b=some (.tup xs)
 frzs:∀b o u,H b=some (.frz o u)->H' b=some (.frz o u)
 tbls:∀b ps,H b=some (.tbl ps)->∃more,H' b=some (.tbl (ps++more))
section
variable {fs ex:ar}{H H1:Hp}{h h1 h':aq}{a x e:ak}{o:HO}
def Un.any(u:Un fs ex H H1 h h1){ob:Obj}(q:h.get? b=some ob)(n:H b=none)(hx:b∉ex):∃sl,h1.get? b=some { ob with slots:=sl }:=by
 by_cases hb:b∈fs
 ·exact u.slot b ob q n hb hx
 ·exact⟨ob.slots,u.keep b ob q n hb hx⟩
def Un.kept(k:∀b u,h.get? b=some u->h'.get? b=some u):Un fs ex H H h h':=
 ⟨λb ob q _ _ _=>k b ob q,λb ob q _ _ _=>⟨ob.slots,k b ob q⟩,λ_ _ _ n _=>n,λb ob q _=>⟨ob,k b ob q⟩,λ_ _ q=>q,λ_ _ _ q=>q,λ_ ps q=>⟨#[],by rw[q];simp⟩⟩
def Un.refl:Un fs ex H H h h:=Un.kept λ_ _ q=>q
def Un.laid(k:∀b u,h.get? b=some u->h'.get? b=some u)(hp:h.objs.size<=a)(hn:H a=none):Un fs ex H (upd H a o) h h' where
 keep:=λb u q _ _ _=>k b u q
 slot:=λb u q _ _ _=>⟨u.slots,k b u q⟩
 free:=λb u q n _=>by rw[jS (bE (bQ (aX q) hp))];exact n
 there:=λb u q _=>⟨u,k b u q⟩
 tups:=λb xs q=>by rw[jS (j6 q hn)];exact q
 frzs:=λb u xs q=>by rw[jS (j6 q hn)];exact q
 tbls:=λb ps q=>⟨#[],by rw[jS (j6 q hn),q];simp⟩
def Un.write(mu:Td (H x))(he:e=x\/H e=some (.own x))(k:∀b u,b≠e->h.get? b=some u->h'.get? b=some u)(heo:∃u,h'.get? e=some u):Un fs ex H (upd H x o) h h':=by
 have hx:∀b,H b=none->b≠x:=λb n z=>by subst z;rw[n]at mu;exact mu
 have hb:∀b,H b=none->b≠e:=λb n z=>by
  subst z
  rcases he with r|r
  ·exact hx b n r
  ·rw[n]at r;cases r
 have hm:∀b u,H b=some u->¬Td (some u)->b≠x:=λb u q nm z=>by subst z;rw[q]at mu;exact nm mu
 refine⟨λb u q n _ _=>k b u (hb b n) q,λb u q n _ _=>⟨u.slots,k b u (hb b n) q⟩,λb u q n _=>by rw[jS (hx b n)];exact n,λb u q _=>?_,
  λb xs q=>by rw[jS (hm b _ q λz=>z)];exact q,λb u xs q=>by rw[jS (hm b _ q λz=>z)];exact q,λb ps q=>⟨#[],by rw[jS (hm b _ q λz=>z),q];simp⟩⟩
 by_cases hbe:b=e
 ·subst hbe;exact heo
 ·exact⟨u,k b u hbe q⟩
end
abbrev Vb (h:aq)(H:Hp):ar:=(List.range h.objs.size).filter λa=>(H a).isSome
abbrev An (h:aq)(H:Hp):aq:=PySem.W.hideAll h (Vb h H)
def G8(h:aq)(H:Hp):(An h H).objs.size=h.objs.size:=PySem.W.hideAll_size _ _
def LR{h:aq}{H:Hp}(e:h.get? b=some o)(n:H b=none):(An h H).get? b=some o:=
 PySem.W.hideAll_get _ e λhm=>by
  have q:(H b).isSome=true:=(cB.mp hm).2;rw[n]at q;simp at q
def MH{h:aq}{H:Hp}(e:(An h H).get? b=some o):h.get? b=some o/\H b=none:=by
 have e':h.get? b=some o:=PySem.W.of_hideAll (Vb h H) e;refine⟨e',?_⟩
 cases q:H b with
 | none=>rfl
 | some x=>
  have hm:b∈Vb h H:=cB.mpr ⟨cV.mpr (aX e'),by simp[q]⟩;have z:(An h H).get? b=none:=PySem.W.hideAll_none (Vb h H) hm;rw[z]at e;cases e
abbrev NT (g h:aq)(L:ak):bj:=(List.range h.objs.size).filterMap λa=>if a=L\/(g.get? a).isSome=true then none else(h.get? a).map λo=>(a,o)
abbrev rest (g h:aq)(L d:ak):bj:=(NT g h L).filter λp=>decide (p.1≠d)
structure Mod (K:au)(mg:Str->ba)(base:aq):Prop where
 kin:K.In base
 glob:base.Ns mainGlobals mg
 blt:∃mb,base.Ns builtinsNs mb/\∀x:Str,x ≠ "__name__" -> mb x=bootBuiltins x
 nolimit:base.NoLimit
structure Cx where
 prog:aj
 w:ah
 K:au
 mg:Str->ba
 base:aq
 A:aA
 N:am
 s₀:aC
 H₀:Hp
 env:Env
 outer:List Env
 stack:List Env
 ex:ar
 fn:Str->Bool
 calm:Bool
 pn:bj
 xe:af->aC->Prop
abbrev frs (l:List Env):ar:=l.filterMap (·.frame)
meta abbrev Cx.fs (X:Cx):ar:=frs X.outer
abbrev SW (sc:Scope)(x:Str):Prop:=sc.names.lookup x=some .local\/sc.names.lookup x=some .cell\/sc.names.lookup x=some .free
abbrev Loc (sc:Scope)(x:Str):Prop:=sc.names.lookup x=some .local\/sc.names.lookup x=some .cell
abbrev Look (env:Env)(h:aq)(m:Str->ba)(x:Str)(u:af):Prop:=
 (env.kindOf x=some .local/\m x=some u)\/((env.kindOf x=some .cell\/env.kindOf x=some .free)/\∃c,env.cells.lookup x=some c/\h.IsCell c (some u))
structure Cx.Ok (X:Cx):Prop where
 mod:Mod X.K X.mg X.base
 kind:X.env.scope.kind=.function
 glob:X.env.globals=mainGlobals
 blt:X.env.builtins=builtinsNs
 above:X.s₀.heap.objs.size<=X.env.locals
 inj:∀x y c,X.env.cells.lookup x=some c->X.env.cells.lookup y=some c->x=y
 has:∀x,(X.env.kindOf x=some .cell\/X.env.kindOf x=some .free)->∃c,X.env.cells.lookup x=some c
 cab:∀x c,X.fn x=true->X.env.cells.lookup x=some c->X.s₀.heap.objs.size<=c
 hd:X.calm=true->X.A.handled=none
 frames:X.A.frames=some X.stack
 stk:X.stack=X.outer\/(X.stack=X.env::X.outer/\X.env.frame=some X.env.locals)
 exf:∀b∈X.ex,b≠X.env.locals/\∀x c,X.env.cells.lookup x=some c->c≠b
 bs:∀b o,X.base.get? b=some o->X.s₀.heap.get? b=some o/\X.H₀ b=none
 bsz:X.base.objs.size<=X.s₀.heap.objs.size
 noex:∀b o,X.base.get? b=some o->b∉X.ex
 exfs:∀b∈X.ex,b∉X.fs
 xE:X.s₀.heap.FunFrames X.base X.outer
 frf:∀b∈X.fs,X.H₀ b=none
structure Inv (X:Cx)(pins:bj)(σ:List (Option V))(H:Hp)(s:aC):Prop where
 ok:X.Ok
 os:s.os=X.s₀.os
 bare:AllBare s.gens
 base:Un X.fs X.ex X.H₀ H X.s₀.heap s.heap
 loc:∃m,s.heap.Ns X.env.locals m/\∀(i:Nat) (x:Str) (v:V),X.N[i]?=some x->σ[i]?=some (some v)->SW X.env.scope x->∃u,RelV v u/\Look X.env s.heap m x u
 cell:∀x c,X.env.cells.lookup x=some c->∃v,s.heap.IsCell c v
 free:H X.env.locals=none
 freeC:∀x c,X.env.cells.lookup x=some c->H c=none
 pin:∀p∈X.pn++pins,s.heap.get? p.1=some p.2/\H p.1=none/\p.1≠X.env.locals/\p.1∉X.fs/\∀v,p.2.data≠.cell v
 hok:uh X.prog X.w H s.heap
 len:σ.length=X.N.length
section
variable {X:Cx}{pins:bj}{σ:List (Option V)}{H H':Hp}{s:aC}{h':aq}
def Cx.Ok.Wv(ok:X.Ok)(e:X.base.get? b=some o):b∉X.fs:=λhb=>by
 have:=(ok.xE.mem hb).1;rw[e]at this;cases this
def Inv.bs(I:Inv X pins σ H s):∀b o,X.base.get? b=some o->s.heap.get? b=some o/\H b=none:=λb o e=>
 ⟨I.base.keep b o (I.ok.bs b o e).1 (I.ok.bs b o e).2 (I.ok.Wv e) (I.ok.noex b o e),I.base.free b o (I.ok.bs b o e).1 (I.ok.bs b o e).2 (I.ok.noex b o e)⟩
def Inv.bk(I:Inv X pins σ H s):∀b o,X.base.get? b=some o->s.heap.get? b=some o:=λb o e=>(I.bs b o e).1
def Inv.mod(I:Inv X pins σ H s):Mod X.K X.mg X.base:=I.ok.mod
def Inv.AK(I:Inv X pins σ H s):X.K.In s.heap:=I.ok.mod.kin.keeps I.bk
def Inv.lt(I:Inv X pins σ H s):X.env.locals<s.heap.objs.size:=let⟨_,hn,_⟩:=I.loc;hn.lt
def Inv.sz(I:Inv X pins σ H s):X.s₀.heap.objs.size<=s.heap.objs.size:=bX I.ok.above (jm I.lt)
def Inv.VU(I:Inv X pins σ H s){a:ak}(h:s.heap.objs.size<=a):a∉X.fs:=λhb=>by
 obtain⟨_,o,ho,_⟩:=I.ok.xE.mem hb;exact absurd (bQ (aX ho) (bX I.sz h)) (fK _)
def Inv.Ql(I:Inv X pins σ H s):∀x c,X.env.cells.lookup x=some c->c≠X.env.locals:=λx c e z=>by
 obtain⟨v,o,ho,hd⟩:=I.cell x c e;obtain⟨m,⟨o',es,ep,ho',hd',_⟩,_⟩:=I.loc;rw[z,ho']at ho;cases ho;rw[hd']at hd;cases hd
def Inv.xE(I:Inv X pins σ H s):s.heap.FunFrames X.base X.outer:=by
 have all:∀(l:List Env),(∀b∈frs l,b∈X.fs)->X.s₀.heap.FunFrames X.base l->s.heap.FunFrames X.base l:=by
  intro l
  induction l with
  | nil=>intro _ _;trivial
  | cons env r ih=>
   intro hs hl;obtain⟨hk,⟨L,o,hf,hn,ho,hd⟩,hr⟩:=hl;have hL:L∈X.fs:=hs L (by unfold frs;rw[iP,hf];exact aP);obtain⟨sl,e⟩:=I.base.slot L o ho (I.ok.frf L hL) hL λz=>I.ok.exfs L z hL;exact⟨hk,⟨L,_,hf,hn,e,hd⟩,ih (λb hb=>hs b (by unfold frs;rw[iP,hf];exact aQ _ hb)) hr⟩
 exact all X.outer (λ_ hb=>hb) I.ok.xE
def Inv.stack(I:Inv X pins σ H s):s.heap.FunFrames X.base X.stack:=by
 rcases I.ok.stk with e|⟨e,hf⟩
 ·rw[e];exact I.xE
 ·rw[e];obtain⟨m,hn,_⟩:=I.loc;refine .cons (by rw[I.ok.kind];decide) hf hn ?_ I.xE;exact Heap.get?_none_of_le (bX I.ok.bsz I.ok.above)
def Inv.DL(I:Inv X pins σ H s):∀b∈frs X.stack,b∈X.env.locals::X.fs:=λb hb=>by
 rcases I.ok.stk with e|⟨e,hf⟩
 ·rw[e]at hb;exact aQ _ hb
 ·rw[e]at hb;unfold frs at hb;rw[iP,hf]at hb;exact hb
def Inv.Ge(I:Inv X pins σ H s):∀b∈frs X.stack,H b=none:=λb hb=>by
 rcases bP.mp (I.DL b hb)with e|hb
 ·rw[e];exact I.free
 ·obtain⟨_,o,ho,_⟩:=I.ok.xE.mem hb;exact I.base.free b o ho (I.ok.frf b hb) λz=>I.ok.exfs b z hb
def Inv.step{g':Array GenState}{t':Nat}{d':Drawn}{ch:ar}(I:Inv X pins σ H s)
  (hch:∀b∈ch,(b∈X.ex\/X.s₀.heap.objs.size<=b)/\b≠X.env.locals/\(∀x c,X.env.cells.lookup x=some c->c≠b)/\∀p∈X.pn++pins,p.1≠b)
  (keep:∀b o,b≠X.env.locals->b∉X.fs->b∉ch->s.heap.get? b=some o->H b=none->h'.get? b=some o)
  (slot:∀b o,b≠X.env.locals->b∈X.fs->b∉ch->s.heap.get? b=some o->H b=none->∃sl,h'.get? b=some { o with slots:=sl }) (free:∀b o,b∉ch->s.heap.get? b=some o->H b=none->H' b=none)
  (there:∀b o,b∉ch->s.heap.get? b=some o->∃o',h'.get? b=some o')
  (tups:∀b xs,H b=some (.tup xs)->H' b=some (.tup xs)) (frzs:∀b o u,H b=some (.frz o u)->H' b=some (.frz o u)) (tbls:∀b ps,H b=some (.tbl ps)->∃more,H' b=some (.tbl (ps++more)))
  (ns:∀m,s.heap.Ns X.env.locals m->h'.Ns X.env.locals m) (hok:uh X.prog X.w H' h') (hg:AllBare g') :
  Inv X pins σ H' { s with heap:=h',gens:=g',drawn:=d',toks:=t' }:=by
 have neL:∀b o,X.s₀.heap.get? b=some o->b≠X.env.locals:=λb o e=>bE (bQ (aX e) I.ok.above);have neC:∀b o,X.s₀.heap.get? b=some o->b∉X.ex->b∉ch:=λb o e hx hb=>by
  rcases(hch b hb).1 with z|z
  ·exact hx z
  ·exact absurd (bQ (aX e) z) (fK _)
 have cellK:∀x c,X.env.cells.lookup x=some c->∀v,s.heap.IsCell c v->h'.IsCell c v:=λx c e v ⟨o,ho,hd⟩=>by
  have nch:c∉ch:=λz=>(hch c z).2.2.1 x c e rfl;by_cases hc:c∈X.fs
  ·obtain⟨sl,q⟩:=slot c o (I.Ql x c e) hc nch ho (I.freeC x c e);exact⟨_,q,hd⟩
  ·exact⟨o,keep c o (I.Ql x c e) hc nch ho (I.freeC x c e),hd⟩
 refine⟨I.ok,I.os,hg,⟨λb o e n hb hx=>?_,λb o e n hb hx=>?_,λb o e n hx=>?_,λb o e hx=>?_,λb xs e=>tups b xs (I.base.tups b xs e),λb o xs e=>frzs b o xs (I.base.frzs b o xs e),λb ps e=>?_⟩,?_,λx c e=>?_,?_,λx c e=>?_,λp hp=>?_,hok,I.len⟩
 ·exact keep b o (neL b o e) hb (neC b o e hx) (I.base.keep b o e n hb hx) (I.base.free b o e n hx)
 ·obtain⟨sl,e1⟩:=I.base.slot b o e n hb hx;obtain⟨sl',e2⟩:=slot b _ (neL b o e) hb (neC b o e hx) e1 (I.base.free b o e n hx);exact⟨sl',e2⟩
 ·obtain⟨o',e1⟩:=I.base.there b o e hx;exact free b o' (neC b o e hx) e1 (I.base.free b o e n hx)
 ·obtain⟨o',e1⟩:=I.base.there b o e hx;exact there b o' (neC b o e hx) e1
 ·obtain⟨m1,e1⟩:=I.base.tbls b ps e;obtain⟨m2,e2⟩:=tbls b _ e1;exact⟨m1++m2,by rw[e2,Array.append_assoc]⟩
 ·obtain⟨m,hn,hl⟩:=I.loc;refine⟨m,ns m hn,λi x v e1 e2 e3=>?_⟩;obtain⟨u,r,l⟩:=hl i x v e1 e2 e3;refine⟨u,r,?_⟩
  rcases l with l|⟨k,c,e,z⟩
  ·exact .inl l
  ·exact .inr ⟨k,c,e,cellK x c e _ z⟩
 ·obtain⟨v,z⟩:=I.cell x c e;exact⟨v,cellK x c e v z⟩
 ·obtain⟨m,⟨o,_,_,ho,_⟩,_⟩:=I.loc;exact free _ o (λz=>(hch _ z).2.1 rfl) ho I.free
 ·obtain⟨v,o,ho,hd⟩:=I.cell x c e;exact free c o (λz=>(hch c z).2.2.1 x c e rfl) ho (I.freeC x c e)
 ·obtain⟨e,n,ne,nf,d⟩:=I.pin p hp;have nch:p.1∉ch:=λz=>(hch p.1 z).2.2.2 p hp rfl;exact⟨keep p.1 p.2 ne nf nch e n,free p.1 p.2 nch e n,ne,nf,d⟩
def Inv.un{t':Nat}(I:Inv X pins σ H s)(u:Un X.fs [] H H' s.heap h')(hok:uh X.prog X.w H' h'):Inv X pins σ H' { s with heap:=h',toks:=t' }:=by
 obtain⟨m,⟨o,es,ep,ho,r⟩,_⟩:=id I.loc;obtain⟨sl,hL⟩:=u.any ho I.free (by simp);exact I.step (g':=s.gens) (d':=s.drawn) (ch:=[]) (nofun) (λb o _ hb _ e n=>u.keep b o e n hb (by simp)) (λb o _ hb _ e n=>u.slot b o e n hb (by simp)) (λb o _ e n=>u.free b o e n (by simp)) (λb o _ e=>u.there b o e (by simp)) u.tups u.frzs u.tbls (λm' hm=>by
  obtain⟨o',es',ep',ho',r'⟩:=hm;rw[ho]at ho';cases ho';exact⟨_,es',ep',hL,r'⟩) hok I.bare
def Inv.call{g':Array GenState}{t':Nat}{d':Drawn}{ch:ar}(I:Inv X pins σ H s)(u:Un (frs X.stack) ch H H' s.heap h')(hok:uh X.prog X.w H' h')(hg:AllBare g')
  (hch:∀b∈ch,(b∈X.ex\/X.s₀.heap.objs.size<=b)/\b≠X.env.locals/\(∀x c,X.env.cells.lookup x=some c->c≠b)/\∀p∈X.pn++pins,p.1≠b) :
  Inv X pins σ H' { s with heap:=h',gens:=g',drawn:=d',toks:=t' }:=by
 obtain⟨m,⟨o,es,ep,ho,r⟩,_⟩:=id I.loc;obtain⟨sl,hL⟩:=u.any ho I.free λz=>(hch _ z).2.1 rfl;exact I.step (ch:=ch) hch (λb o hL hb hc e n=>u.keep b o e n (λz=>(bP.mp (I.DL b z)).elim hL hb) hc) (λb o _ _ hc e n=>u.any e n hc) (λb o hc e n=>u.free b o e n hc) (λb o hc e=>u.there b o e hc) u.tups u.frzs u.tbls (λm' hm=>by
  obtain⟨o',es',ep',ho',r'⟩:=hm;rw[ho]at ho';cases ho';exact⟨_,es',ep',hL,r'⟩) hok hg
def Inv.turned{t':Nat}{it:ak}(I:Inv X pins σ H s)(k:∀b o,b≠it->s.heap.get? b=some o->h'.get? b=some o)(hn:H it=none)(hL:it≠X.env.locals)
  (h1:it∈X.ex\/X.s₀.heap.objs.size<=it) (h2:∀x c,X.env.cells.lookup x=some c->c≠it) (h3:∀p∈X.pn++pins,p.1≠it):Inv X pins σ H { s with heap:=h',toks:=t' }:=by
 have nit:∀b u,H b=some u->b≠it:=λb u e z=>by rw[z,hn]at e;cases e
 refine I.step (g':=s.gens) (d':=s.drawn) (ch:=[it]) (λb hb=>?_) (λb o _ _ hc e _=>k b o (λz=>hc (by simp[z])) e) (λb o _ _ hc e _=>⟨o.slots,k b o (λz=>hc (by simp[z])) e⟩) (λ_ _ _ _ n=>n)
  (λb o hc e=>⟨o,k b o (λz=>hc (by simp[z])) e⟩) (λ_ _ e=>e) (λ_ _ _ e=>e) (λb ps e=>⟨#[],by rw[e];simp⟩) (λm hm=>?_) (λb u e=>?_) I.bare
 ·have e:b=it:=by simpa using hb
  subst e;exact⟨h1,hL,h2,h3⟩
 ·obtain⟨o,es,ep,ho,r⟩:=hm;exact⟨o,es,ep,k _ o (gr hL) ho,r⟩
 ·refine(I.hok b u e).stay (λc v hc q=>k c v ?_ q) (λ_ q=>q) λ_ _ q=>q
  rcases hc with z|z
  ·rw[z];exact nit b u e
  ·exact nit c _ z
def Inv.tok(I:Inv X pins σ H s)(t:Nat):Inv X pins σ H { s with toks:=t }:=I.un (h':=s.heap) (t':=t) Un.refl I.hok
def Inv.kept{t':Nat}(I:Inv X pins σ H s)(k:∀b u,s.heap.get? b=some u->h'.get? b=some u):Inv X pins σ H { s with heap:=h',toks:=t' }:=I.un (Un.kept k) (I.hok.kept k)
def Inv.laid{a:ak}{t':Nat}(I:Inv X pins σ H s)(k:∀b u,s.heap.get? b=some u->h'.get? b=some u)(hp:s.heap.objs.size<=a)(new:kR X.prog X.w (upd H a o) h' a o) :
  Inv X pins σ (upd H a o) { s with heap:=h',toks:=t' }:=I.un (Un.laid k hp (I.hok.fresh hp)) (I.hok.laid k hp new)
def Inv.write{x e:ak}{t':Nat}(I:Inv X pins σ H s)(mu:Td (H x))(he:e=x\/H e=some (.own x))(k:∀b u,b≠e->s.heap.get? b=some u->h'.get? b=some u)(heo:∃u,h'.get? e=some u)
  (new:kR X.prog X.w (upd H x o) h' x o):Inv X pins σ (upd H x o) { s with heap:=h',toks:=t' }:=I.un (Un.write mu he k heo) (I.hok.write mu he k heo new)
def Inv.EJ{pins':bj}(I:Inv X pins σ H s)(h:∀p∈pins',s.heap.get? p.1=some p.2/\H p.1=none/\p.1≠X.env.locals/\p.1∉X.fs/\∀v,p.2.data≠.cell v):Inv X pins' σ H s:=
 ⟨I.ok,I.os,I.bare,I.base,I.loc,I.cell,I.free,I.freeC,λp hp=>(bu.mp hp).elim (λz=>I.pin p (bS _ z)) (h p),I.hok,I.len⟩
def BB{N:am}(hN:N.Nodup){i j:Nat}{x:Str}(a:N[i]?=some x)(b:N[j]?=some x):i=j:=by
 obtain⟨h1,e1⟩:=aK.mp a;obtain⟨h2,e2⟩:=aK.mp b;exact(c8 hN).mp (e1.trans e2.symm)
def G7{A:aA}{E:af->aC->Prop}{i:Nat}{x:Str}{v:V}{Q:Unit->aC->Prop}(I:Inv X pins σ H s)(hN:X.N.Nodup)(hi:X.N[i]?=some x)(hx:Loc X.env.scope x)(r:RelV v u)
  (h:∀s',Inv X pins (σ.set i (some v)) H s'->(∃a,Heap.SameBut a s.heap s'.heap/\(a=X.env.locals\/X.env.cells.lookup x=some a))->Q Unit.unit s') (hf:X.fn x=true\/X.env.scope.names.lookup x=some .local:=by first|exact .inl rfl|exact .inr rfl|assumption):wpAny M A (storeName X.env x u) Q E s:=by
 obtain⟨m,hn,hl⟩:=id I.loc;have hcls:(X.env.scope.kind == .class || (X.env.scope.kind == .module && X.env.locals != X.env.globals))=false:=by rw[I.ok.kind];rfl
 have hiσ:i<σ.length:=by rw[I.len];exact(aK.mp hi).1
 have Ql:=I.Ql;have tracked:∀{a:ak} {h':aq},(∃o,s.heap.get? a=some o/\H a=none)->Heap.SameBut a s.heap h'->uh X.prog X.w H h':=λ{a h'} ha hs b ob e=>by
  obtain⟨_,_,hfree⟩:=ha;refine(I.hok b ob e).stay (λc w' hc q=>(hs.2 c ?_).trans q) (λ_ q=>q) λ_ _ q=>q;rintro rfl
  rcases hc with rfl|hc
  ·rw[hfree]at e;cases e
  ·rw[hfree]at hc;cases hc
 rcases hx with hk|hk
 ·refine wpAny_storeName_local hk hn (λh' hn' hs=>?_) hcls;obtain⟨oL,_,_,hoL,_⟩:=id hn;refine h _ ⟨I.ok,I.os,I.bare,⟨λb o e n hb hx=>?_,λb o e n hb hx=>?_,I.base.free,λb o e hx=>?_,I.base.tups,I.base.frzs,I.base.tbls⟩,⟨_,hn',λj y v' e1 e2 e3=>?_⟩,λy c e=>?_,I.free,I.freeC,λp hp=>?_,tracked ⟨oL,hoL,I.free⟩ hs,by simpa using I.len⟩ ⟨_,hs,.inl rfl⟩
  ·exact(hs.2 b (bE (bQ (aX e) I.ok.above))).trans (I.base.keep b o e n hb hx)
  ·obtain⟨sl,e1⟩:=I.base.slot b o e n hb hx;exact⟨sl,(hs.2 b (bE (bQ (aX e) I.ok.above))).trans e1⟩
  ·obtain⟨o',e1⟩:=I.base.there b o e hx;exact⟨o',(hs.2 b (bE (bQ (aX e) I.ok.above))).trans e1⟩
  ·by_cases hj:j=i
   ·subst hj;rw[hi]at e1;cases e1;rw[bM hiσ]at e2
    cases e2
    exact⟨u,r,.inl ⟨hk,by simp⟩⟩
   ·rw[bK (gr hj)]at e2;obtain⟨u',r',q⟩:=hl j y v' e1 e2 e3;refine⟨u',r',?_⟩
    rcases q with⟨k,e⟩|⟨k,c,e,z⟩
    ·refine .inl ⟨k,?_⟩;have:y≠x:=λe=>hj (BB hN e1 (e ▸ hi));simp[this,e]
    ·exact .inr ⟨k,c,e,z.sameBut hs (Ql y c e)⟩
  ·obtain⟨w',z⟩:=I.cell y c e;exact⟨w',z.sameBut hs (Ql y c e)⟩
  ·obtain⟨e,n,ne,nf,d⟩:=I.pin p hp;exact⟨(hs.2 p.1 ne).trans e,n,ne,nf,d⟩
 ·have hfn:X.fn x=true:=by
   rcases hf with z|z
   ·exact z
   ·rw[z]at hk;cases hk
  obtain⟨c,hc⟩:=I.ok.has x (.inl hk);obtain⟨w',z⟩:=I.cell x c hc;refine wpAny_storeName_cell I.ok.kind hk hc z (λh' hc' hs=>?_);obtain⟨oc,hoc,hocd⟩:=id z;refine h { s with heap:=h' } ⟨I.ok,I.os,I.bare,⟨λb o e n hb hx=>?_,λb o e n hb hx=>?_,I.base.free,λb o e hx=>?_,I.base.tups,I.base.frzs,I.base.tbls⟩,⟨m,hn.sameBut hs (gr (Ql x c hc)),λj y v' e1 e2 e3=>?_⟩,λy c' e=>?_,I.free,I.freeC,λp hp=>?_,tracked ⟨oc,hoc,I.freeC x c hc⟩ hs,by simpa using I.len⟩ ⟨c,hs,.inr hc⟩
  ·exact(hs.2 b (bE (bQ (aX e) (I.ok.cab x c hfn hc)))).trans (I.base.keep b o e n hb hx)
  ·obtain⟨sl,e1⟩:=I.base.slot b o e n hb hx;exact⟨sl,(hs.2 b (bE (bQ (aX e) (I.ok.cab x c hfn hc)))).trans e1⟩
  ·obtain⟨o',e1⟩:=I.base.there b o e hx;exact⟨o',(hs.2 b (bE (bQ (aX e) (I.ok.cab x c hfn hc)))).trans e1⟩
  ·by_cases hj:j=i
   ·subst hj;rw[hi]at e1;cases e1;rw[bM hiσ]at e2
    cases e2
    exact⟨u,r,.inr ⟨.inl hk,c,hc,hc'⟩⟩
   ·rw[bK (gr hj)]at e2;obtain⟨u',r',q⟩:=hl j y v' e1 e2 e3;refine⟨u',r',?_⟩
    rcases q with q|⟨k,c',e,z'⟩
    ·exact .inl q
    ·refine .inr ⟨k,c',e,z'.sameBut hs ?_⟩;rintro rfl;exact hj (BB hN e1 (I.ok.inj _ _ _ e hc ▸ hi))
  ·by_cases hcc:c'=c
   ·subst hcc;exact⟨_,hc'⟩
   ·obtain⟨w2,z2⟩:=I.cell y c' e;exact⟨w2,z2.sameBut hs hcc⟩
  ·obtain⟨e,n,ne,nf,d⟩:=I.pin p hp;refine⟨(hs.2 p.1 ?_).trans e,n,ne,nf,d⟩;intro q;rw[q,hoc]at e;have q':oc=p.2:=aW e;exact d w' (by rw[<- q'];exact hocd)
def yg{A:aA}{E:af->aC->Prop}{i:Nat}{x:Str}{v:V}{Q:Unit->aC->Prop}(I:Inv X pins σ H s)(hN:X.N.Nodup)(hi:X.N[i]?=some x)(hx:Loc X.env.scope x)(r:RelV v u)
  (h:∀s',Inv X pins (σ.set i (some v)) H s'->Q Unit.unit s') (hf:X.fn x=true\/X.env.scope.names.lookup x=some .local:=by first|exact .inl rfl|exact .inr rfl|assumption):wpAny M A (storeName X.env x u) Q E s:=
 G7 I hN hi hx r (λs' I' _=>h s' I') hf
def Inv.JN{s':aC}{ch:ar}(I:Inv X pins σ H s)(ho:s'.os=s.os)(u:Un (frs X.stack) ch H H' s.heap s'.heap)(hok:uh X.prog X.w H' s'.heap)(hg:AllBare s'.gens)
  (hch:∀b∈ch,(b∈X.ex\/X.s₀.heap.objs.size<=b)/\b≠X.env.locals/\(∀x c,X.env.cells.lookup x=some c->c≠b)/\∀p∈X.pn++pins,p.1≠b):Inv X pins σ H' s':=by
 obtain⟨h',g',d',t',o'⟩:=s';have e:o'=s.os:=ho;subst e;exact I.call (g':=g') (t':=t') (d':=d') u hok hg hch
end
meta abbrev XK:=af->Option ak->Hp->Prop
meta abbrev St:=List (Option V)
meta abbrev VK:=V->Hp->Prop
meta abbrev TE:=St->Hp->VK->Prop
meta abbrev TT:=St->Hp->(Bool->Hp->Prop)->Prop
meta abbrev TA:=St->Hp->(List V->Hp->Prop)->Prop
structure Ends where
 nx:St->Hp->Prop
 rt:VK
 bk:St->Hp->Prop:=λ_ _=>False
 ct:St->Hp->Prop:=λ_ _=>False
meta abbrev TS:=Ends->St->Hp->Prop
abbrev EP (X:Cx)(pins:bj)(σ:St)(Q:VK)(u:af)(s':aC):Prop:=∃v H',Inv X pins σ H' s'/\RelV v u/\Q v H'
abbrev TP (X:Cx)(pins:bj)(σ:St)(Q:Bool->Hp->Prop)(b:Bool)(s':aC):Prop:=∃H',Inv X pins σ H' s'/\Q b H'
abbrev AP (X:Cx)(pins:bj)(σ:St)(Q:List V->Hp->Prop)(us:ap)(s':aC):Prop:=∃vs H',Inv X pins σ H' s'/\Vals vs us/\Q vs H'
abbrev SP (X:Cx)(pins:bj)(D:Ends)(f:Flow)(s':aC):Prop:=
 match f with
 | .next=>∃σ' H',Inv X pins σ' H' s'/\D.nx σ' H'
 | .brk=>∃σ' H',Inv X pins σ' H' s'/\D.bk σ' H'
 | .cont=>∃σ' H',Inv X pins σ' H' s'/\D.ct σ' H'
 | .ret u=>∃v σ' H',Inv X pins σ' H' s'/\RelV v u/\D.rt v H'
abbrev PE (X:Cx)(e:aE)(t:TE):Prop:=
 ∀(pins:bj) (s:aC) (σ:St) (H:Hp) (Q:VK),Inv X pins σ H s->t σ H Q->wpAny (model X.prog X.w) X.A (eval e X.env) (EP X pins σ Q) X.xe s
abbrev PT (X:Cx)(e:aE)(t:TT):Prop:=
 ∀(pins:bj) (s:aC) (σ:St) (H:Hp) (Q:Bool->Hp->Prop),Inv X pins σ H s->t σ H Q->wpAny (model X.prog X.w) X.A (isTrue e X.env (eval e X.env)) (TP X pins σ Q) X.xe s
abbrev PW (X:Cx)(e:aE)(t:TT):Prop:=
 ∀(whole:Sem af) (pins:bj) (s:aC) (σ:St) (H:Hp) (Q:Bool->Hp->Prop),Inv X pins σ H s->t σ H Q->wpAny (model X.prog X.w) X.A (isTrue e X.env whole) (TP X pins σ Q) X.xe s
abbrev PA (X:Cx)(es:List aE)(t:TA):Prop:=
 ∀(pos:Pos) (pins:bj) (s:aC) (σ:St) (H:Hp) (Q:List V->Hp->Prop),Inv X pins σ H s->t σ H Q->wpAny (model X.prog X.w) X.A (spliced (backTo pos (starEach es X.env))) (AP X pins σ Q) X.xe s
abbrev PS (X:Cx)(st:aF)(t:TS):Prop:=
 ∀(pins:bj) (s:aC) (σ:St) (H:Hp) (D:Ends),Inv X pins σ H s->t D σ H->wpAny (model X.prog X.w) X.A (exec st X.env) (SP X pins D) X.xe s
abbrev A1 (X:Cx)(st:List aF)(t:TS):Prop:=
 ∀(pins:bj) (s:aC) (σ:St) (H:Hp) (D:Ends),Inv X pins σ H s->t D σ H->wpAny (model X.prog X.w) X.A (execs st X.env) (SP X pins D) X.xe s
def kW{α:Type}{t:Sem α}{Q Q':α->aC->Prop}{A:aA}{E:af->aC->Prop}(h:wpAny M A t Q E s)(hQ:∀a s,Q a s->Q' a s):wpAny M A t Q' E s:=fu h hQ λ_ _ x=>x
section
variable {X:Cx}
abbrev UP (i:Nat):TE:=λσ H Q=>∃v,σ[i]?=some (some v)/\Q v H
abbrev tC (v:V):TE:=λ_ H Q=>Q v H
def IC{i:Nat}{x:Str}(hN:X.N[i]?=some x)(hv:SW X.env.scope x)(hd:(x == ("__debug__" : Str))=false:=by decide)(hcd:(x == ("__classdict__" : Str))=false:=by decide):PE X (.Name x pos) (UP i):=by
 x_go;obtain⟨v,e,h⟩:=h;obtain⟨m,hn,hl⟩:=I.loc;obtain⟨u,r,l⟩:=hl i x v hN e hv;have fin:EP X pins σ Q u s:=⟨v,H,I,r,h⟩
 rcases l with⟨hk,hm⟩|⟨hk,c,hc,hcell⟩
 ·exact wpAny_Name (wpAny_loadName_local I.ok.kind hk hn hm fin) hd
 ·rcases hk with hk|hk
  ·exact wpAny_Name (wpAny_loadName_cell I.ok.kind hk hc hcell fin) hd
  ·exact wpAny_Name (wpAny_loadName_free I.ok.kind hk hc hcell fin hcd) hd
def DN{i j pos}:PE X (.Constant (.int i) j pos) (tC (.int i)):=λ_ _ _ H _ I h=>wpAny_Constant_int ⟨.int i,H,I.tok _,⟨_,rfl⟩,h⟩
def UI{b j pos}:PE X (.Constant (.bool b) j pos) (tC (.bl b)):=λ_ _ _ H _ I h=>Constant_bool ⟨.bl b,H,I,rfl,h⟩
def Sf{j pos}:PE X (.Constant .none j pos) (tC .non):=λ_ _ _ H _ I h=>Constant_none ⟨.non,H,I,rfl,h⟩
abbrev Gl (X:Cx)(x:Str):Prop:=X.env.kindOf x=some .globalImplicit
def Ff{E:af->aC->Prop}{H:Hp}{x:Str}{Q:af->aC->Prop}(I:Inv X pins σ H s)(hg:Gl X x)(hm:X.mg x=some u)(h:Q u s)
  (hd:(x == ("__debug__" : Str))=false:=by decide):wpAny (model X.prog X.w) X.A (eval (.Name x pos) X.env) Q E s:=
 Calls.Name_function_global I.ok.kind hg (Calls.loadGlobal_global (by rw[I.ok.glob];exact I.mod.glob.keeps I.bk) hm h) hd
def xy{E:af->aC->Prop}{H:Hp}{x:Str}{Q:af->aC->Prop}(I:Inv X pins σ H s)(hg:Gl X x)(hm:X.mg x=none)(hv:bootBuiltins x=some u)(h:Q u s)
  (hn:x ≠ "__name__" := by decide) (hd:(x == ("__debug__" : Str))=false:=by decide):wpAny (model X.prog X.w) X.A (eval (.Name x pos) X.env) Q E s:=by
 obtain⟨mb,h1,h2⟩:=I.mod.blt;exact Calls.Name_function_global I.ok.kind hg (Calls.loadGlobal_builtin (by rw[I.ok.glob];exact I.mod.glob.keeps I.bk) hm (by rw[I.ok.blt];exact h1.keeps I.bk) ((h2 x hn).trans hv) h) hd
def Nz{x:Str}{v:V}(hg:Gl X x)(hm:X.mg x=some u)(r:RelV v u)(hd:(x == ("__debug__" : Str))=false:=by decide):PE X (.Name x pos) (tC v):=
 λ_ _ _ H _ I h=>Ff I hg hm ⟨v,H,I,r,h⟩ hd
def ND{x:Str}{v:V}(hg:Gl X x)(hm:X.mg x=none)(hv:bootBuiltins x=some u)(r:RelV v u)(hn:x ≠ "__name__" := by decide)(hd:(x == ("__debug__" : Str))=false:=by decide):PE X (.Name x pos) (tC v):=
 λ_ _ _ H _ I h=>xy I hg hm hv ⟨v,H,I,r,h⟩ hn hd
variable {a b:aE}{ta tb:TE}{pos:Pos}
variable {tA tB':TT}{rest:List aE}
abbrev W8 (t u:TT):TT:=λσ H Q=>t σ H λc H1=>if c=true then Q true H1 else u σ H1 Q
abbrev Vw (t:TT):TT:=λσ H Q=>t σ H λc H1=>Q (!c) H1
def Rt(ha:PT X a tA):PW X (.BoolOp .Or [a] pos) tA:=by
 intro wh pins s σ H Q I h;refine isTrue_or (kW (ha pins s σ H Q I h) λc s1 e=>?_)
 cases c with
 | false=>exact isTrue_or_nil e
 | true=>exact e
def Ux(ha:PT X a tA)(hb:PW X (.BoolOp .Or (b::rest) pos) tB'):PW X (.BoolOp .Or (a::b::rest) pos) (W8 tA tB'):=by
 intro wh pins s σ H Q I h;refine isTrue_or (kW (ha pins s σ H _ I h) λc s1 ⟨H1,I1,q1⟩=>?_)
 cases c with
 | true=>exact⟨H1,I1,q1⟩
 | false=>exact hb wh pins s1 σ H1 Q I1 q1
def RY(ha:PT X a tA):PT X (.UnaryOp .Not a pos) (Vw tA):=by
 x_go;exact isTrue_not (ha pins s σ H (λc H1=>Q (!c) H1) I h)
abbrev Ue (ta tb:TE):TE:=λσ H Q=>ta σ H λx H1=>∃c,x=.bl c/\if c=true then tb σ H1 Q else Q (.bl false) H1
abbrev Tt (ta:TE):TE:=λσ H Q=>ta σ H λx H1=>∃c,x=.bl c/\Q (.bl (!c)) H1
def PY{op}{t:TE}(h:PE X a t):PE X (.BoolOp op [a] pos) t:=λpins s σ H Q I hw=>BoolOp_one (h pins s σ H Q I hw)
def SJ(ha:PE X a ta)(hb:PE X (.BoolOp .And (b::rest) pos) tb):PE X (.BoolOp .And (a::b::rest) pos) (Ue ta tb):=by
 x_go;refine BoolOp_and (kW (ha pins s σ H _ I h) λv s1 ⟨x,H1,I1,r1,q1⟩=>?_);obtain⟨c,rfl,q1⟩:=q1
 cases r1
 refine dD ?_
 cases c with
 | true=>exact hb pins s1 σ H1 Q I1 q1
 | false=>exact⟨.bl false,H1,I1,rfl,q1⟩
def Qp(ha:PE X a ta):PE X (.UnaryOp .Not a pos) (Tt ta):=by
 x_go;refine UnaryOp_ (kW (ha pins s σ H _ I h) λv s1 ⟨x,H1,I1,r1,q1⟩=>?_);obtain⟨c,rfl,q1⟩:=q1
 cases r1
 exact not_of (dD ⟨.bl (!c),H1,I1,rfl,q1⟩)
end
abbrev nH (K:au)(H:Hp)(a:ak)(xs:List V):Prop:=
 Rd H a (.lst xs) \/
  ∃(o:Obj) (its:Array af) (n:Nat),K.lookup a=some o/\o.cls=.type "list" /\ o.dict=none/\o.data=.seq its n/\its.size<=sizeLine/\Vals xs its.toList
abbrev ni (K:au)(H:Hp)(a:ak)(xs:List V):Prop:=
 Rd H a (.tup xs) \/
  ∃(o:Obj) (its:Array af) (n:Nat),K.lookup a=some o/\o.cls=.type "tuple" /\ o.dict=none/\o.data=.seq its n/\its.size<=sizeLine/\Vals xs its.toList
abbrev Wc:af->Option V
 | .none=>some .non
 | .bool b=>some (.bl b)
 | .int i _=>some (.int i)
 | .str x _=>some (.str x)
 | .bytes b _=>some (.byt b)
 | .float b _=>some (.flt b)
 | .ref a=>some (.ref a)
 | .type n=>some (.ty n)
 | _=>none
def RelV.abs{x:V}(r:RelV x u):Wc u=some x:=by
 cases x with
 | non=>cases r;rfl
 | bl _=>cases r;rfl
 | int _=>obtain⟨t,rfl⟩:=r;rfl
 | str _=>obtain⟨t,rfl⟩:=r;rfl
 | byt _=>obtain⟨t,rfl⟩:=r;rfl
 | flt _=>obtain⟨t,rfl⟩:=r;rfl
 | ref _=>cases r;rfl
 | ty _=>cases r;rfl
def RelV.inj{x:V}(r:RelV x u)(q:RelV y u):x=y:=aW (r.abs.symm.trans q.abs)
theorem Vals.inj:∀{xs ys:List V}{us:ap},Vals xs us->Vals ys us->xs=ys
 | _,_,_,.nil,.nil=>rfl
 | _,_,_,.cons r t,.cons r' t'=>by rw[r.inj r',Vals.inj t t']
section
variable {X:Cx}{pins:bj}{σ:St}{H:Hp}{s:aC}{a:ak}{xs ys:List V}
def nH.of{K:au}(h:H a=some (.lst xs)):nH K H a xs:=.inl (.inl h)
def ni.of{K:au}(h:H a=some (.tup xs)):ni K H a xs:=.inl (.inl h)
def Inv.list(I:Inv X pins σ H s)(h:nH X.K H a xs):∃its:ap,Vals xs its/\PlainL s.heap a its.toArray/\xs.length<=sizeLine:=by
 rcases h with h|⟨o,its,n,hk,hc,hd,hs,hz,r⟩
 ·obtain⟨z,its,n,r,e⟩:=h.ok I.hok;exact⟨its,r,⟨_,n,e,rfl,rfl,rfl⟩,z⟩
 ·refine⟨its.toList,r,⟨o,n,I.AK a o hk,hc,hd,by simpa using hs⟩,?_⟩;have e:=r.length;dsimp[cY]at e
  lia
def Inv.tuple(I:Inv X pins σ H s)(h:ni X.K H a xs):∃its:ap,Vals xs its/\IsTup s.heap a its.toArray/\xs.length<=sizeLine:=by
 rcases h with h|⟨o,its,n,hk,hc,_,hs,hz,r⟩
 ·obtain⟨z,its,r,p⟩:=h.ok I.hok;exact⟨its,r,p.tup,z⟩
 ·refine⟨its.toList,r,⟨o,I.AK a o hk,hc,n,by simpa using hs⟩,?_⟩;have e:=r.length;dsimp[cY]at e
  lia
def Inv.Qg(I:Inv X pins σ H s)(h:ni X.K H a xs):∃o,s.heap.get? a=some o/\o.cls=.type "tuple" /\ o.dict=none:=by
 rcases h with h|⟨o,its,n,hk,hc,hd,hs,hz,r⟩
 ·obtain⟨z,its,r,o,e,c,d,_⟩:=h.ok I.hok;exact⟨o,e,c,d⟩
 ·exact⟨o,I.AK a o hk,hc,hd⟩
def Inv.Ke(I:Inv X pins σ H s)(h:nH X.K H a xs)(h':nH X.K H a ys):xs=ys:=by
 obtain⟨its,r,⟨o,n,e,_,_,d⟩,_⟩:=I.list h;obtain⟨its',r',⟨o',n',e',_,_,d'⟩,_⟩:=I.list h';rw[e]at e';cases e';rw[d]at d'
 injection d' with d1 _
 have:its=its':=by simpa using dO Array.toList d1
 subst this;exact r.inj r'
def Inv.zg(I:Inv X pins σ H s)(h:ni X.K H a xs)(h':ni X.K H a ys):xs=ys:=by
 obtain⟨its,r,⟨o,e,_,n,d⟩,_⟩:=I.tuple h;obtain⟨its',r',⟨o',e',_,n',d'⟩,_⟩:=I.tuple h';rw[e]at e';cases e';rw[d]at d'
 injection d' with d1 _
 have:its=its':=by simpa using dO Array.toList d1
 subst this;exact r.inj r'
end
meta abbrev Cx.yU (X:Cx)(E:af->aC->Prop):Cx:={ X with xe:=E }
meta abbrev Cx.UY (X:Cx):Cx:=X.yU λ_ _=>False
def Cx.Ok.yU{X:Cx}(ok:X.Ok)(E:af->aC->Prop):(X.yU E).Ok:=
 ⟨ok.mod,ok.kind,ok.glob,ok.blt,ok.above,ok.inj,ok.has,ok.cab,ok.hd,ok.frames,ok.stk,ok.exf,ok.bs,ok.bsz,ok.noex,ok.exfs,ok.xE,ok.frf⟩
def Cx.Ok.qZ{X:Cx}{E:af->aC->Prop}(ok:(X.yU E).Ok):X.Ok:=
 ⟨ok.mod,ok.kind,ok.glob,ok.blt,ok.above,ok.inj,ok.has,ok.cab,ok.hd,ok.frames,ok.stk,ok.exf,ok.bs,ok.bsz,ok.noex,ok.exfs,ok.xE,ok.frf⟩
section
variable {X:Cx}{pins:bj}{σ:St}{H:Hp}{s:aC}{E:af->aC->Prop}
def Inv.yU(I:Inv X pins σ H s)(E:af->aC->Prop):Inv (X.yU E) pins σ H s:=⟨I.ok.yU E,I.os,I.bare,I.base,I.loc,I.cell,I.free,I.freeC,I.pin,I.hok,I.len⟩
def Inv.qZ(I:Inv (X.yU E) pins σ H s):Inv X pins σ H s:=⟨I.ok.qZ,I.os,I.bare,I.base,I.loc,I.cell,I.free,I.freeC,I.pin,I.hok,I.len⟩
def SP.qZ{D:Ends}{f:Flow}(h:SP (X.yU E) pins D f s'):SP X pins D f s':=by
 cases f with
 | next=>obtain⟨σ',H',I,q⟩:=h;exact⟨σ',H',I.qZ,q⟩
 | brk=>obtain⟨σ',H',I,q⟩:=h;exact⟨σ',H',I.qZ,q⟩
 | cont=>obtain⟨σ',H',I,q⟩:=h;exact⟨σ',H',I.qZ,q⟩
 | ret u=>obtain⟨v,σ',H',I,r,q⟩:=h;exact⟨v,σ',H',I.qZ,r,q⟩
def A1.UY{st:List aF}{t:TS}(h:A1 X.UY st t):A1 X st t:=λpins s σ H D I hw=>
 fu (h pins s σ H D (I.yU _) hw) (λ_ _ q=>q.qZ) λ_ _ z=>False.elim z
end
section
variable {X:Cx}{st:aF}{rest:List aF}{t u:TS}{e:aE}{te:TE}{pos:Pos}
abbrev UU:TS:=λD σ H=>D.nx σ H
abbrev Um (t u:TS):TS:=λD σ H=>t { D with nx:=u D } σ H
def MW:A1 X [] UU:=λ_ _ σ H _ I h=>iI ⟨σ,H,I,h⟩
def JV(h1:PS X st t)(h2:A1 X rest u):A1 X (st::rest) (Um t u):=by
 ksr_p;refine wpAny_execs_cons (kW (h1 pins s σ H { D with nx:=u D } I h) λf s1 q=>?_)
 cases f with
 | next=>
  obtain⟨σ',H',I',q⟩:=q;exact h2 pins s1 σ' H' D I' q
 | ret v=>exact q
 | brk=>exact q
 | cont=>exact q
def Ni(h1:PS X st t):A1 X [st] t:=by
 ksr_p;refine wpAny_execs_cons (kW (h1 pins s σ H D I h) λf s1 q=>?_)
 cases f with
 | next=>exact iI q
 | ret v=>exact q
 | brk=>exact q
 | cont=>exact q
def Inv.quiet{H:Hp}(I:Inv X pins σ H s):interactive X.env=false:=by simp[interactive,I.ok.kind]
abbrev TN (te:TE):TS:=λD σ H=>te σ H λ_ H1=>D.nx σ H1
def Nl(he:PE X e te)(hs:swapsWith e none pos.line X.env=pure false:=by rfl):PS X (.Expr e pos) (TN te):=by
 ksr_p;exact wpAny_Expr_any (kW (he pins s σ H _ I h) λv s1 ⟨x,H1,I1,r1,q1⟩=>⟨σ,H1,I1,q1⟩) I.quiet hs
abbrev VV (te:TE):TS:=λD σ H=>te σ H D.rt
def Q8(he:PE X e te):PS X (.Return (some e) pos) (VV te):=by
 ksr_p;exact wpAny_Return_some (kW (he pins s σ H _ I h) λv s1 ⟨x,H1,I1,r1,q1⟩=>⟨x,σ,H1,I1,r1,q1⟩)
abbrev Ub:TS:=λD _ H=>D.rt .non H
def NY:PS X (.Return none pos) Ub:=λ_ _ σ H _ I h=>wpAny_Return_none ⟨.non,σ,H,I,rfl,h⟩
abbrev WE (c:TT)(t u:TS):TS:=λD σ H=>c σ H λb H1=>if b=true then t D σ H1 else u D σ H1
def Uo{c:aE}{a:List aF}{tc:TT}(hc:PT X c tc)(ha:A1 X a t)(hb:A1 X b u):PS X (.If c a b pos) (WE tc t u):=by
 ksr_p;refine wpAny_If (kW (hc pins s σ H _ I h) λd s1 ⟨H1,I1,q1⟩=>?_)
 cases d with
 | true=>exact ha pins s1 σ H1 D I1 q1
 | false=>exact hb pins s1 σ H1 D I1 q1
abbrev QD:TS:=λ_ _ _=>False
def JI:PS X st QD:=λ_ _ _ _ _ _ h=>h.elim
end
meta abbrev TG:=V->St->Hp->(St->Hp->Prop)->Prop
meta abbrev Pd:=List V->St->Hp->(St->Hp->Prop)->Prop
abbrev PG (X:Cx)(target:aE)(t:TG):Prop:=
 ∀(pins:bj) (s:aC) (σ:St) (H:Hp) (v:V) (u:af) (Q:St->Hp->Prop),Inv X pins σ H s->RelV v u->t v σ H Q ->
  wpAny (model X.prog X.w) X.A (assign target X.env u) (λ_ s'=>∃σ' H',Inv X pins σ' H' s'/\Q σ' H') X.xe s
abbrev Tc (X:Cx)(ts:List aE)(t:Pd):Prop:=
 ∀(pins:bj) (s:aC) (σ:St) (H:Hp) (vs:List V) (us:ap) (Q:St->Hp->Prop),Inv X pins σ H s->Vals vs us->t vs σ H Q ->
  wpAny (model X.prog X.w) X.A (assignInOrder ((assignEach ts X.env).map (·.2)) us) (λ_ s'=>∃σ' H',Inv X pins σ' H' s'/\Q σ' H') X.xe s
meta abbrev CU:=V->V->V->Hp->(Hp->Prop)->Prop
abbrev GR (X:Cx)(t:CU):Prop:=
 ∀(pins:bj) (s:aC) (σ:St) (H:Hp) (o i v:V) (ov iv u:af) (Q:Hp->Prop),Inv X pins σ H s->RelV o ov->RelV i iv->RelV v u->t o i v H Q ->
  wpAny (model X.prog X.w) X.A (setItem ov iv u) (λ_ s'=>∃H',Inv X pins σ H' s'/\Q H') X.xe s
meta abbrev Sj:=V->V->Hp->VK->Prop
abbrev OA (X:Cx)(op:Operator)(t:Sj):Prop:=
 ∀(pins:bj) (s:aC) (σ:St) (H:Hp) (x y:V) (v u:af) (Q:VK),Inv X pins σ H s->RelV x v->RelV y u->t x y H Q ->
  wpAny (model X.prog X.w) X.A (inplaceOp op v u) (EP X pins σ Q) X.xe s
section
variable {X:Cx}{pos:Pos}
abbrev KS (i:Nat):TG:=λv σ H Q=>Q (σ.set i (some v)) H
def Gf{i:Nat}{x:Str}(hN:X.N.Nodup)(hi:X.N[i]?=some x)(hx:Loc X.env.scope x)(hf:X.fn x=true\/X.env.scope.names.lookup x=some .local:=by first|exact .inl rfl|exact .inr rfl|assumption):PG X (.Name x pos) (KS i):=by
 intro pins s σ H v u Q I r h;exact wpAny_assign_Name (yg I hN hi hx r (λs' I'=>⟨_,H,I',h⟩) hf)
abbrev WA:Pd:=λvs σ H Q=>vs=[]/\Q σ H
abbrev Tv (t:TG)(u:Pd):Pd:=λvs σ H Q=>∃v r,vs=v::r/\t v σ H λσ' H'=>u r σ' H' Q
def NP:Tc X [] WA:=by
 intro pins s σ H vs us Q I r h;obtain⟨e,h⟩:=h;subst e
 cases r
 exact assignInOrder_nil ⟨σ,H,I,h⟩
def J9{e:aE}{t:TG}{u:Pd}(h1:PG X e t)(h2:Tc X es u)
  (hs:(assignEach (e::es) X.env).map (·.2)=assign e X.env::(assignEach es X.env).map (·.2):=by rfl):Tc X (e::es) (Tv t u):=by
 intro pins s σ H vs us Q I r h;obtain⟨v,vr,e1,h⟩:=h;subst e1
 cases r with
 | cons r rr=>
  rw[hs];refine assignInOrder_cons (kW (h1 pins s σ H _ _ _ I r h) λ_ s1 ⟨σ1,H1,I1,q1⟩=>?_);exact h2 pins s1 σ1 H1 _ _ Q I1 rr q1
abbrev Wx (K:au)(n:Nat)(t:Pd):TG:=λv σ H Q=>∃a xs,v=.ref a/\ni K H a xs/\xs.length=n/\t xs σ H Q
def PK{k:Nat}{t:Pd}{n:Nat}(hc:X.calm=true)(h:Tc X es t)
  (hn:(assignEach es X.env).length=n:=by rfl) (hst:(assignEach es X.env).findIdx? (·.1)=none:=by rfl):PG X (.Tuple es k pos) (Wx X.K n t):=by
 intro pins s σ H v u Q I r hw;obtain⟨a,xs,e1,hq,hl,hw⟩:=hw;subst e1
 cases r
 obtain⟨its,rv,ht,hz⟩:=I.tuple hq;refine assign_Tuple_tuple (I.ok.hd hc) ht (by simp[hn,<- hl,rv.length]) hst λh' hx=>?_;have I1:Inv X pins σ H { s with heap:=h' }:=I.kept (t':=s.toks) λb o e=>hx b o (bE (aX e)) e;exact h pins _ σ H xs _ Q I1 (by simpa using rv) hw
abbrev Ws (to ti:TE)(t:CU):TG:=λv σ H Q=>to σ H λo H1=>ti σ H1 λi H2=>t o i v H2 λH3=>Q σ H3
def Ko{to ti:TE}{t:CU}(ho:PE X o to)(hi:PE X i ti)(hs:GR X t)
  (ha:∀v,assign (.Subscript o i pos) X.env v=(do
   let ov <- holding [v] (eval o X.env)
   let iv <- holding [v,ov] (eval i X.env)
   standAt pos
   holding [v,ov,iv] (setItem ov iv v)
   release [v,ov,iv] []):=by intro _;rfl):PG X (.Subscript o i pos) (Ws to ti t):=by
 intro pins s σ H v u Q I r h;rw[ha];refine aG (dj (kW (ho pins s σ H _ I h) λov s1 ⟨x,H1,I1,r1,q1⟩=>?_));refine aG (dj (kW (hi pins s1 σ H1 _ I1 q1) λiv s2 ⟨y,H2,I2,r2,q2⟩=>?_));refine aG (eT (aG (dj (kW (hs pins s2 σ H2 x y v ov iv u _ I2 r1 r2 r q2) λ_ s3 ⟨H3,I3,q3⟩=>?_))));exact wpAny_release ⟨σ,H3,I3,q3⟩
abbrev ME (te:TE)(g:TG):TS:=λD σ H=>te σ H λx H1=>g x σ H1 D.nx
def QF{tg e:aE}{te:TE}{g:TG}(he:PE X e te)(hg:PG X tg g)(hs:swapsWithSole [tg] e pos.line X.env=pure false:=by rfl)(hw:swappedStores [tg] e X.env=pure none:=by rfl)
  (h1:(assignEach [tg] X.env).map (·.2)=[assign tg X.env]:=by rfl):PS X (.Assign [tg] e pos) (ME te g):=by
 ksr_p;refine wpAny_Assign_stores (kW (he pins s σ H _ I h) λv s1 ⟨x,H1,I1,r1,q1⟩=>?_) hs hw;rw[h1];exact kW (hg pins s1 σ H1 x v _ I1 r1 q1) λ_ s2 q=>q
def P9{i:Nat}{x:Str}{e:aE}{te:TE}(hN:X.N.Nodup)(hi:X.N[i]?=some x)(hx:Loc X.env.scope x)(he:PE X e te)(hs:swapsWith e (some (.Name x pos')) pos.line X.env=pure false:=by rfl)(hf:X.fn x=true\/X.env.scope.names.lookup x=some .local:=by first|exact .inl rfl|exact .inr rfl|assumption) :
  PS X (.Assign [.Name x pos'] e pos) (ME te (KS i)):=by
 ksr_p;refine wpAny_Assign_Name (kW (he pins s σ H _ I h) λv s1 ⟨y,H1,I1,r1,q1⟩=>?_) hs;exact yg I1 hN hi hx r1 (λs2 I2=>⟨_,H1,I2,q1⟩) hf
abbrev Wz (i:Nat)(te:TE)(ti:Sj):TS:=λD σ H=>∃x,σ[i]?=some (some x)/\te σ H λy H1=>ti x y H1 λz H2=>D.nx (σ.set i (some z)) H2
def P5{i:Nat}{x:Str}{e:aE}{te:TE}{ti:Sj}(hN:X.N.Nodup)(hi:X.N[i]?=some x)(hx:Loc X.env.scope x)(he:PE X e te)(ho:OA X op ti)(hf:X.fn x=true\/X.env.scope.names.lookup x=some .local:=by first|exact .inl rfl|exact .inr rfl|assumption) :
  PS X (.AugAssign (.Name x pos') op e pos) (Wz i te ti):=by
 ksr_p;obtain⟨v,e1,h⟩:=h;obtain⟨m,hn,hl⟩:=I.loc;have vis:SW X.env.scope x:=by rcases hx with k|k;exact .inl k;exact .inr (.inl k)
 obtain⟨u,r,l⟩:=hl i x v hi e1 vis;refine wpAny_AugAssign_Name ?_;have go:wpAny (model X.prog X.w) X.A (eval e X.env) (λw s₂=>wpAny (model X.prog X.w) X.A (inplaceOp op u w) (λr s₃=>wpAny (model X.prog X.w) X.A (storeName X.env x r) (λ_=>SP X pins D .next) X.xe s₃) X.xe s₂) X.xe s:=by
  refine kW (he pins s σ H _ I h) λw s1 ⟨y,H1,I1,r1,q1⟩=>?_;refine kW (ho pins s1 σ H1 v y u w _ I1 r r1 q1) λz s2 ⟨zv,H2,I2,r2,q2⟩=>?_;exact yg I2 hN hi hx r2 (λs3 I3=>⟨_,H2,I3,q2⟩) hf
 rcases l with⟨hk,hm⟩|⟨hk,c,hc,hcell⟩
 ·exact wpAny_loadName_local I.ok.kind hk hn hm go
 ·rcases hk with hk|hk
  ·exact wpAny_loadName_cell I.ok.kind hk hc hcell go
  ·rcases hx with k|k
   ·have:X.env.scope.names.lookup x=some .free:=hk;rw[k]at this;cases this
   ·have:X.env.scope.names.lookup x=some .free:=hk;rw[k]at this;cases this
abbrev Tn (to ti te:TE)(tget:V->V->Hp->VK->Prop)(tip:Sj)(tset:CU):TS:=λD σ H=>to σ H λo H1=>ti σ H1 λi H2=>tget o i H2 λx H3=>te σ H3 λy H4=>tip x y H4 λz H5=>tset o i z H5 λH6=>D.nx σ H6
abbrev Ss (X:Cx)(t:V->V->Hp->VK->Prop):Prop:=
 ∀(pins:bj) (s:aC) (σ:St) (H:Hp) (o i:V) (ov iv:af) (Q:VK),Inv X pins σ H s->RelV o ov->RelV i iv->t o i H Q ->
  wpAny (model X.prog X.w) X.A (getItem ov iv) (EP X pins σ Q) X.xe s
def NL{e:aE}{to ti te:TE}{tget:V->V->Hp->VK->Prop}{tip:Sj}{tset:CU}(ho:PE X o to)(hi:PE X i ti)(hg:Ss X tget)(he:PE X e te)(hp:OA X op tip)(hs:GR X tset)
  (ha:∀ov iv new,augStore i ov iv new=(do holding [new,ov,iv] (setItem ov iv new);release [new,ov,iv] [];pure .next):=by intros;rfl):PS X (.AugAssign (.Subscript o i tpos) op e pos) (Tn to ti te tget tip tset):=by
 ksr_p;refine wpAny_AugAssign_SubscriptAny (kW (ho pins s σ H _ I h) λov s1 ⟨x1,H1,I1,r1,q1⟩=>?_) ha;refine kW (hi pins s1 σ H1 _ I1 q1) λiv s2 ⟨x2,H2,I2,r2,q2⟩=>?_;refine kW (hg pins s2 σ H2 x1 x2 ov iv _ I2 r1 r2 q2) λold s3 ⟨x3,H3,I3,r3,q3⟩=>?_;refine kW (he pins s3 σ H3 _ I3 q3) λv s4 ⟨x4,H4,I4,r4,q4⟩=>?_;refine kW (hp pins s4 σ H4 x3 x4 old v _ I4 r3 r4 q4) λnew s5 ⟨x5,H5,I5,r5,q5⟩=>?_;exact kW (hs pins s5 σ H5 x1 x2 x5 ov iv new _ I5 r1 r2 r5 q5) λ_ s6 ⟨H6,I6,q6⟩=>⟨σ,H6,I6,q6⟩
abbrev WY (f:Int->Int->Int):Sj:=λx y H Q=>∃i j,x=.int i/\y=.int j/\Q (.int (f i j)) H
def RO:OA X .Add (WY λi j=>i+j):=by
 intro pins s σ H x y v u Q I r1 r2 h;obtain⟨i,j,e1,e2,q⟩:=h;subst e1;subst e2;obtain⟨t,rfl⟩:=r1;obtain⟨t',rfl⟩:=r2;exact iadd_int ⟨.int _,H,I.tok _,⟨_,rfl⟩,q⟩
def PV:OA X .Sub (WY λi j=>i-j):=by
 intro pins s σ H x y v u Q I r1 r2 h;obtain⟨i,j,e1,e2,q⟩:=h;subst e1;subst e2;obtain⟨t,rfl⟩:=r1;obtain⟨t',rfl⟩:=r2;exact isub_int ⟨.int _,H,I.tok _,⟨_,rfl⟩,q⟩
end
section
variable {X:Cx}{pos:Pos}
abbrev Jo (c:TT)(tb:TS):TS:=λD σ H=>∃W:Nat->St->Hp->Prop,(∃m,W m σ H)/\∀m σ H,W m σ H ->
 c σ H λb H1=>if b=true then ∃N:St->Hp->Prop,(∀σ' H',N σ' H'->∃m',m'<m/\W m' σ' H')/\tb { D with nx:=N,ct:=N,bk:=D.nx } σ H1 else D.nx σ H1
def Kv{c:aE}{tc:TT}{tb:TS}(hp:PassesOwn (model X.prog X.w) X.A X.env X.xe)(hc:PT X c tc)(hb:A1 X body tb):PS X (.While c body [] pos) (Jo tc tb):=by
 ksr_p;obtain⟨W,⟨m0,w0⟩,turn⟩:=h;refine wpAny_While (codeAny_whileLoop (λn s'=>∃σ' H',Inv X pins σ' H' s'/\W n σ' H') ?_ m0 ⟨σ,H,I,w0⟩);rintro n s1 ⟨σ1,H1,I1,w1⟩;refine eL hp (kW (hc pins s1 σ1 H1 _ I1 (turn n σ1 H1 w1)) λb s2 ⟨H2,I2,q2⟩=>?_)
 cases b with
 | true=>
  obtain⟨N,hN,q2⟩:=q2;rw[aN rfl];refine eL hp (kW (hb pins s2 σ1 H2 _ I2 q2) λf s3 q3=>?_)
  cases f with
  | next=>
   obtain⟨σ3,H3,I3,n3⟩:=q3;obtain⟨m',hm,w3⟩:=hN σ3 H3 n3;exact⟨m',hm,σ3,H3,I3,w3⟩
  | cont=>
   obtain⟨σ3,H3,I3,n3⟩:=q3;obtain⟨m',hm,w3⟩:=hN σ3 H3 n3;exact⟨m',hm,σ3,H3,I3,w3⟩
  | brk=>exact q3
  | ret v=>exact q3
 | false=>
  rw[aM aY];exact iI ⟨σ1,H2,I2,q2⟩
end
structure It where
 go:Nat->Hp->Prop
 yld:Nat->Hp->V->Hp->Prop
 stop:Nat->Hp->Prop
abbrev rA (X:Cx)(pins:bj)(H:Hp)(b:ak):Prop:=
 H b=none/\b≠X.env.locals/\b∉X.fs/\(b∈X.ex\/X.s₀.heap.objs.size<=b)/\(∀x c,X.env.cells.lookup x=some c->c≠b)/\∀p∈X.pn++pins,p.1≠b
def Inv.Hv{X:Cx}{H H':Hp}{s:aC}(I:Inv X pins σ H s)(hb:s.heap.objs.size<=b)(hn:H' b=none):rA X pins H' b:=by
 refine⟨hn,ne_of_gt (bQ I.lt hb),I.VU hb,.inr (bX I.sz hb),λx c e z=>?_,λp hp z=>?_⟩
 ·obtain⟨v,q⟩:=I.cell x c e;exact absurd (bQ q.lt (by rw[z];exact hb)) (fK _)
 ·exact absurd (bQ (aX (I.pin p hp).1) (by rw[z];exact hb)) (fK _)
structure Turn (P:aj)(w:ah)(K:au)(tg:aE)(J:It)(fp:ar)(it:ak)(tn:Nat->aq->Prop):Prop where
 mem:it∈fp
 obj:∀i h,tn i h->∀b∈fp,∃o,h.get? b=some o/\∀v,o.data≠.cell v
 keep:∀i h h',tn i h->(∀b∈fp,∀o,h.get? b=some o->h'.get? b=some o)->tn i h'
 item:∀(X:Cx),X.prog=P->X.w=w->X.K=K->X.calm=true->∀(i:Nat) (pins:bj) (s:aC) (σ:St) (H:Hp) (E:af->aC->Prop),Inv X pins σ H s->(∀b∈fp,rA X pins H b)->tn i s.heap->J.go i H ->
  wpAny (model P w) X.A (pyNext (.ref it)) (λr s1=>∃u,r=some u /\
   wpAny (model P w) X.A (letOwnedTupleGo tg (.ref it) u) (λ_ s2=>∃x H',Inv X pins σ H' s2/\RelV x u/\J.yld i H x H'/\tn (i+1) s2.heap/\∀b∈fp,H' b=none) E s1) E s
 done:∀(X:Cx),X.prog=P->X.w=w->X.K=K->X.calm=true->∀(i:Nat) (pins:bj) (s:aC) (σ:St) (H:Hp) (E:af->aC->Prop),Inv X pins σ H s->(∀b∈fp,rA X pins H b)->tn i s.heap->J.stop i H ->
  wpAny (model P w) X.A (pyNext (.ref it)) (λr s1=>r=none/\Inv X pins σ H s1) E s
 self:∀(A:aA) (i:Nat) (s:aC) (Q:af->aC->Prop) (E:af->aC->Prop),tn i s.heap->Q (.ref it) s->wpAny (model P w) A (pyIter (.ref it)) Q E s
meta abbrev TI:=St->Hp->(It->Hp->Prop)->Prop
abbrev WR (X:Cx)(pins:bj)(σ:St)(tg:aE)(R:It->Hp->Prop)(itv:af)(s2:aC):Prop:=
 ∃(it:ak) (fp:ar) (tn:Nat->aq->Prop) (J:It) (H':Hp),itv=.ref it/\Inv X pins σ H' s2/\Turn X.prog X.w X.K tg J fp it tn/\tn 0 s2.heap/\(∀b∈fp,rA X pins H' b)/\R J H'
abbrev PI (X:Cx)(tg iter:aE)(wi:TI):Prop:=
 ∀(pins:bj) (s:aC) (σ:St) (H:Hp) (R:It->Hp->Prop),Inv X pins σ H s->wi σ H R ->
  wpAny (model X.prog X.w) X.A (eval iter X.env) (λv s1=>wpAny (model X.prog X.w) X.A (pyIter v) (WR X pins σ tg R) X.xe s1) X.xe s
def EK{A:aA}{E:af->aC->Prop}{s:aC}{o:Obj}{n:String}{Q:Unit->aC->Prop}(ho:s.heap.get? it=some o)(hc:o.cls=.type n)(hd:o.data=.fields vs)
  (hn:["enumerate", "zip", "dict_itemiterator", "dict_reverseitemiterator", "odict_iterator", "itertools.zip_longest", "itertools.pairwise"].contains n=false) (hQ:Q Unit.unit s):wpAny M A (letOwnedTupleGo tg (.ref it) u) Q E s:=by
 unfold letOwnedTupleGo
 cases tg<;>first
  | exact aJ hQ
  | (cases u<;>first
    | exact aJ hQ
    | (refine aG (wpAny_load ho ?_)
       rw[hc,hd];show wpAny M A (if (["enumerate", "zip", "dict_itemiterator", "dict_reverseitemiterator", "odict_iterator", "itertools.zip_longest", "itertools.pairwise"].contains n && vs[0]? == some (rawInt _))=true then _ else _) Q E s;rw[aM (by intro h;rw[hn,Bool.false_and]at h;cases h)];exact aJ hQ))
abbrev Vn (K:au)(a:ak):It:=
 ⟨λi H=>∃xs x,nH K H a xs/\xs[i]?=some x,λi H x H'=>H'=H/\∀xs,nH K H a xs->xs[i]?=some x,λi H=>∃xs,nH K H a xs/\xs.length<=i⟩
abbrev VE (K:au)(a:ak):It:=
 ⟨λi H=>∃xs x,ni K H a xs/\xs[i]?=some x,λi H x H'=>H'=H/\∀xs,ni K H a xs->xs[i]?=some x,λi H=>∃xs,ni K H a xs/\xs.length<=i⟩
abbrev U9 (lo:Int)(n:Nat):It:=⟨λi _=>i<n,λi H x H'=>H'=H/\x=.int (lo+i),λi _=>n<=i⟩
def GA{P:aj}{w:ah}{K:au}(a it:ak):Turn P w K tg (Vn K a) [it] it (λi h=>h.IsListIter it a i) where
 mem:=by simp
 obj:=λi h st b hb=>by
  have e:b=it:=by simpa using hb
  subst e;obtain⟨o,e,c,d⟩:=st;exact⟨o,e,λv z=>by rw[d]at z;cases z⟩
 keep:=λi h h' st k=>st.at λo e=>k it (by simp) o e
 item:=by
  k_ne;subst hP hw hK;obtain⟨xs,x,hq,hx⟩:=hg;obtain⟨its,rv,p,hz⟩:=I.list hq;obtain⟨u,hu,ru⟩:=rv.get hx;gp_on;refine wpAny_pyNext_list_item st p.isList (x:=u) (by simpa using hu) λh' st' sb=>?_;have I1:Inv X pins σ H { s with heap:=h' }:=I.turned (t':=s.toks) (λb o hb e=>(sb.2 b hb).trans e) f0 f1 f3 f4 f5;obtain⟨o,e,c,d⟩:=id st';exact⟨u,rfl,EK (s:={ s with heap:=h' }) e c d ⋯ ⟨x,H,I1,ru,⟨rfl,λys hy=>by rw[I.Ke hy hq];exact hx⟩,st',λb hb=>(hf b hb).1⟩⟩
 done:=by
  k_ne;subst hP hw hK;obtain⟨xs,hq,hx⟩:=hg;obtain⟨its,rv,p,hz⟩:=I.list hq;gp_on;have hl:=rv.length;exact wpAny_pyNext_list_end (I.ok.hd hc) st p.isList (by simp;omega) λh' eb=>⟨rfl,I.turned (t':=s.toks) (λb o hb e=>eb b o hb e) f0 f1 f3 f4 f5⟩
 self:=λ_ _ _ _ _ st h=>wpAny_pyIter_listiter st h
def Dq{P:aj}{w:ah}{K:au}(a it:ak):Turn P w K tg (VE K a) [it] it (λi h=>h.IsTupleIter it a i) where
 mem:=by simp
 obj:=λi h st b hb=>by
  have e:b=it:=by simpa using hb
  subst e;obtain⟨o,e,c,d⟩:=st;exact⟨o,e,λv z=>by rw[d]at z;cases z⟩
 keep:=λi h h' st k=>st.at λo e=>k it (by simp) o e
 item:=by
  k_ne;subst hP hw hK;obtain⟨xs,x,hq,hx⟩:=hg;obtain⟨its,rv,p,hz⟩:=I.tuple hq;obtain⟨u,hu,ru⟩:=rv.get hx;gp_on;refine wpAny_pyNext_tuple_item st (show s.heap.IsTuple a its.toArray from p) (x:=u) (by simpa using hu) λh' st' sb=>?_;have I1:Inv X pins σ H { s with heap:=h' }:=I.turned (t':=s.toks) (λb o hb e=>(sb.2 b hb).trans e) f0 f1 f3 f4 f5;obtain⟨o,e,c,d⟩:=id st';exact⟨u,rfl,EK (s:={ s with heap:=h' }) e c d ⋯ ⟨x,H,I1,ru,⟨rfl,λys hy=>by rw[I.zg hy hq];exact hx⟩,st',λb hb=>(hf b hb).1⟩⟩
 done:=by
  k_ne;subst hP hw hK;obtain⟨xs,hq,hx⟩:=hg;obtain⟨its,rv,p,hz⟩:=I.tuple hq;gp_on;have hl:=rv.length;exact wpAny_pyNext_tuple_end (I.ok.hd hc) st (show s.heap.IsTuple a its.toArray from p) (by simp;lia) λh' eb=>⟨rfl,I.turned (t':=s.toks) (λb o hb e=>eb b o hb e) f0 f1 f3 f4 f5⟩
 self:=λ_ _ _ _ _ st h=>wpAny_pyIter_tupleiter st h
def CT{P:aj}{w:ah}{K:au}(it:ak)(lo:Int)(n:Nat):Turn P w K tg (U9 lo n) [it] it (λi h=>IsRangeIter h it (lo+(i:Nat) * 1) ((n:Int)-(i:Nat)) 1) where
 mem:=by simp
 obj:=λi h st b hb=>by
  have e:b=it:=by simpa using hb
  subst e;exact⟨_,st,λv z=>by
   have z':Data.fields _=Data.cell v:=z
   cases z'⟩
 keep:=λi h h' st k=>k it (by simp) _ st
 item:=by
  k_ne;subst hP hw hK;gp_on;have W:=Walks.range (prog:=X.prog) (w:=X.w) (I.ok.hd hc) it lo 1 n;refine W.item i s _ _ hg st λv h' tk hv st' kk=>?_;obtain⟨t,rfl⟩:=hv;have I1:Inv X pins σ H { s with heap:=h',toks:=tk }:=I.turned (λb o hb e=>kk b o (by simpa using hb) e) f0 f1 f3 f4 f5;refine⟨_,rfl,EK (s:={ s with heap:=h',toks:=tk }) (n := "range_iterator") st' rfl rfl ⋯ ⟨.int (lo+i),H,I1,⟨t,?_⟩,⟨rfl,rfl⟩,st',λb hb=>(hf b hb).1⟩⟩;rw[Int.mul_one]
 done:=by
  k_ne;subst hP hw hK;gp_on;exact wpAny_pyNext_range_end (I.ok.hd hc) st (by have:n<=i:=hg;lia) λh' eb=>⟨rfl,I.turned (t':=s.toks) (λb o hb e=>eb b o hb e) f0 f1 f3 f4 f5⟩
 self:=λ_ _ _ _ _ st h=>wpAny_pyIter_rangeiter st h
section
variable {X:Cx}{tg:aE}
abbrev UX (K:au)(tl:TE):TI:=λσ H R=>tl σ H λx H1=>∃a,x=.ref a/\(∃xs,nH K H1 a xs)/\R (Vn K a) H1
abbrev Wu (K:au)(tl:TE):TI:=λσ H R=>tl σ H λx H1=>∃a,x=.ref a/\(∃xs,ni K H1 a xs)/\R (VE K a) H1
def EO{tl:TE}(hl:PE X l tl):PI X tg l (UX X.K tl):=by
 intro pins s σ H R I h;refine kW (hl pins s σ H _ I h) λv s1 ⟨x,H1,I1,r1,q1⟩=>?_;obtain⟨a,e,⟨xs,hq⟩,q⟩:=q1;subst e
 cases r1
 obtain⟨its,rv,p,hz⟩:=I1.list hq;refine ja p.isList ?_;refine⟨s1.heap.objs.size,[s1.heap.objs.size],_,_,H1,rfl,I1.kept (t':=s1.toks) λb o e=>aO _ e,GA a _,⟨_,bg _ rfl,rfl,rfl⟩,λb hb=>?_,q⟩;have e:b=s1.heap.objs.size:=by simpa using hb
 subst e;exact I1.Hv (aS _) (I1.hok.fresh (aS _))
def JH{tl:TE}(hl:PE X l tl):PI X tg l (Wu X.K tl):=by
 intro pins s σ H R I h;refine kW (hl pins s σ H _ I h) λv s1 ⟨x,H1,I1,r1,q1⟩=>?_;obtain⟨a,e,⟨xs,hq⟩,q⟩:=q1;subst e
 cases r1
 obtain⟨its,rv,p,hz⟩:=I1.tuple hq;refine wpAny_pyIter_tuple (show s1.heap.IsTuple a its.toArray from p) ?_;refine⟨s1.heap.objs.size,[s1.heap.objs.size],_,_,H1,rfl,I1.kept (t':=s1.toks) λb o e=>aO _ e,Dq a _,⟨_,bg _ rfl,rfl,rfl⟩,λb hb=>?_,q⟩;have e:b=s1.heap.objs.size:=by simpa using hb
 subst e;exact I1.Hv (aS _) (I1.hok.fresh (aS _))
def Be{H:Hp}{s:aC}{R:It->Hp->Prop}{E:af->aC->Prop}{lo hi:Int}{t v:Tok}{tk:Nat}(I:Inv X pins σ H s)(h1:-(2 ^ 62)<=lo)(h2:lo<2 ^ 62)(h3:-(2 ^ 62)<=hi)(h4:hi<2 ^ 62)
  (q:R (U9 lo (hi-lo).toNat) H):wpAny (model X.prog X.w) X.A (pyIter (.ref s.heap.objs.size)) (WR X pins σ tg R) E { s with heap:=s.heap.push { cls:=.type "range",data:=.fields #[.int lo t,.int hi u,.int 1 v]},toks:=tk }:=by
 refine wpAny_pyIter_range (IsRange.new ..) (small_one h1 h2 h3 h4) ?_;have I1:Inv X pins σ H { s with heap:=s.heap.push { cls:=.type "range",data:=.fields #[.int lo t,.int hi u,.int 1 v]},toks:=tk }:=I.kept λb o e=>aO _ e;refine⟨(s.heap.push { cls:=.type "range",data:=.fields #[.int lo t,.int hi u,.int 1 v]}).objs.size,[(s.heap.push { cls:=.type "range",data:=.fields #[.int lo t,.int hi u,.int 1 v]}).objs.size],_,_,H,rfl,
  I1.kept (t':=tk) λb o e=>aO _ e,CT _ lo (hi-lo).toNat,?_,λb hb=>?_,q⟩
 ·have e1:lo+((0:Nat):Int) * 1=lo:=by simp
  have e2:(((hi-lo).toNat:Nat):Int)-((0:Nat):Int)=Builtin.Range.rangeSize lo hi 1:=by rw[rangeSize_one];split<;>lia
  skip
  rw[e1,e2];exact bg _ rfl
 ·have e:b=(s.heap.push { cls:=.type "range",data:=.fields #[.int lo t,.int hi u,.int 1 v]}).objs.size:=by simpa using hb
  subst e;exact I1.Hv (aS _) (I1.hok.fresh (aS _))
abbrev oz (ta:TA):TI:=λσ H R=>ta σ H λvs H1=>∃j:Int,vs=[.int j]/\-(2 ^ 62)<=j/\j<2 ^ 62/\R (U9 0 j.toNat) H1
abbrev oA (ta:TA):TI:=λσ H R=>ta σ H λvs H1=>∃i j:Int,vs=[.int i,.int j]/\(-(2 ^ 62)<=i/\i<2 ^ 62/\-(2 ^ 62)<=j/\j<2 ^ 62)/\R (U9 i (j-i).toNat) H1
def GP{a:aE}{ta:TA}{p:Pos}(hg:Gl X "range")(hm:X.mg "range" = none)(ha:PA X [a] ta)(hs:starEach [a] X.env=[(false,eval a X.env)]:=by rfl):PI X tg (.Call (.Name "range" p) [a] [] pos) (oz ta):=by
 intro pins s σ H R I h;refine Call_ (xy I hg hm boot_range (fN (kW (ha pos pins s σ H _ I h) λus s1 ⟨vs,H1,I1,r1,q1⟩=>?_) hs rfl));obtain⟨j,e,q1,q2,q⟩:=q1;subst e
 cases r1 with
 | cons r rr=>
  cases rr
  obtain⟨t,rfl⟩:=r;exact call_range_1 (Be I1 () () q1 q2 (by simpa using q))
def Hr{a b:aE}{ta:TA}{p:Pos}(hg:Gl X "range")(hm:X.mg "range" = none)(ha:PA X [a,b] ta)(hs:starEach [a,b] X.env=[(false,eval a X.env),(false,eval b X.env)]:=by rfl)(hs2:starEach [b] X.env=[(false,eval b X.env)]:=by rfl) :
  PI X tg (.Call (.Name "range" p) [a,b] [] pos) (oA ta):=by
 intro pins s σ H R I h;refine Call_ (xy I hg hm boot_range (fN (kW (ha pos pins s σ H _ I h) λus s1 ⟨vs,H1,I1,r1,q1⟩=>?_) (by rw[hs,hs2]) (by rw[hs2];rfl)));obtain⟨i,j,e,⟨q1,q2,q3,q4⟩,q⟩:=q1;subst e
 cases r1 with
 | cons r rr=>
  cases rr with
  | cons r' rr=>
   cases rr
   obtain⟨t,rfl⟩:=r;obtain⟨t',rfl⟩:=r';exact call_range_2 (Be I1 q1 q2 q3 q4 q)
abbrev V6 (wi:TI)(g:TG)(tb:TS):TS:=λD σ H=>wi σ H λJ H1=>∃W:Nat->Nat->St->Hp->Prop,(∃m,W 0 m σ H1)/\∀i m σ H,W i m σ H ->
 (J.stop i H/\D.nx σ H)\/(J.go i H/\∃N:St->Hp->Prop,(∀σ' H',N σ' H'->∃m',m'<m/\W (i+1) m' σ' H')/\∀x H',J.yld i H x H'->g x σ H' λσ2 H2=>tb { D with nx:=N,ct:=N,bk:=D.nx } σ2 H2)
abbrev tR (fp:ar)(h:aq):bj:=fp.filterMap λb=>(h.get? b).map λo=>(b,o)
def lG{fp:ar}{h:aq}{b:ak}(hb:b∈fp)(e:h.get? b=some o):(b,o)∈tR fp h:=List.mem_filterMap.mpr ⟨b,hb,by rw[e];rfl⟩
def Hu{fp:ar}{h:aq}{p:ak×Obj}(hp:p∈tR fp h):p.1∈fp/\h.get? p.1=some p.2:=by
 obtain⟨b,hb,e⟩:=List.mem_filterMap.mp hp
 cases q:h.get? b with
 | none=>rw[q]at e;cases e
 | some o=>
  rw[q]at e;have e':(b,o)=p:=aW e;subst e';exact⟨hb,q⟩
def Inv.pinned{H:Hp}{s:aC}{fp:ar}(I:Inv X pins σ H s)(hf:∀b∈fp,rA X pins H b)(ho:∀b∈fp,∃o,s.heap.get? b=some o/\∀v,o.data≠.cell v):Inv X (pins++tR fp s.heap) σ H s:=
 I.EJ λp hp=>(bu.mp hp).elim (λz=>I.pin p (a_ _ z)) λz=>by
  obtain⟨hb,e⟩:=Hu z;obtain⟨f0,f1,f2,_⟩:=hf p.1 hb;obtain⟨o,e',d⟩:=ho p.1 hb;rw[e]at e';cases e';exact⟨e,f0,f1,f2,d⟩
def Inv.oR{pl:bj}{H:Hp}(I:Inv X (pins++pl) σ H s):Inv X pins σ H s:=I.EJ λp hp=>I.pin p (a_ _ (bS _ hp))
def SM{iter:aE}{wi:TI}{g:TG}{tb:TS}(hp:PassesOwn (model X.prog X.w) X.A X.env X.xe)(hc:X.calm=true)(hi:PI X tg iter wi)(hg:PG X tg g)(hb:A1 X body tb)
  (hs:∀x,foldedSetIterable iter X.env x=pure x:=by intro _;rfl):PS X (.For tg iter body [] pos) (V6 wi g tb):=by
 ksr_p;refine wpAny_For (kW (hi pins s σ H _ I h) λv s1 h1=>kW h1 λitv s2 h2=>?_) hs;obtain⟨it,fp,tn,J,H2,e,I2,T,st2,f2,W,⟨m0,w0⟩,turn⟩:=h2;subst e;have stat:∀{H':Hp},(∀b∈fp,H' b=none)->∀b∈fp,rA X pins H' b:=λhn b hb=>⟨hn b hb,(f2 b hb).2⟩;refine codeAny_forLoop_any (λn s'=>∃i σ' H',Inv X pins σ' H' s'/\tn i s'.heap/\(∀b∈fp,H' b=none)/\W i n σ' H') ?_ m0 ⟨0,σ,H2,I2,st2,λb hb=>(f2 b hb).1,w0⟩;rintro n s3 ⟨i,σ3,H3,I3,st3,fr3,w3⟩
 rcases turn i n σ3 H3 w3 with⟨stop,qn⟩|⟨go,N,hN,step⟩
 ·refine eL hp (kW (T.done X rfl rfl rfl hc i pins s3 σ3 H3 X.xe I3 (stat fr3) st3 stop) λr s4 ⟨hr,I4⟩=>?_);subst hr;exact iI ⟨σ3,H3,I4,qn⟩
 ·refine eL hp (kW (T.item X rfl rfl rfl hc i pins s3 σ3 H3 X.xe I3 (stat fr3) st3 go) λr s4 ⟨u,hr,h4⟩=>?_);subst hr;refine eL hp (kW h4 λ_ s5 ⟨x,H5,I5,r5,y5,st5,fr5⟩=>?_);have I5':=I5.pinned (stat fr5) (T.obj _ _ st5);refine eL hp (kW (hg _ s5 σ3 H5 x u _ I5' r5 (step x H5 y5)) λ_ s6 ⟨σ6,H6,I6,q6⟩=>?_);refine eL hp (kW (hb _ s6 σ6 H6 _ I6 q6) λf s7 q7=>?_);have again:∀{σ7:St} {H7:Hp},Inv X (pins++tR fp s5.heap) σ7 H7 s7->N σ7 H7->∃m,m<n/\∃i σ' H',Inv X pins σ' H' s7/\tn i s7.heap/\(∀b∈fp,H' b=none)/\W i m σ' H':=λ{σ7 H7} I7 n7=>by
   obtain⟨m',hm,w7⟩:=hN σ7 H7 n7;refine⟨m',hm,i+1,σ7,H7,I7.oR,T.keep _ _ _ st5 λb hb o e=>(I7.pin (b,o) (a_ _ (a_ _ (lG hb e)))).1,λb hb=>?_,w7⟩;obtain⟨o,e,d⟩:=T.obj _ _ st5 b hb;exact(I7.pin (b,o) (a_ _ (a_ _ (lG hb e)))).2.1
  cases f with
  | next=>obtain⟨σ7,H7,I7,n7⟩:=q7;exact again I7 n7
  | cont=>obtain⟨σ7,H7,I7,n7⟩:=q7;exact again I7 n7
  | brk=>obtain⟨σ7,H7,I7,q7⟩:=q7;exact⟨σ7,H7,I7.oR,q7⟩
  | ret v=>obtain⟨x7,σ7,H7,I7,r7,q7⟩:=q7;exact⟨x7,σ7,H7,I7.oR,r7,q7⟩
end
def qQ{c:TT}{tb:TS}{D:Ends}{H:Hp}(Pv:St->Hp->Prop)(μ:St->Hp->Nat)(h0:Pv σ H)
  (hs:∀σ H,Pv σ H->c σ H λb H1=>if b=true then tb { D with nx:=λσ' H'=>Pv σ' H'/\μ σ' H'<μ σ H,ct:=λσ' H'=>Pv σ' H'/\μ σ' H'<μ σ H,bk:=D.nx } σ H1 else D.nx σ H1)
  (mono:∀σ H Q Q',(∀b H1,Q b H1->Q' b H1)->c σ H Q->c σ H Q'):Jo c tb D σ H:=by
 refine⟨λm σ H=>m=μ σ H/\Pv σ H,⟨_,rfl,h0⟩,?_⟩;rintro m σ H ⟨rfl,p⟩;refine mono σ H _ _ (λb H1 q=>?_) (hs σ H p)
 cases b with
 | true=>exact⟨_,λσ' H' ⟨p',l⟩=>⟨_,l,rfl,p'⟩,q⟩
 | false=>exact q
meta abbrev R2:=V->V->Hp->VK->Prop
abbrev n8 (X:Cx)(f:af->af->Sem af)(r:R2):Prop:=
 ∀(pins:bj) (s:aC) (σ:St) (H:Hp) (x y:V) (v u:af) (Q:VK),Inv X pins σ H s->RelV x v->RelV y u->r x y H Q ->
  wpAny (model X.prog X.w) X.A (f v u) (EP X pins σ Q) X.xe s
abbrev Vf (X:Cx)(f:af->Sem af)(r:V->Hp->VK->Prop):Prop:=
 ∀(pins:bj) (s:aC) (σ:St) (H:Hp) (x:V) (v:af) (Q:VK),Inv X pins σ H s->RelV x v->r x H Q ->
  wpAny (model X.prog X.w) X.A (f v) (EP X pins σ Q) X.xe s
abbrev j_ (X:Cx)(f:af)(r:List V->Hp->VK->Prop):Prop:=
 ∀(pins:bj) (s:aC) (σ:St) (H:Hp) (xs:List V) (us:ap) (Q:VK),Inv X pins σ H s->Vals xs us->r xs H Q ->
  wpAny (model X.prog X.w) X.A (call f us) (EP X pins σ Q) X.xe s
abbrev VQ (X:Cx)(r:V->Hp->(Bool->Hp->Prop)->Prop):Prop:=
 ∀(pins:bj) (s:aC) (σ:St) (H:Hp) (x:V) (v:af) (Q:Bool->Hp->Prop),Inv X pins σ H s->RelV x v->r x H Q ->
  wpAny (model X.prog X.w) X.A (truthy v) (TP X pins σ Q) X.xe s
abbrev U5 (r:R2)(ta tb:TE):TE:=λσ H Q=>ta σ H λx H1=>tb σ H1 λy H2=>r x y H2 Q
abbrev WT (r:V->Hp->VK->Prop)(ta:TE):TE:=λσ H Q=>ta σ H λx H1=>r x H1 Q
abbrev rI (C:Int->Int->Prop)(g:Int->Int->V):R2:=λx y H Q=>∃i j,x=.int i/\y=.int j/\C i j/\Q (g i j) H
abbrev Px (g:Int->Int->V):R2:=λx y H Q=>∃i j,x=.int i/\y=.int j/\Q (g i j) H
abbrev rU (g:Int->V):V->Hp->VK->Prop:=λx H Q=>∃i,x=.int i/\Q (g i) H
section
variable {X:Cx}{a b:aE}{ta tb:TE}{pos:Pos}
def Sn(ha:PE X a ta)(hb:PE X b tb){H:Hp}{R:V->V->Hp->Prop}(I:Inv X pins σ H s)
  (h:ta σ H λx H1=>tb σ H1 λy H2=>R x y H2) {Q:af->aC->Prop} {f:af->af->Sem af}
  (hf:∀v u s2 x y H2,Inv X pins σ H2 s2->RelV x v->RelV y u->R x y H2->wpAny (model X.prog X.w) X.A (f v u) Q X.xe s2) :
  wpAny (model X.prog X.w) X.A (eval a X.env) (λv s₁=>wpAny (model X.prog X.w) X.A (eval b X.env) (λu s₂=>wpAny (model X.prog X.w) X.A (f v u) Q X.xe s₂) X.xe s₁) X.xe s:=by
 refine kW (ha pins s σ H _ I h) λv s1 ⟨x,H1,I1,r1,q1⟩=>?_;refine kW (hb pins s1 σ H1 _ I1 q1) λu s2 ⟨y,H2,I2,r2,q2⟩=>?_;exact hf v u s2 x y H2 I2 r1 r2 q2
def T9{r:R2}(ho:n8 X (binaryOp op) r)(ha:PE X a ta)(hb:PE X b tb):PE X (.BinOp a op b pos) (U5 r ta tb):=by
 x_go;exact wpAny_BinOp (Sn ha hb I h λv u s2 x y H2 I2 rx ry q=>ho pins s2 σ H2 x y v u Q I2 rx ry q)
def JL{r:V->Hp->VK->Prop}(ho:Vf X (unaryOp op) r)(ha:PE X a ta):PE X (.UnaryOp op a pos) (WT r ta):=by
 x_go;exact UnaryOp_ (kW (ha pins s σ H _ I h) λv s1 ⟨x,H1,I1,r1,q1⟩=>ho pins s1 σ H1 x v Q I1 r1 q1)
def Vj{f:af->af->Sem af}{C:Int->Int->Prop}{g:Int->Int->Int}
  (rule:∀(i j:Int) (t u:Tok) (s:aC) (Q:af->aC->Prop) (E:af->aC->Prop),C i j->Q (.int (g i j) s.toks) { s with toks:=s.toks+1 }->wpAny (model X.prog X.w) X.A (f (.int i t) (.int j u)) Q E s) :
  n8 X f (rI C λi j=>.int (g i j)):=by
 gn_on;obtain⟨i,j,rfl,rfl,hc,q⟩:=h;kl_no;obtain⟨t',rfl⟩:=ry;exact rule i j t t' s _ _ hc ⟨.int (g i j),H,I.tok _,⟨_,rfl⟩,q⟩
def U0{f:af->af->Sem af}{g:Int->Int->Int}
  (rule:∀(i j:Int) (t u:Tok) (s:aC) (Q:af->aC->Prop) (E:af->aC->Prop),Q (.int (g i j) s.toks) { s with toks:=s.toks+1 }->wpAny (model X.prog X.w) X.A (f (.int i t) (.int j u)) Q E s) :
  n8 X f (Px λi j=>.int (g i j)):=by
 gn_on;obtain⟨i,j,rfl,rfl,q⟩:=h;kl_no;obtain⟨t',rfl⟩:=ry;exact rule i j t t' s _ _ ⟨.int (g i j),H,I.tok _,⟨_,rfl⟩,q⟩
def RA{f:af->af->Sem af}{g:Int->Int->Bool}
  (rule:∀(i j:Int) (t u:Tok) (s:aC) (Q:af->aC->Prop) (E:af->aC->Prop),Q (.bool (g i j)) s->wpAny (model X.prog X.w) X.A (f (.int i t) (.int j u)) Q E s) :
  n8 X f (Px λi j=>.bl (g i j)):=by
 gn_on;obtain⟨i,j,rfl,rfl,q⟩:=h;kl_no;obtain⟨t',rfl⟩:=ry;exact rule i j t t' s _ _ ⟨.bl (g i j),H,I,rfl,q⟩
abbrev VM (i j:Int):Prop:=0<=j/\j<=1000000/\i.natAbs<2 ^ 64
abbrev MV (i j:Int):Prop:=(-(2 ^ 64)<i/\i<2 ^ 64)\/(-(2 ^ 64)<j/\j<2 ^ 64)
def MV.ok{i j:Int}(h:MV i j):IntMulOk i j:=by
 rcases h with⟨h1,h2⟩|⟨h1,h2⟩
 ·exact .of_left (intBits_le_64 h1 h2)
 ·exact .of_right (intBits_le_64 h1 h2)
def Qy:n8 X (binaryOp .Add) (Px λi j=>.int (i+j)):=U0 λ_ _ _ _ _ _ _ q=>add_int q
def QU:n8 X (binaryOp .Sub) (Px λi j=>.int (i-j)):=U0 λ_ _ _ _ _ _ _ q=>sub_int q
def Rk:n8 X (binaryOp .Mult) (rI MV λi j=>.int (i * j)):=Vj λ_ _ _ _ _ _ _ hc q=>mul_int q hc.ok
def QN:n8 X (binaryOp .Mod) (rI (λ_ j=>0<j) λi j=>.int (i % j)):=Vj λi j _ _ _ _ _ hc q=>by
 have h1:(0:Int)<j:=hc;exact mod_int' () (by rw[Int.fmod_eq_emod_of_nonneg i ()];exact q)
def SA:n8 X (binaryOp .Pow) (rI VM λi j=>.int (i ^ j.toNat)):=Vj λ_ _ _ _ _ _ _ hc q=>pow_int_small hc.1 hc.2.1 hc.2.2 q
def Xx{f:af->Sem af}{g:Int->Int}
  (rule:∀(i:Int) (t:Tok) (s:aC) (Q:af->aC->Prop) (E:af->aC->Prop),Q (.int (g i) s.toks) { s with toks:=s.toks+1 }->wpAny (model X.prog X.w) X.A (f (.int i t)) Q E s) :
  Vf X f (rU λi=>.int (g i)):=by
 intro pins s σ H x v Q I rx h;obtain⟨i,rfl,q⟩:=h;kl_no;exact rule i t s _ _ ⟨.int (g i),H,I.tok _,⟨_,rfl⟩,q⟩
def C9:Vf X (unaryOp .USub) (rU λi=>.int (-i)):=Xx λ_ _ _ _ _ q=>neg_int q
end
section
variable {X:Cx}{a b c:aE}{ta tb tc:TE}{pos:Pos}
def Ra{H:Hp}{Q:VK}{k:Bool}(I:Inv X pins σ H s)(q:Q (.bl k) H)(e:k=k'):EP X pins σ Q (.bool k') s:=by
 subst e;exact⟨.bl k,H,I,rfl,q⟩
def Uz:n8 X (compareOp .Lt) (Px λi j=>.bl (decide (i<j))):=RA λ_ _ _ _ _ _ _ q=>lt_int q
def Tf:n8 X (compareOp .LtE) (Px λi j=>.bl (decide (i<=j))):=RA λ_ _ _ _ _ _ _ q=>le_int q
def U6:n8 X (compareOp .Gt) (Px λi j=>.bl (decide (j<i))):=RA λ_ _ _ _ _ _ _ q=>gt_int q
def Qm:n8 X (compareOp .Is) (λx y H Q=>y=.non/\Q (.bl (decide (x=.non))) H):=by
 gn_on;obtain⟨rfl,q⟩:=h
 cases ry
 refine is_none_gen (Ra I q ?_)
 cases x<;>first
  | (cases rx;rfl)
  | (obtain⟨t,rfl⟩:=rx;rfl)
def IP(b:aE)(h:op≠.In:=by decide)(h2:op≠.NotIn:=by decide):behindInMarks op b=false:=by
 have e1:(op == CmpOp.In)=false:=by cases op<;>first|rfl|exact absurd rfl h
 have e2:(op == CmpOp.NotIn)=false:=by cases op<;>first|rfl|exact absurd rfl h2
 cases b<;>simp[behindInMarks,e1,e2]
def NS{op:CmpOp}{r:R2}(ho:n8 X (compareOp op) r)(ha:PE X a ta)(hb:PE X b tb)(hm:behindInMarks op b=false):PE X (.Compare a [op] [b] pos) (U5 r ta tb):=by
 x_go;exact wpAny_Compare1 (Sn ha hb I h λv u s2 x y H2 I2 rx ry q=>ho pins s2 σ H2 x y v u Q I2 rx ry q) hm
abbrev Ul (t:TE):TT:=λσ H Q=>t σ H λx H'=>∃k,x=.bl k/\Q k H'
def Ob{op:CmpOp}{r:R2}(ho:n8 X (compareOp op) r)(ha:PE X a ta)(hb:PE X b tb)(hm:behindInMarks op b=false):PT X (.Compare a [op] [b] pos) (Ul (U5 r ta tb)):=by
 x_go;refine wpAny_isTrue_Compare1 (kW (ha pins s σ H _ I h) λv s1 ⟨x,H1,I1,r1,q1⟩=>kW (hb pins s1 σ H1 _ I1 q1) λu s2 ⟨y,H2,I2,r2,q2⟩=>
  kW (ho pins s2 σ H2 x y v u _ I2 r1 r2 q2) λc s3 ⟨z,H3,I3,r3,k,e,q3⟩=>?_) hm
 subst e
 cases r3
 exact dD ⟨H3,I3,q3⟩
abbrev HU (r r':R2)(ta tb tc:TE):TE:=λσ H Q=>ta σ H λx H1=>tb σ H1 λy H2=>r x y H2 λz H3=>∃k,z=.bl k /\
 (if k=true then tc σ H3 λw' H4=>r' y w' H4 Q else Q (.bl false) H3)
def KN{r r':R2}(ho:n8 X (compareOp op) r)(ho':n8 X (compareOp op') r')(ha:PE X a ta)(hb:PE X b tb)(hc:PE X c tc)
  (hm:lastMarks [op,op'] [b,c]=false:=by with_unfolding_all rfl):PE X (.Compare a [op,op'] [b,c] pos) (HU r r' ta tb tc):=by
 x_go;refine Compare_chain (kW (ha pins s σ H _ I h) λv s1 ⟨x,H1,I1,r1,q1⟩=>chain_link (kW (hb pins s1 σ H1 _ I1 q1) λu s2 ⟨y,H2,I2,r2,q2⟩=>
  kW (ho pins s2 σ H2 x y v u _ I2 r1 r2 q2) λd s3 ⟨z,H3,I3,r3,k,e,q3⟩=>?_)) hm
 subst e
 cases r3
 refine dD ?_
 cases k with
 | false=>exact ite_ff ⟨.bl false,H3,I3,rfl,q3⟩
 | true=>exact ite_tt (chain_last (kW (hc pins s3 σ H3 _ I3 q3) λw' s4 ⟨z',H4,I4,r4,q4⟩=>ho' pins s4 σ H4 y z' u w' Q I4 r2 r4 q4))
abbrev Rv (K:au)(x:V)(H:Hp)(k:Bool):Prop:=
 match x with
 | .non=>k=false
 | .bl b=>k=b
 | .int i=>k=(i != 0)
 | .str y=>y.length<=sizeLine/\k=((y.length:Int) != 0)
 | .byt y=>y.size<=sizeLine/\k=((y.size:Int) != 0)
 | .ref p=>(∃xs,nH K H p xs/\k=!xs.isEmpty)\/(∃xs,ni K H p xs/\k=!xs.isEmpty)\/∃kvs,H p=some (.dK kvs)/\k=!kvs.isEmpty
 | _=>False
def Dy{κ:Type}{kvs:List (κ×V)}{vs:List (κ×af)}(r:KV kvs vs):(!vs.isEmpty)=!kvs.isEmpty:=by
 cases r<;>rfl
def xF{xs:List V}{its:ap}(r:Vals xs its):(!its.toArray.isEmpty)=!xs.isEmpty:=by
 cases r<;>simp
def r6:(sizeLine:Nat)<2 ^ 63:=by rw[c7];decide
def Qe:VQ X (λx H Q=>∃k,Rv X.K x H k/\Q k H):=by
 intro pins s σ H x v Q I rx h;obtain⟨k,e,q⟩:=h;have hl:=r6;have hs:sizeLine=16777216:=c7
 cases x with
 | non=>
  cases rx
  have e':k=false:=e;subst e';exact truthy_none ⟨H,I,q⟩
 | bl b=>
  cases rx
  have e':k=b:=e;subst e';exact dD ⟨H,I,q⟩
 | int i=>
  kl_no;have e':k=(i != 0):=e;subst e';exact PySem.P.truthy_int ⟨H,I,q⟩
 | str y=>
  kl_no;obtain⟨hy,e'⟩:y.length<=sizeLine/\k=((y.length:Int) != 0):=e;subst e';exact PySem.P.truthy_str () ⟨H,I.tok _,q⟩
 | byt y=>
  kl_no;obtain⟨hy,e'⟩:y.size<=sizeLine/\k=((y.size:Int) != 0):=e;subst e';exact PySem.W.truthy_bytes () ⟨H,I.tok _,q⟩
 | ref p=>
  cases rx
  have e':(∃xs,nH X.K H p xs/\k=!xs.isEmpty)\/(∃xs,ni X.K H p xs/\k=!xs.isEmpty)\/∃kvs,H p=some (.dK kvs)/\k=!kvs.isEmpty:=e
  rcases e' with⟨xs,hx,e'⟩|⟨xs,hx,e'⟩|⟨kvs,hx,e'⟩
  ·subst e';obtain⟨its,r,pl,hz⟩:=I.list hx;have hlen:=r.length;exact wpAny_truthy_list pl.isList (by dsimp[aT];lia) ⟨H,I.tok _,by rw[xF r];exact q⟩
  ·subst e';obtain⟨its,r,pl,hz⟩:=I.tuple hx;have hlen:=r.length;exact truthy_tuple pl (by dsimp[aT];lia) ⟨H,I.tok _,by rw[xF r];exact q⟩
  ·subst e';obtain⟨hz,hS,vs,r,m⟩:kvs.length<=sizeLine/\(p == sysModules)=false/\∃vs,KV kvs vs/\s.heap.DictOf (k_ X.prog X.w) p vs:=I.hok p _ hx;have hlen:kvs.length=vs.length:=jd r;exact wpAny_truthy_dict hS m () ⟨H,I.tok _,by rw[Dy r];exact q⟩
 | _=>exact(show False from e).elim
def LD(ha:PE X a ta)(he:∀whole,isTrue a X.env whole=(do let v <- whole;standAt a.pos;holding [v] (truthy v))) :
  PT X a (λσ H Q=>ta σ H λx H'=>∃k,Rv X.K x H' k/\Q k H'):=by
 x_go;exact isTrue_plain (kW (ha pins s σ H _ I h) λv s1 ⟨x,H1,I1,r1,q1⟩=>Qe pins s1 σ H1 x v Q I1 r1 q1) (he _)
def Dj:n8 X (binaryOp .Add) (λx y H Q=>∃i j,x=.str i/\y=.str j/\i.length+j.length<=sizeLine/\Q (.str (i++j)) H):=by
 gn_on;obtain⟨i,j,rfl,rfl,hz,q⟩:=h;kl_no;obtain⟨t',rfl⟩:=ry;exact add_str (λt' tk=>⟨.str (i++j),H,I.tok _,⟨_,rfl⟩,q⟩) hz
def vals1{x:V}(r:Vals [x] us):∃u,us=[u]/\RelV x u:=by
 cases r with
 | cons r1 r2=>cases r2;exact⟨_,rfl,r1⟩
def vals2{x:V}(r:Vals [x,y] us):∃u w',us=[u,w']/\RelV x u/\RelV y w':=by
 cases r with
 | cons r1 r2=>
  cases r2 with
  | cons r3 r4=>cases r4;exact⟨_,_,rfl,r1,r3⟩
def I0:j_ X (.builtin "abs") (λxs H Q=>∃i,xs=[.int i]/\Q (.int (if i<0 then -i else i)) H):=by
 w_up;obtain⟨i,rfl,q⟩:=h;obtain⟨u,rfl,t,rfl⟩:=vals1 r;exact call_abs_int λu tk=>⟨.int (if i<0 then -i else i),H,I.tok _,⟨_,rfl⟩,q⟩
def Hq(hc:X.calm=true):j_ X (.builtin "max") (λxs H Q=>∃i j,xs=[.int i,.int j]/\Q (.int (if j>i then j else i)) H):=by
 w_up;obtain⟨i,j,rfl,q⟩:=h;obtain⟨u,w',rfl,⟨t,rfl⟩,⟨t',rfl⟩⟩:=vals2 r;refine max_two_ints (I.ok.hd hc) λh' tk k=>⟨_,H,I.kept k,?_,q⟩;by_cases hj:j>i
 ·rw[aN hj,aN hj];exact⟨_,rfl⟩
 ·rw[aM hj,aM hj];exact⟨_,rfl⟩
def HB(hc:X.calm=true):j_ X (.builtin "min") (λxs H Q=>∃i j,xs=[.int i,.int j]/\Q (.int (if j<i then j else i)) H):=by
 w_up;obtain⟨i,j,rfl,q⟩:=h;obtain⟨u,w',rfl,⟨t,rfl⟩,⟨t',rfl⟩⟩:=vals2 r;refine min_two_ints (I.ok.hd hc) λh' tk k=>⟨_,H,I.kept k,?_,q⟩;by_cases hj:j<i
 ·rw[aN hj,aN hj];exact⟨_,rfl⟩
 ·rw[aM hj,aM hj];exact⟨_,rfl⟩
abbrev Wg (K:au)(x:V)(H:Hp)(n:Nat):Prop:=
 match x with
 | .str y=>y.length<=sizeLine/\n=y.length
 | .byt y=>y.size<=sizeLine/\n=y.size
 | .ref p=>(∃xs,nH K H p xs/\n=xs.length)\/∃xs,ni K H p xs/\n=xs.length
 | _=>False
def J6:j_ X (.builtin "len") (λxs H Q=>∃x n,xs=[x]/\Wg X.K x H n/\Q (.int n) H):=by
 w_up;obtain⟨x,n,rfl,e,q⟩:=h;kcf_m;have hl:=r6;have hs:sizeLine=16777216:=c7
 cases x with
 | str y=>
  kl_no;obtain⟨hy,e'⟩:y.length<=sizeLine/\n=y.length:=e;subst e';exact len_str () ⟨.int _,H,I.tok _,⟨_,rfl⟩,q⟩
 | byt y=>
  kl_no;obtain⟨hy,e'⟩:y.size<=sizeLine/\n=y.size:=e;subst e';exact PySem.W.len_bytes () ⟨.int _,H,I.tok _,⟨_,rfl⟩,q⟩
 | ref p=>
  cases rx
  have e':(∃xs,nH X.K H p xs/\n=xs.length)\/∃xs,ni X.K H p xs/\n=xs.length:=e
  rcases e' with⟨xs,hx,e'⟩|⟨xs,hx,e'⟩
  ·subst e';obtain⟨its,r',pl,hz⟩:=I.list hx;have hlen:=r'.length;exact Calls.call_len_list pl.isList (by dsimp[aT];lia) ⟨.int xs.length,H,I.tok _,⟨_,by dsimp[aT];rw[hlen]⟩,q⟩
  ·subst e';obtain⟨its,r',pl,hz⟩:=I.tuple hx;have hlen:=r'.length;exact len_tuple pl (by dsimp[aT];lia) ⟨.int xs.length,H,I.tok _,⟨_,by dsimp[aT];rw[hlen]⟩,q⟩
 | _=>exact(show False from e).elim
end
structure ObjM (h:aq)(x dx C:ak)(mA:Str->ba):Prop where
 obj:h.get? x=some (PySem.W.instObj C dx)
 ns:h.Ns1 dx mA
 ne:dx≠x
def GX{h:aq}{mA:Str->ba}(n:h.Ns1 dx mA):∃od,h.get? dx=some od/\∀name,PySem.W.lookIn name od=some (mA name):=by
 obtain⟨o,es,ep,ho,hd,hk,_,hm⟩:=n;refine⟨o,ho,λname=>?_⟩;have e:=hm name;unfold nsFind findBy at e;rw[<- Array.find?_toList]at e;unfold PySem.W.lookIn;rw[hd];dsimp only;split
 ·rename_i y q;rw[q]at e;exact dO some e
 ·rename_i q;rw[q]at e;have a:es.toList.any (·.refKey)=false:=by
   rw[List.any_eq_false];intro y hy;obtain⟨z,t,hkey⟩:=hk y (Array.mem_toList_iff.mp hy);simp[DictEntry.refKey,hkey]
  have a':¬es.toList.any (·.refKey)=true:=by rw[a];exact aY
  rw[aM a'];exact dO some e
def ObjM.look{x:ak}{mA:Str->ba}(I:ObjM h x dx C mA):∃od,PySem.W.InstAt h x (PySem.W.instObj C dx) C (some od)/\∀name,PySem.W.lookIn name od=some (mA name):=
 let⟨od,ho,hl⟩:=GX I.ns
 ⟨od,⟨I.obj,rfl,rfl,ho⟩,hl⟩
def yz.some_of{v:V}(r:yz (some v) o):∃u,o=some u/\RelV v u:=by
 cases o with
 | none=>exact(show False from r).elim
 | some u=>exact⟨u,rfl,r⟩
section
variable {P:aj}{w:ah}{H:Hp}{h:aq}{a C dx:ak}{fs:List (Str×V)}
def Om(hok:uh P w H h)(e:H a=some (.ins C dx fs)):∃mA,ObjM h a dx C mA/\(∀f,yz (fs.lookup f) (mA f))/\PySem.Within mA (fs.map (·.1))/\fs.length<=1000/\H dx=some (.own a):=by
 obtain⟨d,z,ne,ob,mA,n,r,q⟩:=(show kR P w H h a (.ins C dx fs)from hok a _ e);exact⟨mA,⟨ob,n,ne⟩,r,q,z,d⟩
end
structure Cls (K:au)(C:ak):Prop where
 pg:PySem.W.plainGet K C Str.empty=true
 hd:PySem.W.hasDictIn K C=true
 po:PySem.W.plainOver K C=true
 sa:PySem.W.findIn K (.ref C) "__setattr__" = some (some (.builtin "object.__setattr__"))
def Cls.get{K:au}(c:Cls K C)(f:Str):PySem.W.plainGet K C f=true:=c.pg
structure Con (K:au)(C:ak)(f:Str)(v:V)(u:af):Prop where
 at_:PySem.W.findIn K (.ref C) f=some (some u)
 rel:RelV v u
 get:PySem.W.specialIn K u "__get__" = some none
 cp:PySem.W.copiedNames.contains f=false
structure Meth (K:au)(C:ak)(m:Str)(f:ak):Prop where
 at_:PySem.W.findIn K (.ref C) m=some (some (.ref f))
 fn:PySem.W.isFn K (.ref f)=true
 kp:PySem.W.keepIn K (.ref f)=true
section
variable {X:Cx}{pins:bj}{σ:St}{H:Hp}{s:aC}{A:aA}{E:af->aC->Prop}{Q:af->aC->Prop}{c:af}{b:Bool}
inductive TyOf (K:au) (H:Hp):V->af->Prop where
 | non:TyOf K H .non (.type "NoneType")
 | bl (x:Bool):TyOf K H (.bl x) (.type "bool")
 | int (i:Int):TyOf K H (.int i) (.type "int")
 | str (x:Str):TyOf K H (.str x) (.type "str")
 | flt (x:UInt64):TyOf K H (.flt x) (.type "float")
 | lst {a:ak} {xs:List V} (e:H a=some (.lst xs)):TyOf K H (.ref a) (.type "list")
 | frz {a:ak} {o:Obj} {xs:List V} (e:H a=some (.frz o (.lst xs))):TyOf K H (.ref a) (.type "list")
 | tup {a:ak} {xs:List V} (e:H a=some (.tup xs)):TyOf K H (.ref a) (.type "tuple")
 | dK {a:ak} {kvs:List (Key×V)} (e:H a=some (.dK kvs)):TyOf K H (.ref a) (.type "dict")
 | dT {a:ak} {kvs:List (List Key×V)} (e:H a=some (.dT kvs)):TyOf K H (.ref a) (.type "dict")
 | ins {a C dx:ak} {fs:List (Str×V)} (e:H a=some (.ins C dx fs)) (cl:Cls K C) (ha:PySem.W.findIn K (.ref C) "__class__" = some (some (.builtin "object.__class__")))
   (hn:PySem.W.specialIn K (.builtin "object.__class__") "__get__" = some (some (.builtin "getset_descriptor.__get__"))) (htk:PySem.W.takesIn K (.builtin "object.__class__")=some true)
   (hm:PySem.W.mroIn K C (.type "object")=some true):TyOf K H (.ref a) (.ref C)
def G_{x:V}{t:af}(I:Inv X pins σ H s)(rx:RelV x u)(ty:TyOf X.K H x t)(e:PySem.W.kitOne X.K t c=some b)(h:∀tk,Q (.bool b) { s with toks:=tk }) :
  wpAny (model X.prog X.w) A (call (.builtin "isinstance") [u,c]) Q E s:=by
 cases ty with
 | non=>cases(show u=Value.none from rx);exact cW PySem.W.kitx_none I.AK True.intro e (λz=>nomatch z) h
 | bl y=>cases(show u=Value.bool y from rx);exact cW PySem.W.kitx_bool I.AK True.intro e (λz=>nomatch z) h
 | int i=>obtain⟨t,q⟩:=(show ∃t,u=Value.int i t from rx);cases q;exact cW PySem.W.kitx_int I.AK True.intro e (λz=>nomatch z) h
 | str y=>obtain⟨t,q⟩:=(show ∃t,u=Value.str y t from rx);cases q;exact cW PySem.W.kitx_str I.AK True.intro e (λz=>nomatch z) h
 | flt y=>obtain⟨t,q⟩:=(show ∃t,u=Value.float y t from rx);cases q;exact cW PySem.W.kitx_float I.AK True.intro e (λz=>nomatch z) h
 | @lst a xs ea=>
  cases(show u=Value.ref a from rx)
  obtain⟨_,_,n,_,h1⟩:=(show kR X.prog X.w H s.heap a (.lst xs)from I.hok a _ ea);exact cW PySem.W.kitx_list I.AK ⟨_,h1,rfl⟩ e (λz=>nomatch z) h
 | @frz a ob xs ea=>
  cases(show u=Value.ref a from rx)
  obtain⟨_,_,_,n,_,h1⟩:=(show kR X.prog X.w H s.heap a (.frz ob (.lst xs))from I.hok a _ ea);exact cW PySem.W.kitx_list I.AK ⟨_,h1,rfl⟩ e (λz=>nomatch z) h
 | @tup a xs ea=>
  cases(show u=Value.ref a from rx)
  obtain⟨_,_,_,p⟩:=(show kR X.prog X.w H s.heap a (.tup xs)from I.hok a _ ea);obtain⟨o,h1,h2,_⟩:=p;exact cW PySem.W.kitx_tuple I.AK ⟨o,h1,h2⟩ e (λz=>nomatch z) h
 | @dK a kvs ea=>
  cases(show u=Value.ref a from rx)
  obtain⟨_,_,vs,_,p⟩:=(show kR X.prog X.w H s.heap a (.dK kvs)from I.hok a _ ea);obtain⟨o,es,ep,h1,h2,_⟩:=p;exact cW PySem.W.kitx_dict I.AK ⟨o,h1,h2.1⟩ e (λz=>nomatch z) h
 | @dT a kvs ea=>
  cases(show u=Value.ref a from rx)
  obtain⟨_,_,xs,_,o,es,ep,h1,h2,_⟩:=(show kR X.prog X.w H s.heap a (.dT kvs)from I.hok a _ ea);exact cW PySem.W.kitx_dict I.AK ⟨o,h1,h2.1⟩ e (λz=>nomatch z) h
 | @ins a C dx fs ea cl ha hn htk hm=>
  cases(show u=Value.ref a from rx)
  obtain⟨mA,O,_⟩:=Om I.hok ea;obtain⟨od,J,_⟩:=O.look;exact cW (PySem.W.kitx_own (cl.get _) cl.hd ha hn htk hm) I.AK J e (λz=>nomatch z) h
end
structure Room (k:Nat)(A:aA):Prop where
 hd:A.handled=none
 dp:A.depth+3 * k+5<recursionLimit
 un:A.units+16 * k+200<cLine
def Room.mono{k:Nat}{A:aA}(r:Room k A)(h:j<=k):Room j A:=⟨r.hd,by have:=r.dp;lia,by have:=r.un;lia⟩
def Room.deeper{k:Nat}{A:aA}(r:Room (k+1) A)(env:Env):Room k (A.deeper env):=
 ⟨r.hd,by have:=r.dp;show A.depth+1+3 * k+5<_;lia,by have:=r.un;show A.units+3+16 * k+200<_;lia⟩
def Room.depth{k:Nat}{A:aA}(r:Room k A):A.depth<recursionLimit:=by have:=r.dp;lia
def Room.units{k:Nat}{A:aA}(r:Room k A):A.units+64<cLine:=by have:=r.un;lia
abbrev Ww:TA:=λ_ H Q=>Q [] H
abbrev U8 (ta:TE)(tr:TA):TA:=λσ H Q=>ta σ H λx H1=>tr σ H1 λxs H2=>Q (x::xs) H2
section
variable {X:Cx}{e:aE}{es:List aE}{te:TE}{t:TA}{pos:Pos}
def zN:PA X [] Ww:=λ_ _ _ _ H Q I h=>Calls.spliced_nil ⟨[],H,I,.nil,h⟩
def ur(ha:PE X e te)(hr:PA X es t)(hs:starEach (e::es) X.env=(false,eval e X.env)::starEach es X.env:=by rfl):PA X (e::es) (U8 te t):=by
 intro pos pins s σ H Q I h;rw[hs]
 skip
 refine Calls.spliced_cons (kW (ha pins s σ H _ I h) λu s1 ⟨x,H1,I1,r1,q1⟩=>?_);exact kW (hr pos pins s1 σ H1 _ I1 q1) λus s2 ⟨xs,H2,I2,r2,q2⟩=>⟨x::xs,H2,I2,.cons r1 r2,q2⟩
abbrev V1 (t:TA):TE:=λσ H Q=>t σ H λxs H1=>xs.length<=sizeLine/\∀p,H1 p=none->Q (.ref p) (upd H1 p (.tup xs))
abbrev We (t:TA):TE:=λσ H Q=>t σ H λxs H1=>xs.length<=sizeLine/\∀p,H1 p=none->Q (.ref p) (upd H1 p (.lst xs))
def QC{x1}(h:PA X es t):PE X (.Tuple es x1 pos) (V1 t):=by
 intro pins s σ H Q I hq;refine wpAny_Tuple_spliced (kW (h pos pins s σ H _ I hq) λus s1 ⟨xs,H1,I1,r,z,q⟩=>⟨by rw[<- r.length];exact z,?_⟩);have hf:H1 s1.heap.objs.size=none:=I1.hok.fresh (aS _);refine⟨.ref s1.heap.objs.size,upd H1 s1.heap.objs.size (.tup xs),I1.laid (t':=s1.toks) (λb u e=>aO _ e) (aS _) ?_,rfl,q _ hf⟩;exact⟨z,us,r,⟨_,bg _ rfl,rfl,rfl,_,rfl⟩⟩
def RL(h:PA X es t):PE X (.List es pos) (We t):=by
 intro pins s σ H Q I hq;refine wpAny_List_spliced (kW (h pos pins s σ H _ I hq) λus s1 ⟨xs,H1,I1,r,z,q⟩=>⟨by rw[<- r.length];exact z,?_⟩);have hf:H1 s1.heap.objs.size=none:=I1.hok.fresh (aS _);refine⟨.ref s1.heap.objs.size,upd H1 s1.heap.objs.size (.lst xs),I1.laid (t':=s1.toks) (λb u e=>aO _ e) (aS _) ?_,rfl,q _ hf⟩;exact⟨z,us,0,r,bg _ rfl⟩
end
meta abbrev Sp:=List V->Hp->VK->XK->Prop
meta abbrev MC:=List Env->Hp->aC->XK->af->aC->Prop
structure Env0 (P:aj)(w:ah)(K:au)(mg:Str->ba)(base:aq)(A:aA)(outer:List Env)(s:aC)(H:Hp):Prop where
 frames:A.frames=some outer
 mod:Mod K mg base
 bs:∀b o,base.get? b=some o->s.heap.get? b=some o/\H b=none
 bsz:base.objs.size<=s.heap.objs.size
 xE:s.heap.FunFrames base outer
 frf:∀b∈frs outer,H b=none
 hok:uh P w H s.heap
 bare:AllBare s.gens
abbrev CE (outer:List Env)(P:aj)(w:ah)(H:Hp)(s:aC)(Q:VK)(u:af)(s':aC):Prop:=
 ∃v H',s'.os=s.os/\AllBare s'.gens/\Un (frs outer) [] H H' s.heap s'.heap/\uh P w H' s'.heap/\RelV v u/\Q v H'
abbrev CR (CX:MC)(outer:List Env)(P:aj)(w:ah)(H:Hp)(s:aC)(Q:VK)(E:XK)(r:Result)(s':aC):Prop:=
 match r with
 | .ok (.ret u)=>CE outer P w H s Q u s'
 | .ok _=>False
 | .error e=>CX outer H s E e s'
structure FnOk (P:aj)(w:ah)(K:au)(mg:Str->ba)(base:aq)(CX:MC)(k:Nat)(f:ak)(fd:FuncData)(ps:am)(sp:Sp):Prop where
 len:∀vs H Q E,sp vs H Q E->vs.length=ps.length
 run:∀(A:aA) (outer:List Env) (s:aC) (H:Hp) (args:Args) (us:ap) (vs:List V) (Q:VK) (E:XK),Room k A->Env0 P w K mg base A outer s H->BindsTo s fd args (ps.zip us)->Vals vs us->sp vs H Q E ->
  codeAny (model P w) A (.call (.ref f) args) (CR CX outer P w H s Q E) s
section
variable {X:Cx}{pins:bj}{σ:St}{H:Hp}{s s':aC}
def Inv.V9(I:Inv X pins σ H s):Env0 X.prog X.w X.K X.mg X.base X.A X.stack s H:=
 ⟨I.ok.frames,I.ok.mod,I.bs,bX I.ok.bsz I.sz,I.stack,I.Ge,I.hok,I.bare⟩
def Inv.after{Q:VK}(I:Inv X pins σ H s)(h:CE X.stack X.prog X.w H s Q u s'):EP X pins σ Q u s':=by
 obtain⟨v,H',os,bare,un,hok,r,q⟩:=h;obtain⟨hh,g,d,t,os'⟩:=s';obtain rfl:os'=s.os:=os;exact⟨v,H',I.call (h':=hh) (g':=g) (d':=d) (t':=t) (ch:=[]) un hok bare (λb z=>absurd z (by simp)),r,q⟩
end
abbrev OI (sp:Sp)(dvs:List V)(E:XK)(t:TA):TE:=λσ H Q=>t σ H λvs H1=>sp (vs++dvs) H1 Q E
abbrev Binds (K:au)(fd:FuncData)(ps:am)(ds:ap):Prop:=
 ∀(s:aC) (us:ap),K.In s.heap->(us++ds).length=ps.length->BindsTo s fd ⟨us,[]⟩ (ps.zip (us++ds))
def Binds.all{K:au}{fd:FuncData}{ps:am}(h:∀us:ap,us.length=ps.length->bindArgs fd ⟨us,[]⟩=pure (ps.zip us)):Binds K fd ps []:=λs us _ hl=>by
 rw[cX]at hl ⊢;exact .of_eq (h us hl)
abbrev Passes (CX:MC)(X:Cx)(E:XK):Prop:=∀(pins:bj) (σ:St) (H:Hp) (s:aC) (e:af) (s':aC),Inv X pins σ H s->CX X.stack H s E e s'->X.xe e s'
section
variable {X:Cx}{CX:MC}{k:Nat}{f C:ak}{fd:FuncData}{ps:am}{sp:Sp}{dvs:List V}{ds:ap}{E:XK}{x:Str}{p pos:Pos}{e:aE}{es:List aE}{t:TA}
def SE{H:Hp}{Q:VK}(F:FnOk X.prog X.w X.K X.mg X.base CX k f fd ps sp)(hr:Room k X.A)(hb:Binds X.K fd ps ds)(hd:Vals dvs ds)(hx:Passes CX X E)
  (I:Inv X pins σ H s) (r:Vals vs us) (h:sp (vs++dvs) H Q E):wpAny (model X.prog X.w) X.A (call (.ref f) us) (EP X pins σ Q) X.xe s:=by
 have r2:Vals (vs++dvs) (us++ds):=r.append hd;have hl:(us++ds).length=ps.length:=by rw[<- r2.length];exact F.len _ _ _ _ h
 refine wpAny_call (iT (F.run X.A X.stack s H ⟨us,[]⟩ (us++ds) (vs++dvs) Q E hr I.V9 (hb s us I.AK hl) r2 h) λr s' hq=>?_)
 cases r with
 | error e=>exact hx pins σ H s e s' I hq
 | ok fl=>
  cases fl with
  | ret u=>exact I.after hq
  | next=>exact False.elim hq
  | brk=>exact False.elim hq
  | cont=>exact False.elim hq
def MF(F:FnOk X.prog X.w X.K X.mg X.base CX k f fd ps sp)(hr:Room k X.A)(hg:Gl X x)(hm:X.mg x=some (.ref f))(hk:PySem.W.keepIn X.K (.ref f)=true)(hb:Binds X.K fd ps ds)(hd:Vals dvs ds)(hx:Passes CX X E)
  (ha:PA X (e::es) t) (hdb:(x == ("__debug__" : Str))=false:=by decide) (he:starEach (e::es) X.env=(false,eval e X.env)::starEach es X.env:=by rfl) (hpl:(backTo pos (starEach es X.env)).any (·.1)=false:=by rfl) :
  PE X (.Call (.Name x p) (e::es) [] pos) (OI sp dvs E t):=by
 x_go;refine iV (Ff I hg hm ?_ hdb);refine PySem.W.callWith_K (h₀:=X.base) I.ok.mod.kin hk (kW (ha pos pins s σ H _ I h) λus s1 ⟨vs,H1,I1,r,q⟩=>⟨I1.AK,?_⟩) he hpl;exact SE F hr hb hd hx I1 r q
structure Mk (K:au)(C f:ak):Prop where
 makes:PySem.W.makesIn K C=true
 init:PySem.W.findIn K (.ref C) "__init__" = some (some (.ref f))
 fn:PySem.W.isFn K (.ref f)=true
 kp:PySem.W.keepIn K (.ref C)=true
end
section
variable {fd:FuncData}{ps ks:am}
structure KBinds (K:au)(fd:FuncData)(ps ks:am)(g:ap->ap->ap)(gV:List V->List V->List V):Prop where
 to:∀(s:aC) (us ws:ap),K.In s.heap->(g us ws).length=ps.length->BindsTo s fd ⟨us,ks.zip ws⟩ (ps.zip (g us ws))
 rel:∀{vs:List V} {us:ap} {zs:List V} {ws:ap},Vals vs us->Vals zs ws->Vals (gV vs zs) (g us ws)
end
structure FnScope (N P:am)(sc:Scope):Prop where
 kind:sc.kind=.function
 co:sc.isCoroutine=false
 gen:sc.isGenerator=false
 nd:N.Nodup
 pre:N.take P.length=P
 par:∀x∈P,sc.names.lookup x=some .local\/sc.names.lookup x=some .cell
 nofree:∀y∈sc.names,y.2≠.free
theorem zC{kindOf:Str->Option NameKind}{x:Str}:∀{binds:List (Str×af)}{m:Str->ba},(∀v,(x,v)∉binds)->bindL kindOf binds m x=m x
 | [],_,_=>rfl
 | (n,v)::r,m,h=>by
  unfold bindL;rw[zC λw hw=>h w (aQ _ hw)];split
  ·have:x≠n:=by rintro rfl;exact h v aP
   simp[this]
  ·rfl
theorem zd{kindOf:Str->Option NameKind}{x:Str}:∀{binds:List (Str×af)}{m:Str->ba},(∀v,(x,v)∉binds)->bindC kindOf binds m x=m x
 | [],_,_=>rfl
 | (n,v)::r,m,h=>by
  unfold bindC;rw[zd λw hw=>h w (aQ _ hw)];split
  ·rfl
  ·have:x≠n:=by rintro rfl;exact h v aP
   simp[this]
theorem zu{kindOf:Str->Option NameKind}{x:Str}{v:af}:∀{P:am}{vs:ap}{i:Nat}{m:Str->ba},P.Nodup->P[i]?=some x->vs[i]?=some v->kindOf x=some .local ->
  bindL kindOf (P.zip vs) m x=some v
 | [],_,_,_,_,h,_,_=>by simp at h
 | _::_,[],_,_,_,_,h,_=>by simp at h
 | p::P,w::vs,0,m,nd,h1,h2,hk=>by
  simp at h1 h2;subst h1;subst h2;show bindL kindOf ((p,w)::P.zip vs) m p=_;unfold bindL;rw[zC λv hv=>(fH.mp nd).1 (ju hv).1,aN hk];simp
 | p::P,w::vs,i+1,m,nd,h1,h2,hk=>by
  skip
  unfold bindL;exact zu (i:=i) (fH.mp nd).2 (by simpa using h1) (by simpa using h2) hk
theorem zw{kindOf:Str->Option NameKind}{x:Str}{v:af}:∀{P:am}{vs:ap}{i:Nat}{m:Str->ba},P.Nodup->P[i]?=some x->vs[i]?=some v->kindOf x≠some .local ->
  bindC kindOf (P.zip vs) m x=some v
 | [],_,_,_,_,h,_,_=>by simp at h
 | _::_,[],_,_,_,_,h,_=>by simp at h
 | p::P,w::vs,0,m,nd,h1,h2,hk=>by
  simp at h1 h2;subst h1;subst h2;show bindC kindOf ((p,w)::P.zip vs) m p=_;unfold bindC;rw[zd λv hv=>(fH.mp nd).1 (ju hv).1,aM hk];simp
 | p::P,w::vs,i+1,m,nd,h1,h2,hk=>by
  skip
  unfold bindC;exact zw (i:=i) (fH.mp nd).2 (by simpa using h1) (by simpa using h2) hk
abbrev start (N:am)(vs:List V):St:=vs.map some++List.replicate (N.length-vs.length) none
abbrev Dz (CX:MC)(P:aj)(w:ah)(K:au)(mg:Str->ba)(base:aq)(N:am)(qual:Str)(scope:Scope)(f:ak)(cd:af)(A:aA)(outer:List Env)(s:aC)(H:Hp)(E:XK):Cx where
 prog:=P
 w:=w
 K:=K
 mg:=mg
 base:=base
 A:=A.deeper (envOfC qual scope s.heap.objs.size f cd)
 N:=N
 s₀:=s
 H₀:=H
 env:=envOfC qual scope s.heap.objs.size f cd
 outer:=outer
 stack:=envOfC qual scope s.heap.objs.size f cd::outer
 ex:=[]
 calm:=true
 fn:=λ_=>true
 pn:=[]
 xe:=λe s'=>wpAny (model P w) (A.deeper (envOfC qual scope s.heap.objs.size f cd)) (leaving (envOfC qual scope s.heap.objs.size f cd) e) (λ_ s''=>CX outer H s E e s'') (λe' s''=>CX outer H s E e' s'') s'
def BI{sc:Scope}{n:Nat}{x:Str}(h:sc.names.lookup x=some .cell):∃c,(cellsFrom n sc.names []).lookup x=some c:=by
 have q:=PySem.W.cellsFrom_some sc.names n [] (.inl h);exact gc.mp q
def GS{CX:MC}{P:aj}{w:ah}{K:au}{mg:Str->ba}{base:aq}{N ps:am}{scope:Scope}{f:ak}{A:aA}{outer:List Env}{s:aC}{H:Hp}{E:XK}{vs:List V}
  (S:FnScope N ps scope) (hd:A.handled=none) (e0:Env0 P w K mg base A outer s H) (hl:vs.length=ps.length) (r:Vals vs us)
  (x:InCallC s s.heap.objs.size (bindL (envOfC qual scope s.heap.objs.size f cd).kindOf (ps.zip us) λ_=>none) (cellsFrom (s.heap.objs.size+1) scope.names []) (bindC (envOfC qual scope s.heap.objs.size f cd).kindOf (ps.zip us) λ_=>none) s1) :
  Inv (Dz CX P w K mg base N qual scope f cd A outer s H E) [] (start N vs) H s1:=by
 have hpl:ps.length<=N.length:=by have:=dO List.length S.pre;rw[bB]at this;lia
 obtain⟨h1,tk,rfl,hk⟩:=x.done;have noA:∀b:ak,b∉(Dz CX P w K mg base N qual scope f cd A outer s H E).ex:=λb z=>absurd (show b∈([]:ar)from z) (by simp);refine⟨⟨e0.mod,S.kind,rfl,rfl,aS _,λy z c h1 h2=>?_,λy hy=>?_,λy c _ h=>?_,λ_=>hd,Around.frames_deeper e0.frames,.inr ⟨rfl,rfl⟩,λb z=>absurd z (noA b),e0.bs,e0.bsz,λb _ _=>noA b,λb z=>absurd z (noA b),e0.xE,e0.frf⟩,
  rfl,e0.bare,Un.kept hk,⟨_,x.toInCall.ns,λi y v h1 h2 h3=>?_⟩,λy c h=>⟨_,x.cell y c h⟩,e0.hok.fresh (aS _),λy c h=>?_,λp hp=>absurd (show p∈([]:bj)from hp) (by simp),e0.hok.kept hk,?_⟩
 ·exact name_of_addr x.apart (e_ h1) (e_ h2)
 ·have hy:scope.names.lookup y=some .cell\/scope.names.lookup y=some .free:=hy
  rcases hy with hy|hy
  ·exact BI hy
  ·exact absurd rfl (S.nofree _ (e_ hy))
 ·exact jm (x.above y c (e_ h))
 ·have hi:i<vs.length:=by
   unfold start at h2;by_cases hi:i<vs.length
   ·exact hi
   ·rw[eF (by simpa using hi)]at h2;rw[gC]at h2;split at h2<;>cases h2
  have ha:vs[i]?=some v:=by
   unfold start at h2;rw[bC (by simpa using hi),aR]at h2
   cases e:vs[i]? with
   | none=>rw[e]at h2;cases h2
   | some a=>rw[e]at h2;cases h2;rfl
  obtain⟨u,hu,rv⟩:=r.get ha;have hp:ps[i]?=some y:=by
   rw[<- S.pre,dm ()];exact h1
  have ndP:ps.Nodup:=by rw[<- S.pre];exact S.nd.sublist (List.take_sublist _ _)
  refine⟨u,rv,?_⟩
  rcases S.par y (aZ hp)with k|k
  ·exact .inl ⟨k,zu ndP hp hu k⟩
  ·obtain⟨c,e⟩:=BI (n:=s.heap.objs.size+1) k;refine .inr ⟨.inl k,c,e,?_⟩;have q:=x.cell y c e;rw[zw ndP hp hu (by show scope.names.lookup y≠_;rw[k];decide)]at q;exact q
 ·exact e0.hok.fresh (jm (x.above y c (e_ h)))
 ·unfold start;show _=N.length;rw[aU,aL,List.length_replicate]
  lia
def Ua{CX:MC}{P:aj}{w:ah}{K:au}{mg:Str->ba}{base:aq}{k:Nat}{f:ak}{kV pm ct:af}
  {osl:Array (ba)} {N ps:am} {sp:Sp} (lk:K.lookup f=some ⟨oc,od,.func (PySem.W.fnOf name qual params body scope dV kV doc pm an cdv ct),osl⟩) (hcd:PySem.W.codeIn K cdv qual=true) (S:FnScope N ps scope)
  (len:∀vs H Q E,sp vs H Q E->vs.length=ps.length)
  (hbody:∀(A:aA) (outer:List Env) (s:aC) (H:Hp) (vs:List V) (Q:VK) (E:XK),Room k (A.deeper (envOfC qual scope s.heap.objs.size f cdv))->sp vs H Q E ->
   ∃t,A1 (Dz CX P w K mg base N qual scope f cdv A outer s H E) body t/\t { nx:=λ_ H'=>Q .non H',rt:=Q } (start N vs) H) :
  FnOk P w K mg base CX (k+1) f (PySem.W.fnOf name qual params body scope dV kV doc pm an cdv ct) ps sp:=by
 refine⟨len,λA outer s H args us vs Q E hr e0 hb r hsp=>?_⟩;have hl:=len _ _ _ _ hsp;have KX:K.In s.heap:=e0.mod.kin.keeps λb o e=>(e0.bs b o e).1;have lim:s.heap.NoLimit:=e0.mod.nolimit.keeps λb o e=>(e0.bs b o e).1;have hkind:∀y∈ps.zip us,scope.names.lookup y.1=some .local\/(scope.names.lookup y.1=some .cell/\((cellsFrom (s.heap.objs.size+1) scope.names []).lookup y.1).isSome=true):=λ⟨n,v⟩ hy=>by
  rcases S.par n (ju hy).1 with q|q
  ·exact .inl q
  ·exact .inr ⟨q,PySem.W.cellsFrom_some _ _ _ (.inl q)⟩
 refine codeAny_call_function hr.depth (KX _ _ lk) rfl S.co S.gen rfl (PySem.W.codeRec_of KX hcd) (hb _ _ _ _ ?_);refine wpAny_newFunctionEnv_cells S.kind hkind λenv he s1 x=>?_;subst he;refine⟨lim.keeps x.toInCall.keep,codeAny_func ?_⟩;obtain⟨t,ht,hq⟩:=hbody A outer s H vs Q E (hr.deeper _) hsp;have I:Inv (Dz CX P w K mg base N qual scope f cdv A outer s H E) [] (start N vs) H s1:=GS S hr.hd e0 hl r x;refine fu (ht [] s1 (start N vs) H _ I hq) (λfl s' hs=>?_) λe s' hs=>hs;have fin:∀{σ':St} {H':Hp} {v:V} {u:af},Inv (Dz CX P w K mg base N qual scope f cdv A outer s H E) [] σ' H' s'->RelV v u->Q v H'->CE outer P w H s Q u s':=
  λ{σ' H' v u} J rv q=>⟨v,H',J.os,J.bare,J.base,J.hok,rv,q⟩
 cases fl with
 | ret u=>
  obtain⟨v,σ',H',J,rv,q⟩:=hs;exact fin J rv q
 | next=>
  obtain⟨σ',H',J,q⟩:=hs;exact fin (v:=V.non) (u:=Value.none) J rfl q
 | brk=>
  obtain⟨_,_,_,q⟩:=hs;exact False.elim q
 | cont=>
  obtain⟨_,_,_,q⟩:=hs;exact False.elim q
section
variable {X:Cx}{x:Str}{p pos:Pos}{e:aE}{es:List aE}{t:TA}{id T:String}{r:List V->Hp->VK->Prop}
abbrev Wl (r:List V->Hp->VK->Prop)(t:TA):TE:=λσ H Q=>t σ H λvs H1=>r vs H1 Q
def HK(hc:j_ X (.builtin id) r)(hg:Gl X x)(hm:X.mg x=none)(hv:bootBuiltins x=some (.builtin id))(ha:PA X (e::es) t)(hn:x ≠ "__name__" := by decide)(hdb:(x == ("__debug__" : Str))=false:=by decide)
  (he:starEach (e::es) X.env=(false,eval e X.env)::starEach es X.env:=by rfl) (hpl:(backTo pos (starEach es X.env)).any (·.1)=false:=by rfl):PE X (.Call (.Name x p) (e::es) [] pos) (Wl r t):=by
 x_go;refine iV (xy I hg hm hv ?_ hn hdb);exact PyProof.Rows.callWith_builtin1 (kW (ha pos pins s σ H _ I h) λus s1 ⟨vs,H1,I1,r1,q1⟩=>hc pins s1 σ H1 vs us Q I1 r1 q1) he hpl
def zH(hc:j_ X (.type T) r)(hg:Gl X x)(hm:X.mg x=none)(hv:bootBuiltins x=some (.type T))(ha:PA X (e::es) t)(hn:x ≠ "__name__" := by decide)(hdb:(x == ("__debug__" : Str))=false:=by decide)
  (he:starEach (e::es) X.env=(false,eval e X.env)::starEach es X.env:=by rfl) (hpl:(backTo pos (starEach es X.env)).any (·.1)=false:=by rfl):PE X (.Call (.Name x p) (e::es) [] pos) (Wl r t):=by
 x_go;refine iV (xy I hg hm hv ?_ hn hdb);exact fN (kW (ha pos pins s σ H _ I h) λus s1 ⟨vs,H1,I1,r1,q1⟩=>hc pins s1 σ H1 vs us Q I1 r1 q1) he hpl
end
end L2
namespace HT
open PySem PyProof.Rows
abbrev lexLt:ae->ae->Bool
 | [],[]=>false
 | [],_::_=>true
 | _::_,[]=>false
 | x::xs,y::ys=>if x=y then lexLt xs ys else decide (x<y)
def mR(x y:Int)(xs ys:ae):lexLt (x::xs) (y::ys)=if x=y then lexLt xs ys else decide (x<y):=rfl
def pZ:lexLt [] []=false:=rfl
def nu(y:Int)(ys:ae):lexLt [] (y::ys)=true:=rfl
def oQ(x:Int)(xs:ae):lexLt (x::xs) []=false:=rfl
section
variable {prog:aj}{w:ah}{A:aA}{E:af->aC->Prop}{s:aC}
def MP{t:ak}{vs ws:ap}{Q:af->aC->Prop}(ht:IsTup s.heap t vs.toArray)(hb:IsTup s.heap b ws.toArray)(hv:vs≠[])
  (h1:ws=[]->Q (.ref t) s) (h2:ws≠[]->Q (.ref s.heap.objs.size) { s with heap:=s.heap.push { cls:=.type "tuple",data:=.seq (vs++ws).toArray }})
  (hsz:vs.length+ws.length<=sizeLine):wpAny (model prog w) A (binaryOp .Add (.ref t) (.ref b)) Q E s:=by
 obtain⟨⟨cls,dd,data,sl⟩,ho,hc,n,hd⟩:=id ht;obtain⟨⟨cls2,dd2,data2,sl2⟩,ho2,hc2,n2,hd2⟩:=id hb;simp only at hc hd hc2 hd2;subst hc hd hc2 hd2;have e:vs.toArray++ws.toArray=(vs++ws).toArray:=by simp
 by_cases hw:ws=[]
 ·exact concat_meets ⟨_,ho,rfl⟩ ⟨_,ho2,rfl⟩ noFill_tuple_add seq_tuple_add gH gD (gf _ _)
   (tuple_addW1 t b vs.toArray ws.toArray n n2 dd dd2 sl sl2 (by simpa using hv) (by simp[hw])) ⟨ho,ho2,h1 hw⟩
 ·refine concat_meets ⟨_,ho,rfl⟩ ⟨_,ho2,rfl⟩ noFill_tuple_add seq_tuple_add gH gD (gf _ _)
   (tuple_addW2 t b vs.toArray ws.toArray n n2 dd dd2 sl sl2 (by simpa using hv) (by simpa using hw) (by rw[aT,aT];exact hsz)) ⟨ho,ho2,?_⟩
  rw[e];exact h2 hw
abbrev mC (n d:Nat):bb->Nat
 | none=>d
 | some v=>if v<0 then(v+(n:Int)).toNat else min v.toNat n
def Bt(n d:Nat):mC n d none=d:=rfl
def qt(n d k:Nat):mC n d (some (k:Int))=min k n:=by
 show(if (k:Int)<0 then((k:Int)+(n:Int)).toNat else min (k:Int).toNat n)=min k n;rw[aM (),cC]
def Qa(n d:Nat)(hd:d<=n)(o:bb):mC n d o<=n:=by
 cases o with
 | none=>exact hd
 | some v=>
  show(if v<0 then(v+(n:Int)).toNat else min v.toNat n)<=n;by_cases hv:v<0
  ·rw[aN hv];lia
  ·rw[aM hv];exact Nat.min_le_right _ _
def EL(v:Int)(n d:Nat):(if v<0 then max (v+(n:Int)) 0 else min v (n:Int))=((mC n d (some v):Nat):Int):=by
 show(if v<0 then max (v+(n:Int)) 0 else min v (n:Int))=(((if v<0 then(v+(n:Int)).toNat else min v.toNat n):Nat):Int);by_cases hv:v<0
 ·dsimp[aN hv];lia
 ·dsimp[aM hv];lia
def C3(lo hi:bb)(n:Nat):Builtin.Slice.sliceAdjust lo hi 1 (n:Int)=(((mC n 0 lo:Nat):Int),((mC n n hi:Nat):Int)):=by
 have h1:¬((1:Int)<0):=()
 unfold Builtin.Slice.sliceAdjust;dsimp[h1,b8];refine Prod.ext ?_ ?_
 ·cases lo with
  | none=>rfl
  | some v=>exact EL v n 0
 ·cases hi with
  | none=>rfl
  | some v=>exact EL v n n
def Dp(i j:Nat):Builtin.Slice.slicePlaces (i:Int) (j:Int) 1=j-i:=by
 unfold Builtin.Slice.slicePlaces;have h1:(1:Int)>0:=()
 dsimp[h1,c6,Int.ediv_one];split<;>lia
def xU{v:af}{Q:bb->aC->Prop}(p:IsPart v o)(h:Q o s):wpAny (model prog w) A (Builtin.Slice.slicePartIndex v) Q E s:=by
 cases p with
 | none=>exact slicePart_none h
 | int i t=>exact slicePart_int h
def vP{lo hi:bb}{n:Nat}{Q:Int×Int×Nat->aC->Prop}(hs:s.heap.IsSliceOf sl vl vu .none)(pl:IsPart vl lo)(pu:IsPart vu hi)
  (h:Q (((mC n 0 lo:Nat):Int),1,mC n n hi-mC n 0 lo) s):wpAny (model prog w) A (Builtin.Slice.sliceApplied (.ref sl) (pure (n:Int))) Q E s:=by
 obtain⟨os,hos,hcs,hds⟩:=id hs;unfold Builtin.Slice.sliceApplied Builtin.Slice.sliceFields;refine aG (aG (eg hos hds (x:=vl) rfl (aG (eg hos hds (x:=vu) rfl (aG (eg hos hds (x:=.none) rfl (aJ ?_)))))));refine aG (slicePart_none ?_)
 skip
 rw[aM ⋯];refine aG (xU pl (aG (xU pu (aG (aJ ?_)))));show wpAny _ _ (match Builtin.Slice.sliceAdjust lo hi 1 (n:Int)with|(lo,hi)=>pure (lo,(1:Int),Builtin.Slice.slicePlaces lo hi 1)) _ _ s;rw[C3 lo hi n];show wpAny _ _ (pure (((mC n 0 lo:Nat):Int),(1:Int),Builtin.Slice.slicePlaces ((mC n 0 lo:Nat):Int) ((mC n n hi:Nat):Int) 1)) _ _ s;rw[Dp];exact aJ h
def IJ(xs:Array af)(i k:Nat):((List.range k).filterMap λ(m:Nat)=>xs[((i:Int)+(m:Int) * 1).toNat]?).toArray=((xs.toList.drop i).take k).toArray:=by
 have e:(λ(m:Nat)=>xs[((i:Int)+(m:Int) * 1).toNat]?)=λm=>xs[i+m]?:=by
  funext m
  have:((i:Int)+(m:Int) * 1).toNat=i+m:=()
  rw[this]
 rw[e];have:=pick_run xs i k;rw[iW]at this;have e2:((λx=>xs[x]?) ∘ λx=>i+x)=λm=>xs[i+m]?:=rfl;rw[e2]at this;rw[this]
def uR{t:ak}{items:Array af}{lo hi:bb}{Q:af->aC->Prop}(ht:IsTup s.heap t items)(hs:s.heap.IsSliceOf sl vl vu .none)(pl:IsPart vl lo)(pu:IsPart vu hi)
  (hw:¬(mC items.size 0 lo=0/\mC items.size items.size hi=items.size))
  (h:Q (.ref s.heap.objs.size) { s with heap:=s.heap.push { cls:=.type "tuple",data:=.seq ((items.toList.drop (mC items.size 0 lo)).take (mC items.size items.size hi-mC items.size 0 lo)).toArray }})
  (hsz:items.size<=sizeLine):wpAny (model prog w) A (getItem (.ref t) (.ref sl)) Q E s:=by
 have htake:sizeOk (.seq ((items.toList.drop (mC items.size 0 lo)).take (mC items.size items.size hi-mC items.size 0 lo)).toArray):=by
  show((items.toList.drop (mC items.size 0 lo)).take (mC items.size items.size hi-mC items.size 0 lo)).toArray.size<=sizeLine;rw[aT,bB,cN,cY];omega
 have hj:mC items.size items.size hi<=items.size:=Qa _ _ (aS _) hi;obtain⟨os,hos,hcs,hds⟩:=id hs;have hTs:s.TypeIs (.ref sl) "slice" := ⟨os,hos,hcs⟩;unfold getItem
 try with_reducible refine dj ?_
 first|refine aG (aJ ?_)|skip
 refine aG (wpAny_sequenceKey ht.typeIs ⋯ ?_);refine aG (cO (name:=Str.ofString "__getitem__") ht.typeIs cI
  (b7 cI ht.typeIs entry_tuple_getitem ?_ (args_tuple_getitem _ _)))
 show wpAny _ _ (Builtin.Tuple.tupleItemsOf (.ref t) >>= _) _ _ s;refine aG (tupleItemsOf_ ht ?_);refine aG (jn hTs ?_);rw[aN ⋯];refine aG (vP hs pl pu ?_);have hno:¬((((mC items.size 0 lo:Nat):Int) == 0 && (1:Int) == 1 && (mC items.size items.size hi-mC items.size 0 lo) == items.size)=true):=by
  intro q;rw[dP,dP]at q;have q1:((mC items.size 0 lo:Nat):Int)=0:=eq_of_beq q.1.1;have q2:mC items.size items.size hi-mC items.size 0 lo=items.size:=eq_of_beq q.2;exact hw ⟨by omega,by omega⟩
 show wpAny _ _ (if (((mC items.size 0 lo:Nat):Int) == 0 && (1:Int) == 1 && (mC items.size items.size hi-mC items.size 0 lo) == items.size)=true then _ else _) _ _ s;rw[aM hno,IJ]
 first
  | exact aG (m:=Builtin.Tuple.tupleExact _) (bD (aJ ⟨_,rfl,aJ h⟩) htake)
  | exact aG (m:=Builtin.Tuple.tupleExact _) (bD (aG (aJ (aJ ⟨_,rfl,aJ h⟩))) htake)
  | exact aG (aG (m:=Builtin.Tuple.tupleExact _) (bD (aJ (aJ ⟨_,rfl,aJ h⟩)) htake))
  | exact aG (aG (m:=Builtin.Tuple.tupleExact _) (bD (aJ ⟨_,rfl,aJ h⟩) htake))
end
end HT
namespace L2
open PySem PySem.Spec PyProof.Rows
meta abbrev TO:=St->Hp->(bb->Hp->Prop)->Prop
abbrev PO (X:Cx)(e:Option aE)(t:TO):Prop:=
 ∀(pins:bj) (s:aC) (σ:St) (H:Hp) (Q:bb->Hp->Prop),Inv X pins σ H s->t σ H Q ->
  wpAny (model X.prog X.w) X.A (evalPart e X.env) (λu s'=>∃o H',Inv X pins σ H' s'/\IsPart u o/\Q o H') X.xe s
abbrev MU:TO:=λ_ H Q=>Q none H
abbrev UZ (t:TE):TO:=λσ H Q=>t σ H λx H1=>∃i,x=.int i/\Q (some i) H1
def intsAre_of{ns:ae}:∀{us:ap},Vals (ns.map V.int) us->IntsAre us ns:=by
 induction ns with
 | nil=>intro us r;rw[map_nil]at r;cases r;exact .nil
 | cons n ns ih=>
  intro us r;rw[bI]at r
  cases r with
  | cons r1 r2=>
   obtain⟨t,e⟩:=r1;subst e;exact .cons n t (ih r2)
section
variable {X:Cx}{e:aE}{te:TE}{lo hi:Option aE}{tl th:TO}{pos p2:Pos}
def Oc:PO X none MU:=by
 x_go;rw[je];exact aJ ⟨none,H,I,.none,h⟩
def ML(h:PE X e te):PO X (some e) (UZ te):=by
 intro pins s σ H Q I hw;rw[evalPart_some];refine kW (h pins s σ H _ I hw) λu s1 ⟨x,H1,I1,r1,q1⟩=>?_;obtain⟨i,rfl,q⟩:=q1;obtain⟨t,rfl⟩:=r1;exact⟨some i,H1,I1,.int i t,q⟩
abbrev Vr (X:Cx)(r:V->bb->bb->Hp->VK->Prop):Prop:=
 ∀(pins:bj) (s:aC) (σ:St) (H:Hp) (x:V) (v vl vu:af) (lo hi:bb) (sl:ak) (Q:VK),Inv X pins σ H s->RelV x v->s.heap.IsSliceOf sl vl vu .none->IsPart vl lo->IsPart vu hi->r x lo hi H Q ->
  ∃T id,typeLookup (.type T) "__getitem__" = pure (some (.builtin id))/\s.TypeIs v T/\wpAny (model X.prog X.w) X.A (getItem v (.ref sl)) (EP X pins σ Q) X.xe s
abbrev Xo (r:V->bb->bb->Hp->VK->Prop)(te:TE)(tl th:TO):TE:=λσ H Q=>te σ H λx H1=>tl σ H1 λl H2=>th σ H2 λu H3=>r x l u H3 Q
def Kz{r:V->bb->bb->Hp->VK->Prop}(hr:Vr X r)(he:PE X e te)(hl:PO X lo tl)(hu:PO X hi th):PE X (.Subscript e (.Slice lo hi none p2) pos) (Xo r te tl th):=by
 x_go;refine Subscript_ (kW (he pins s σ H _ I h) λv s1 ⟨x,H1,I1,r1,q1⟩=>?_);refine wpAny_Slice (kW (hl pins s1 σ H1 _ I1 q1) λvl s2 ⟨l,H2,I2,pl,q2⟩=>kW (hu pins s2 σ H2 _ I2 q2) λvu s3 ⟨u,H3,I3,pu,q3⟩=>?_);rw[je];refine aJ ?_;have I4:Inv X pins σ H3 { s3 with heap:=s3.heap.push { cls:=.type "slice",data:=.fields #[vl,vu,.none]}}:=I3.kept (t':=s3.toks) λb ob q=>aO _ q;obtain⟨T,id,hT,ht,hg⟩:=hr pins { s3 with heap:=s3.heap.push { cls:=.type "slice",data:=.fields #[vl,vu,.none]}} σ H3 x v vl vu l u s3.heap.objs.size Q I4 r1 (iX ..) pl pu q3
 skip
 exact tail_any (ops:=[.ref s3.heap.objs.size,v]) ht hT hg (by with_unfolding_all rfl)
abbrev BF (xs:List V)(lo hi:bb):List V:=(xs.drop (HT.mC xs.length 0 lo)).take (HT.mC xs.length xs.length hi-HT.mC xs.length 0 lo)
def vZ(xs:List V)(lo hi:bb):(BF xs lo hi).length<=xs.length:=by
 unfold BF;rw[bB,cN]
 lia
abbrev VC (K:au):V->bb->bb->Hp->VK->Prop:=λx lo hi H Q=>∃a xs,x=.ref a/\ni K H a xs /\
 ¬(HT.mC xs.length 0 lo=0/\HT.mC xs.length xs.length hi=xs.length)/\∀p,H p=none->Q (.ref p) (upd H p (.tup (BF xs lo hi)))
def RB:Vr X (VC X.K):=by
 intro pins s σ H x v vl vu lo hi sl Q I rx hs pl pu h;obtain⟨a,xs,rfl,hx,hw,q⟩:=h
 cases rx
 obtain⟨its,r,ht,hz⟩:=I.tuple hx;have hlen:its.toArray.size=xs.length:=by rw[aT];exact r.length.symm
 refine⟨"tuple",_,cI.lookup,ht.typeIs,?_⟩;refine HT.uR ht hs pl pu (by rw[hlen];exact hw) ?_ (by rw[hlen];exact hz);rw[hlen];refine⟨.ref s.heap.objs.size,_,I.laid (t':=s.toks) (o:=.tup (BF xs lo hi)) (λb ob q=>aO _ q) (aS _) ?_,rfl,q _ (I.hok.fresh (aS _))⟩;exact⟨bX (vZ xs lo hi) hz,_,(r.drop (HT.mC xs.length 0 lo)).take (HT.mC xs.length xs.length hi-HT.mC xs.length 0 lo),nM.new _ _⟩
abbrev Uy (K:au):R2:=λx y H Q=>∃a b xs ys,x=.ref a/\y=.ref b/\ni K H a xs/\ni K H b ys/\xs≠[]/\xs.length+ys.length<=sizeLine /\
 (ys=[]->Q (.ref a) H)/\(ys≠[]->∀p,H p=none->Q (.ref p) (upd H p (.tup (xs++ys))))
def Vals.z_(r:Vals xs us):us=[] ↔ xs=[]:=by
 cases r with
 | nil=>simp
 | cons _ _=>simp
def MG:n8 X (binaryOp .Add) (Uy X.K):=by
 gn_on;obtain⟨a,b,xs,ys,rfl,rfl,ha,hb,hx,hz,q1,q2⟩:=h
 cases rx
 cases ry
 obtain⟨its,r1,p1,_⟩:=I.tuple ha;obtain⟨its2,r2,p2,_⟩:=I.tuple hb;refine HT.MP p1 p2 (λz=>hx (r1.z_.mp z)) (λz=>⟨.ref a,H,I,rfl,q1 (r2.z_.mp z)⟩) (λz=>?_) (by rw[<- r1.length,<- r2.length];exact hz);refine⟨.ref s.heap.objs.size,_,I.laid (t':=s.toks) (o:=.tup (xs++ys)) (λb ob q=>aO _ q) (aS _) ?_,rfl,q2 (λw=>z (r2.z_.mpr w)) _ (I.hok.fresh (aS _))⟩;exact⟨by rw[aU];exact hz,_,r1.append r2,nM.new _ _⟩
end
abbrev yM (n:Nat)(i:Int):bi:=if 0<=i then(if i<n then some i.toNat else none)else if -(n:Int)<=i then some (i+n).toNat else none
abbrev nY {α:Type}(xs:List α)(i:Int):Option α:=(yM xs.length i).bind λj=>xs[j]?
def EF{n:Nat}{i:Int}(h:yM n i=some j):seqIndex? i n=some j/\j<n/\-(n:Int)<=i/\i<n:=by
 unfold yM at h;by_cases h0:0<=i
 ·rw[aN h0]at h;by_cases h1:i<n
  ·rw[aN h1]at h;have e:i.toNat=j:=aW h;exact⟨by rw[seqIndex_of h0 h1,e],(),(),h1⟩
  ·rw[aM h1]at h;cases h
 ·rw[aM h0]at h;by_cases h1:-(n:Int)<=i
  ·rw[aN h1]at h;have e:(i+n).toNat=j:=aW h;exact⟨by rw[seqIndex_neg () h1,e],(),h1,()⟩
  ·rw[aM h1]at h;cases h
def AM{α:Type}{xs:List α}{i:Int}{v:α}(h:nY xs i=some v):∃j,seqIndex? i xs.length=some j/\xs[j]?=some v/\j<xs.length/\-(xs.length:Int)<=i/\i<xs.length:=by
 unfold nY at h
 cases e:yM xs.length i with
 | none=>rw[e]at h;cases h
 | some j=>
  rw[e]at h;obtain⟨h1,h2,h3,h4⟩:=EF e;exact⟨j,h1,h,h2,h3,h4⟩
def M7{α:Type}{xs:List α}{j:Nat}{v:α}(h:xs[j]?=some v):nY xs (j:Int)=some v:=by
 have hj:j<xs.length:=(aK.mp h).1;have e:yM xs.length (j:Int)=some j:=by
  unfold yM;rw[aN (),aN ()];simp
 unfold nY;rw[e];exact h
def B0{α:Type}(xs:List α)(v:α):nY (xs++[v]) (-1)=some v:=by
 have hl:(xs++[v]).length=xs.length+1:=by simp
 have e:yM (xs++[v]).length (-1)=some xs.length:=by
  unfold yM;rw[hl,aM ⋯,aN ()];congr 1
  lia
 unfold nY;rw[e]
 skip
 simp
abbrev Ay (b:aE):Prop:=∀o i,subscripted b false o i=operate [o,i] (getItem o i)
abbrev Rg (X:Cx)(r:R2):Prop:=
 ∀(value slice:aE) (pins:bj) (s:aC) (σ:St) (H:Hp) (x y:V) (v u:af) (Q:VK),Inv X pins σ H s->RelV x v->RelV y u->r x y H Q ->
  subscripted slice false v u=operate [v,u] (getItem v u)->wpAny (model X.prog X.w) X.A (subscriptTail value slice v u) (EP X pins σ Q) X.xe s
abbrev Jf (X:Cx)(id:String)(r:V->List V->Hp->VK->Prop):Prop:=
 ∀(pins:bj) (s:aC) (σ:St) (H:Hp) (x:V) (xs:List V) (v:af) (us:ap) (Q:VK),Inv X pins σ H s->RelV x v->Vals xs us->r x xs H Q ->
  wpAny (model X.prog X.w) X.A (call (.builtin id) (v::us)) (EP X pins σ Q) X.xe s
section
variable {X:Cx}{a b:aE}{ta tb:TE}{pos:Pos}
def OP{r:R2}(hr:Rg X r)(ha:PE X a ta)(hb:PE X b tb)(hs:Ay b):PE X (.Subscript a b pos) (U5 r ta tb):=by
 x_go;exact Subscript_ (Sn ha hb I h λv u s2 x y H2 I2 rx ry q=>hr a b pins s2 σ H2 x y v u Q I2 rx ry q (hs _ _))
abbrev Wn (K:au):R2:=λx y H Q=>∃p xs i v,x=.ref p/\y=.int i/\nH K H p xs/\nY xs i=some v/\Q v H
abbrev VL (K:au):R2:=λx y H Q=>∃p xs i v,x=.ref p/\y=.int i/\ni K H p xs/\nY xs i=some v/\Q v H
abbrev VR:R2:=λx y H Q=>∃z i c,x=.str z/\y=.int i/\z.length<=sizeLine/\nY z.cps.toList i=some c/\Q (.str ⟨#[c]⟩) H
def DY:Rg X (Wn X.K):=by
 mg_lt;obtain⟨p,xs,i,z,rfl,rfl,hq,he,q⟩:=h
 cases rx
 obtain⟨t,rfl⟩:=ry;obtain⟨its,r,pl,hz⟩:=I.list hq;obtain⟨j,h1,h2,h3,h4,h5⟩:=AM he;obtain⟨w,ew,rw'⟩:=r.get h2;have hl:=r.length;have hn:=r6;have fin:EP X pins σ Q w s:=⟨z,H,I,rw',q⟩;by_cases h0:0<=i
 ·have hj:i.toNat=j:=by
   rw[seqIndex_of h0 h5]at h1;exact aW h1
  exact item_listR pl.isList h0 () (by rw[hj];simpa using ew) fin hs
 ·have hj:(i+(its.toArray.size:Int)).toNat=j:=by
   rw[seqIndex_neg () h4]at h1;rw[aT,<- hl];exact aW h1
  exact subscriptTail_builtinR (x:=w) pl.isList.typeIs jb.lookup
   (wpAny_getItem_list_neg (Q:=λr s'=>r=w/\EP X pins σ Q r s') pl.isList () (by rw[aT]<;>lia) () (by rw[hj];simpa using ew) ⟨rfl,fin⟩) hs
def RX:Rg X (VL X.K):=by
 mg_lt;obtain⟨p,xs,i,z,rfl,rfl,hq,he,q⟩:=h
 cases rx
 obtain⟨t,rfl⟩:=ry;obtain⟨its,r,pl,hz⟩:=I.tuple hq;obtain⟨j,h1,h2,h3,h4,h5⟩:=AM he;obtain⟨w,ew,rw'⟩:=r.get h2;have hl:=r.length;have hn:=r6;have fin:EP X pins σ Q w s:=⟨z,H,I,rw',q⟩;exact subscriptTail_builtinR (x:=w) pl.typeIs slot_tuple_getitem.lookup
  (getItem_tuple (j:=j) (Q:=λr s'=>r=w/\EP X pins σ Q r s') pl () () (by rw[aT,<- hl];exact h1) (by simpa using ew) ⟨rfl,fin⟩) hs
def Sb:Rg X VR:=by
 mg_lt;obtain⟨z,i,c,rfl,rfl,hz,he,q⟩:=h;kl_no;obtain⟨t',rfl⟩:=ry;obtain⟨j,h1,h2,h3,h4,h5⟩:=AM he;have hl:z.cps.toList.length=z.length:=by simp[Str.length]
 rw[hl]at h1 h4 h5;have hn:=r6;exact tail_any (typeIs_str s z t) slot_str_getitem.lookup (getItem_str (c:=c) (by
  have e1:decide (i < -(2 ^ 63:Int))=false:=bh ();have e2:decide (i>=2 ^ 63)=false:=bh ();rw[e1,e2,Bool.or_false]) (by rw[h1];simpa using h2) ⟨.str ⟨#[c]⟩,H,I.tok _,⟨_,rfl⟩,q⟩) hs
def DK(its:ap)(n j:Nat)(u:af):Obj.mapSeq (·.setIfInBounds j u) { cls:=.type "list",data:=.seq its.toArray n }={ cls:=.type "list",data:=.seq (its.set j u).toArray n }:=by
 simp[Obj.mapSeq]
def Inv.lst{H:Hp}{s:aC}{p:ak}{xs:List V}(I:Inv X pins σ H s)(h:H p=some (.lst xs)) :
  ∃(its:ap) (n:Nat),Vals xs its/\s.heap.get? p=some { cls:=.type "list",data:=.seq its.toArray n }/\xs.length<=sizeLine:=by
 obtain⟨z,its,n,r,e⟩:=I.hok p _ h;exact⟨its,n,r,e,z⟩
def Inv.Ry{H:Hp}{s:aC}{p:ak}{ys:List V}{its its':ap}{n:Nat}{f:Obj->Obj}(I:Inv X pins σ H s)(h:H p=some (.lst xs))
  (ho:s.heap.get? p=some { cls:=.type "list",data:=.seq its.toArray n }) (hf:f { cls:=.type "list",data:=.seq its.toArray n }={ cls:=.type "list",data:=.seq its'.toArray n' }) (r:Vals ys its') (hz:ys.length<=sizeLine) (t:Nat) :
  Inv X pins σ (upd H p (.lst ys)) { s with heap:=s.heap.update p f,toks:=t }:=by
 have e:(s.heap.update p f).get? p=some { cls:=.type "list",data:=.seq its'.toArray n' }:=by
  rw[gX f ho (by rw[hf]<;>rfl),hf]
 refine I.write (x:=p) (e:=p) (by rw[h];trivial) (.inl rfl) (λb u hb q=>(Heap.get?_update_other _ _ (gr hb)).trans q) ⟨_,e⟩ ?_;exact⟨hz,its',n',r,e⟩
abbrev TQ:V->V->V->Hp->(Hp->Prop)->Prop:=λo i v H Q=>∃p xs k j,o=.ref p/\i=.int k/\H p=some (.lst xs)/\yM xs.length k=some j/\Q (upd H p (.lst (xs.set j v)))
def set_list:GR X TQ:=by
 intro pins s σ H o i v ov iv u Q I ro ri rv h;obtain⟨p,xs,k,j,rfl,rfl,hp,hj,q⟩:=h
 cases ro
 obtain⟨t,rfl⟩:=ri;obtain⟨its,n,r,ho,hz⟩:=I.lst hp;obtain⟨h1,h2,h3,h4⟩:=EF hj;have hl:=r.length;have hn:=r6;have I':Inv X pins σ (upd H p (.lst (xs.set j v))) { s with heap:=s.heap.update p (Obj.mapSeq (·.setIfInBounds j u))}:=
  I.Ry hp ho (DK its n j u) (r.set rv j) (by rw[bN];exact hz) s.toks
 by_cases h0:0<=k
 ·have hk:k.toNat=j:=by
   rw[seqIndex_of h0 h4]at h1;exact aW h1
  exact PySem.W.ki_setAt ho h0 () (by rw[aT,<- hl];exact h4) (by rw[hk];exact⟨_,I',q⟩)
 ·have hk:(k+(its.toArray.size:Int)).toNat=j:=by
   rw[seqIndex_neg () h3]at h1;rw[aT,<- hl];exact aW h1
  exact PySem.W.ki_setBack ho () (by rw[aT,<- hl];exact h3) () (by rw[hk];exact⟨_,I',q⟩)
def Ao(lo hi:bb)(n:Nat):(sliceBounds lo hi none n).1=((HT.mC n 0 lo:Nat):Int)/\(sliceBounds lo hi none n).2.1=((HT.mC n n hi:Nat):Int)/\(sliceBounds lo hi none n).2.2=1:=by
 refine⟨?_,?_,rfl⟩
 ·cases lo with
  | none=>simp[sliceBounds,HT.mC]
  | some i=>
   dsimp[sliceBounds,HT.mC,getD_none,show(1:Int)>0 by decide,c6];by_cases h:i<0
   ·dsimp[h,c6]<;>lia
   ·dsimp[h,b8]<;>lia
 ·cases hi with
  | none=>simp[sliceBounds,HT.mC]
  | some i=>
   dsimp[sliceBounds,HT.mC,getD_none,show(1:Int)>0 by decide,c6];by_cases h:i<0
   ·dsimp[h,c6]<;>lia
   ·dsimp[h,b8]<;>lia
def yS(its:ap)(lo hi:bb):slicePick its.toArray lo hi none=((its.drop (HT.mC its.length 0 lo)).take (HT.mC its.length its.length hi-HT.mC its.length 0 lo)).toArray:=by
 obtain⟨h1,h2,h3⟩:=Ao lo hi its.toArray.size;unfold slicePick;rw[h1,h2,h3];dsimp[sliceRange_one,pick_run,aT]<;>rfl
abbrev Wk (K:au):V->bb->bb->Hp->VK->Prop:=λx lo hi H Q=>∃a xs,x=.ref a/\nH K H a xs/\∀p,H p=none->Q (.ref p) (upd H p (.lst (BF xs lo hi)))
def FG:Vr X (Wk X.K):=by
 intro pins s σ H x v vl vu lo hi sl Q I rx hs pl pu h;obtain⟨a,xs,rfl,hx,q⟩:=h
 cases rx
 obtain⟨its,r,ht,hz⟩:=I.list hx;have hlen:=r.length;refine⟨"list",_,jb.lookup,ht.isList.typeIs,?_⟩;refine wpAny_getItem_list_slice ht.isList hs pl pu .none (by simp) ?_ (by rw[aT]<;>lia);rw[yS,<- hlen];refine⟨.ref s.heap.objs.size,_,I.laid (t':=s.toks) (o:=.lst (BF xs lo hi)) (λb ob q=>aO _ q) (aS _) ?_,rfl,q _ (I.hok.fresh (aS _))⟩;exact⟨bX (vZ xs lo hi) hz,_,0,(r.drop (HT.mC xs.length 0 lo)).take (HT.mC xs.length xs.length hi-HT.mC xs.length 0 lo),bg _ rfl⟩
abbrev qL:V->Bool
 | .non=>true
 | .bl _=>true
 | .int _=>true
 | .str _=>true
 | _=>false
abbrev C5:V->V->Bool
 | .non,.non=>true
 | .bl a,.bl b=>a == b
 | .bl a,.int b=>(if a then 1 else 0) == b
 | .int a,.bl b=>a == (if b then 1 else 0)
 | .int a,.int b=>a == b
 | .str a,.str b=>a == b
 | _,_=>false
theorem Se{A:aA}{x:V}{v:af}(ry:RelV y u)(rx:RelV x v)(fy:qL y=true)(fx:qL x=true):SeqAt.EqAt A s u v (C5 y x):=by
 cases y with
 | non=>
  cases ry
  cases x with
  | non=>cases rx;exact SeqAt.EqAt.same _
  | bl b=>cases rx;exact SeqAt.EqAt.none_bool b
  | int b=>obtain⟨t,rfl⟩:=rx;exact SeqAt.EqAt.none_int b t
  | str b=>obtain⟨t,rfl⟩:=rx;exact SeqAt.EqAt.none_str b t
  | _=>exact absurd (show false=true from fx) aY
 | bl a=>
  cases ry
  cases x with
  | non=>cases rx;exact SeqAt.EqAt.bool_none a
  | bl b=>cases rx;exact SeqAt.EqAt.bool_bool a b
  | int b=>obtain⟨t,rfl⟩:=rx;exact SeqAt.EqAt.bool_int a b t
  | str b=>obtain⟨t,rfl⟩:=rx;exact SeqAt.EqAt.bool_str a b t
  | _=>exact absurd (show false=true from fx) aY
 | int a=>
  obtain⟨t',rfl⟩:=ry
  cases x with
  | non=>cases rx;exact SeqAt.EqAt.int_none a t'
  | bl b=>cases rx;exact SeqAt.EqAt.int_bool a t' b
  | int b=>obtain⟨t,rfl⟩:=rx;exact SeqAt.EqAt.int_int a t' b t
  | str b=>obtain⟨t,rfl⟩:=rx;exact SeqAt.EqAt.int_str a t' b t
  | _=>exact absurd (show false=true from fx) aY
 | str a=>
  obtain⟨t',rfl⟩:=ry
  cases x with
  | non=>cases rx;exact SeqAt.EqAt.str_none a t'
  | bl b=>cases rx;exact SeqAt.EqAt.str_bool a t' b
  | int b=>obtain⟨t,rfl⟩:=rx;exact SeqAt.EqAt.str_int a t' b t
  | str b=>obtain⟨t,rfl⟩:=rx;exact SeqAt.EqAt.str_str a t' b t
  | _=>exact absurd (show false=true from fx) aY
 | _=>exact absurd (show false=true from fy) aY
abbrev SY (x:V)(u:af):Bool:=match u with
 | .none=>C5 .non x
 | .bool b=>C5 (.bl b) x
 | .int i _=>C5 (.int i) x
 | .str z _=>C5 (.str z) x
 | _=>false
def CK{x:V}(r:RelV y u)(f:qL y=true):SY x u=C5 y x:=by
 cases y with
 | non=>cases r;rfl
 | bl b=>cases r;rfl
 | int i=>obtain⟨t,rfl⟩:=r;rfl
 | str z=>obtain⟨t,rfl⟩:=r;rfl
 | _=>exact absurd (show false=true from f) aY
theorem yo{A:aA}{x:V}{v:af}(rx:RelV x v)(fx:qL x=true):∀{xs:List V}{us:ap},Vals xs us->xs.all qL=true->∀u∈us,SeqAt.EqAt A s u v (SY x u)
 | _,_,.nil,_=>λu hu=>by cases hu
 | y::xs,u::us,.cons r t,f=>λu' hu=>by
  rw[jf,dP]at f
  rcases bP.mp hu with rfl|hu
  ·rw[CK r f.1];exact Se r rx f.1 fx
  ·exact yo rx fx t f.2 u' hu
abbrev WO (x:V)(xs:List V):Bool:=xs.any λy=>C5 y x
def ql:j_ X (.type "list") (λxs H Q=>∃p ys,xs=[.ref p]/\(nH X.K H p ys\/ni X.K H p ys)/\∀l,H l=none->Q (.ref l) (upd H l (.lst ys))):=by
 w_up;obtain⟨p,ys,rfl,hq,q⟩:=h;kcf_m
 cases rx
 have fin:∀(its:ap),Vals ys its->ys.length<=sizeLine->∀(h':aq) (c':Nat),(∀b o',s.heap.get? b=some o'->h'.get? b=some o') ->
   h'.get? s.heap.objs.size=some { cls:=.type "list",dict:=none,data:=.seq its.toArray c',slots:=#[]}->EP X pins σ Q (.ref s.heap.objs.size) { s with heap:=h' }:=λits r' hz h' c' kp e=>
  ⟨.ref s.heap.objs.size,_,I.laid (t':=s.toks) kp (aS _) (show kR X.prog X.w _ h' _ (.lst ys)from⟨hz,its,c',r',e⟩),rfl,q _ (I.hok.fresh (aS _))⟩
 rcases hq with hq|hq
 ·obtain⟨its,r',pl,hz⟩:=I.list hq;have hlen:=r'.length;obtain⟨o,ho,hc,n,hd⟩:=pl.isList;exact call_list_seq p (.inl rfl) ho hc hd (λh' c' kp e=>fin its r' hz h' c' kp e) (by dsimp[aT]<;>lia)
 ·obtain⟨its,r',pl,hz⟩:=I.tuple hq;have hlen:=r'.length;obtain⟨o,ho,hc,n,hd⟩:=pl;exact call_list_seq p (.inr rfl) ho hc hd (λh' c' kp e=>fin its r' hz h' c' kp e) (by dsimp[aT]<;>lia)
def pL:j_ X (.type "tuple") (λxs H Q=>∃p ys,xs=[.ref p]/\((nH X.K H p ys/\∀l,H l=none->Q (.ref l) (upd H l (.tup ys)))\/(ni X.K H p ys/\Q (.ref p) H))):=by
 w_up;obtain⟨p,ys,rfl,h⟩:=h;kcf_m
 cases rx
 rcases h with⟨hq,q⟩|⟨hq,q⟩
 ·obtain⟨its,r',pl,hz⟩:=I.list hq;have hlen:=r'.length;refine call_tuple_list pl.isList (λh' kp=>?_) (by dsimp[aT]<;>lia);have I1:Inv X pins σ H { s with heap:=h' }:=I.kept (t':=s.toks) kp;have I2:Inv X pins σ (upd H h'.objs.size (.tup ys)) { s with heap:=h'.push { cls:=.type "tuple",data:=.seq its.toArray }}:=
   I1.laid (t':=s.toks) (λb o e=>aO _ e) (aS _) (show kR X.prog X.w _ _ _ (.tup ys)from⟨hz,its,r',nM.new _ _⟩)
  exact⟨.ref h'.objs.size,_,I2,rfl,q _ (I1.hok.fresh (aS _))⟩
 ·obtain⟨its,r',pl,hz⟩:=I.tuple hq;exact call_tuple_same pl ⟨.ref p,H,I,rfl,q⟩
abbrev Vc (K:au)(T:String)(x:V)(H:Hp):Prop:=match x with
 | .str _=>T = "str"
 | .int _=>T = "int"
 | .ref p=>(T = "list" /\ ∃xs,nH K H p xs)\/(T = "tuple" /\ ∃o,K.lookup p=some o/\o.cls=.type "tuple" /\ o.dict=none) \/
   (T = "dict" /\ ((∃kvs,H p=some (.dK kvs))\/∃kvs,H p=some (.dT kvs)))\/(T = "set" /\ ∃S n,H p=some (.set S n))
 | _=>False
def JP{H:Hp}{s:aC}{x:V}{v:af}(I:Inv X pins σ H s)(r:RelV x v)(ty:Vc X.K T x H) :
  s.TypeIs v T/\∀a,v=.ref a->∃ob,s.heap.get? a=some ob/\ob.dict=none:=by
 cases x with
 | str z=>
  obtain⟨t,rfl⟩:=r
  cases(show T = "str" from ty)
  exact⟨typeIs_str s z t,nofun⟩
 | int i=>
  obtain⟨t,rfl⟩:=r
  cases(show T = "int" from ty)
  exact⟨typeIs_int s i t,nofun⟩
 | ref p=>
  cases r
  rcases ty with⟨rfl,xs,hq⟩|⟨rfl,o,hk,hc,hd⟩|⟨rfl,hk⟩|⟨rfl,S,n,hk⟩
  ·obtain⟨its,_,pl,_⟩:=I.list hq;refine⟨pl.isList.typeIs,λa e=>?_⟩
   cases e
   obtain⟨o,n,e,c,hd,_⟩:=pl;exact⟨o,e,hd⟩
  ·refine⟨⟨o,I.AK p o hk,hc⟩,λa e=>?_⟩
   cases e
   exact⟨o,I.AK _ o hk,hd⟩
  ·have z:∃o,s.heap.get? p=some o/\o.ExactDict:=by
    rcases hk with⟨kvs,hk⟩|⟨kvs,hk⟩
    ·obtain⟨_,_,_,_,o,_,_,e,ex,_⟩:=I.hok p _ hk;exact⟨o,e,ex⟩
    ·obtain⟨_,_,_,_,o,_,_,e,ex,_⟩:=I.hok p _ hk;exact⟨o,e,ex⟩
   obtain⟨o,e,ex⟩:=z;refine⟨⟨o,e,ex.1⟩,λa e2=>?_⟩
   cases e2
   exact⟨o,e,ex.2.1⟩
  ·obtain⟨o,_,_,_,e,ex,_⟩:=I.hok p _ hk;refine⟨⟨o,e,ex.1⟩,λa e2=>?_⟩
   cases e2
   exact⟨o,e,ex.2.1⟩
 | _=>exact False.elim ty
abbrev VD (K:au)(T:String)(r:V->List V->Hp->VK->Prop)(to:TE):TE:=λσ H Q=>to σ H λx H1=>Vc K T x H1/\r x [] H1 Q
abbrev Xn (K:au)(T:String)(r:V->List V->Hp->VK->Prop)(to:TE)(t:TA):TE:=λσ H Q=>to σ H λx H1=>Vc K T x H1/\t σ H1 λxs H2=>r x xs H2 Q
variable {o e:aE}{es:List aE}{to:TE}{t:TA}{name:Str}{apos cpos:Pos}{T id:String}{r:V->List V->Hp->VK->Prop}
def Qj(pa:PlainAttrs T)(slot:Slot T name id)(hty:typeOf (.builtin id)=pure (.type "method_descriptor"))(hm:Jf X id r)(ho:PE X o to)
  (hbase:attributeBase o name X.env (eval o X.env)=eval o X.env:=by rfl) (hline:(apos.endLine == cpos.line)=true:=by rfl):PE X (.Call (.Attribute o name apos) [] [] cpos) (VD X.K T r to):=by
 x_go;refine gE hbase hline (kW (ho pins s σ H _ I h) λv s1 ⟨x,H1,I1,r1,ty,q1⟩=>?_);obtain⟨h1,h2⟩:=JP I1 r1 ty;exact⟨T,id,pa,slot,hty,h1,h2,dF rfl (iQ (hm pins s1 σ H1 x [] v [] Q I1 r1 .nil q1))⟩
def Ud(pa:PlainAttrs T)(slot:Slot T name id)(hty:typeOf (.builtin id)=pure (.type "method_descriptor"))(hm:Jf X id r)(ho:PE X o to)(ha:PA X (e::es) t)
  (hbase:attributeBase o name X.env (eval o X.env)=eval o X.env:=by rfl)
  (hfew:((backTo cpos (starEach (e::es) X.env)).all (λx=>!x.1) && (backToKw cpos (keywordEach [] X.env)).all (λx=>x.1.isSome)
   && decide ((e::es).length+([]:List Keyword).length+(if ([]:List Keyword).isEmpty then 0 else 1)<30))=true:=by rfl)
  (hline:(apos.endLine == cpos.line)=true:=by rfl) (hs:starEach (e::es) X.env=(false,eval e X.env)::starEach es X.env:=by rfl) (hplain:(backTo cpos (starEach es X.env)).any (·.1)=false:=by rfl) :
  PE X (.Call (.Attribute o name apos) (e::es) [] cpos) (Xn X.K T r to t):=by
 x_go;refine wpAny_Call_method_late hbase hfew hline rfl (kW (ho pins s σ H _ I h) λv s1 ⟨x,H1,I1,r1,ty,q1⟩=>?_);obtain⟨h1,h2⟩:=JP I1 r1 ty;refine⟨T,id,pa,slot,hty,h1,h2,?_⟩;have hA:=ha cpos pins s1 σ H1 _ I1 q1;rw[hs]at hA ⊢;refine dF (by show(false || (backTo cpos (starEach es X.env)).any (·.1))=false;rw[hplain]<;>rfl) (iD ?_);exact kW hA λus s2 ⟨vs,H2,I2,r2,q2⟩=>hm pins s2 σ H2 x vs v us Q I2 r1 r2 q2
end
abbrev Vz (X:Cx)(id:String)(r:V->List V->Hp->VK->Prop):Prop:=
 ∀(pins:bj) (s:aC) (σ:St) (H:Hp) (x:V) (xs:List V) (v:af) (us:ap) (Q:VK),Inv X pins σ H s->RelV x v->Vals xs us->r x xs H Q ->
  wpAny (model X.prog X.w) X.A (call (.builtin id) (v::us)) (EP X pins σ Q) X.xe s
def Vals.one:∀{x:V}{us:ap},Vals [x] us->∃u,us=[u]/\RelV x u
 | _,_,.cons r .nil=>⟨_,rfl,r⟩
def Vals.zero:∀{us:ap},Vals [] us->us=[]
 | _,.nil=>rfl
def Vals.dropLast{xs:List V}{us:ap}(h:Vals xs us):Vals xs.dropLast us.dropLast:=by
 induction h with
 | nil=>exact .nil
 | cons r t ih=>
  cases t with
  | nil=>exact .nil
  | cons q t'=>exact .cons r ih
theorem Vals.eraseIdx:∀{xs:List V}{us:ap}(i:Nat),Vals xs us->Vals (xs.eraseIdx i) (us.eraseIdx i)
 | _,_,_,.nil=>.nil
 | _,_,0,.cons _ t=>t
 | _,_,i+1,.cons r t=>.cons r (Vals.eraseIdx i t)
def Vals.reverse{xs:List V}{us:ap}(h:Vals xs us):Vals xs.reverse us.reverse:=by
 induction h with
 | nil=>exact .nil
 | cons r t ih=>rw[dX,dX];exact Vals.append ih (.cons r .nil)
theorem Vals.rep(h:Vals xs us):∀k:Nat,Vals (List.replicate k xs).flatten (List.replicate k us).flatten
 | 0=>.nil
 | k+1=>by
  rw[dc,dc,dY,dY];exact Vals.append h (Vals.rep h k)
def CS{α:Type}(l:List α):l.eraseIdx (l.length-1)=l.dropLast:=by
 induction l with
 | nil=>rfl
 | cons a r ih=>
  cases r with
  | nil=>rfl
  | cons b r=>
   have e:(a::b::r).length-1=((b::r).length-1)+1:=by
    have h1:(a::b::r).length=r.length+2:=rfl;have h2:(b::r).length=r.length+1:=rfl
    lia
   rw[e,List.eraseIdx_cons_succ,ih]
   all_goals rfl
theorem zq{α:Type}:∀(l:List α) (i:Nat),(l.eraseIdx i).length<=l.length
 | [],_=>aS _
 | _::_,0=>Nat.le_succ _
 | _::r,i+1=>Nat.succ_le_succ (zq r i)
theorem foldl_rep(its:ap):∀(k:Nat) (acc:ap),
  List.foldl (λx1 x2=>x1++x2) acc.toArray (List.replicate k its.toArray)=(acc++(List.replicate k its).flatten).toArray
 | 0,acc=>by simp
 | k+1,acc=>by
  have e:acc.toArray++its.toArray=(acc++its).toArray:=by simp
  have e2:(acc++its)++(List.replicate k its).flatten=acc++(List.replicate (k+1) its).flatten:=by
   rw[dc,dY,bO]
  rw[<- e2,<- foldl_rep its k (acc++its),<- e,dc,jv]
section
variable {X:Cx}{pins:bj}{σ:St}{H:Hp}{s:aC}{l:ak}{xs ys:List V}
def Inv.RI{its its':ap}{n:Nat}{f:Array af->Array af}{t':Nat}(I:Inv X pins σ H s)(hH:H l=some (.lst xs))
  (e:s.heap.get? l=some { cls:=.type "list",data:=.seq its.toArray n }) (hf:f its.toArray=its'.toArray) (hv:Vals ys its') (hz:ys.length<=sizeLine) :
  Inv X pins σ (upd H l (.lst ys)) { s with heap:=s.heap.update l (Obj.mapSeq f),toks:=t' }:=by
 have q:=PySem.IsL.update e f;rw[hf]at q;refine I.write (x:=l) (e:=l) (by rw[hH];exact trivial) (.inl rfl) (λb' u hb hu=>(Heap.get?_update_other s.heap (Obj.mapSeq f) (gr hb)).trans hu) ⟨_,q⟩ ?_;exact⟨hz,its',_,hv,q⟩
def Inv.Lz{its:ap}{t':Nat}(I:Inv X pins σ H s)(hv:Vals ys its)(hz:ys.length<=sizeLine) :
  Inv X pins σ (upd H s.heap.objs.size (.lst ys)) { s with heap:=s.heap.push { cls:=.type "list",data:=.seq its.toArray },toks:=t' }:=
 I.laid (λ_ _ q=>aO _ q) (aS _) ⟨hz,its,0,hv,bg _ rfl⟩
def Inv.fresh(I:Inv X pins σ H s):H s.heap.objs.size=none:=I.hok.fresh (aS _)
def Inv.Hs(I:Inv X pins σ H s)(hH:H l=some (.lst xs)):xs.length<=sizeLine/\∃(its:ap) (n:Nat),Vals xs its/\xs.length=its.length/\s.heap.get? l=some { cls:=.type "list",data:=.seq its.toArray n }:=by
 obtain⟨z,its,n,r,e⟩:=I.hok l _ hH;exact⟨z,its,n,r,r.length,e⟩
def J1{n:Nat}(h:n<=sizeLine):Builtin.List.listTooLong n=false:=by
 unfold Builtin.List.listTooLong;exact bh ()
end
section
variable {X:Cx}
abbrev Oa:V->List V->Hp->VK->Prop:=λx vs H Q=>∃l xs y,x=.ref l/\vs=[y]/\H l=some (.lst xs)/\xs.length<sizeLine/\Q .non (upd H l (.lst (xs++[y])))
def vN:Vz X "list.append" Oa:=by
 intro pins s σ H x vs v us Q I rx rv h;obtain⟨l,xs,y,rfl,rfl,hH,hz,q⟩:=h
 cases rx
 obtain⟨u,rfl,ru⟩:=rv.one;obtain⟨z,its,n,r,hl,e⟩:=I.Hs hH;refine fQ F.slot_list_append ⟨_,e,rfl⟩ F.entry_list_append (F.args_list_append_2 _ _) (PySem.list_append l its.toArray n u (by rw[aT];lia)) ⟨e,?_⟩;refine⟨.non,_,I.RI (its':=its++[u]) hH e (by simp) (r.append (.cons ru .nil)) ?_,rfl,q⟩;rw[aU,dh]
 lia
abbrev Wf:V->List V->Hp->VK->Prop:=λx vs H Q=>∃l xs y,x=.ref l/\vs=[]/\H l=some (.lst xs)/\xs[xs.length-1]?=some y/\Q y (upd H l (.lst xs.dropLast))
def PR:Vz X "list.pop" Wf:=by
 intro pins s σ H x vs v us Q I rx rv h;obtain⟨l,xs,y,rfl,rfl,hH,hy,q⟩:=h
 cases rx
 have hus:=rv.zero;subst hus;obtain⟨z,its,n,r,hl,e⟩:=I.Hs hH;obtain⟨u,hu,ru⟩:=r.get hy;have hy':its.toArray[its.toArray.size-1]?=some u:=by
  show its.toArray[its.length-1]?=some u;rw[<- c5,<- hl];exact hu
 refine fQ F.slot_list_pop ⟨_,e,rfl⟩ F.entry_list_pop (F.args_list_pop_1 _) (MeetsSeq.list_pop_last l its.toArray n u hy' (by rw[aT];lia)) ⟨e,?_⟩;refine⟨y,_,I.RI (its':=its.dropLast) hH e ?_ r.dropLast ?_,ru,q⟩
 ·skip
  rw[aT,eZ,CS]
 ·rw[List.length_dropLast]
  lia
abbrev RC:V->List V->Hp->VK->Prop:=λx vs H Q=>∃l xs i k y,x=.ref l/\vs=[.int i]/\H l=some (.lst xs)/\-(2 ^ 63)<=i/\i<2 ^ 63/\seqIndex? i xs.length=some k/\xs[k]?=some y/\Q y (upd H l (.lst (xs.eraseIdx k)))
def Iq:Vz X "list.pop" RC:=by
 intro pins s σ H x vs v us Q I rx rv h;obtain⟨l,xs,i,k,y,rfl,rfl,hH,h1,h2,hk,hy,q⟩:=h
 cases rx
 obtain⟨u,rfl,ru⟩:=rv.one;obtain⟨t,rfl⟩:=ru;obtain⟨z,its,n,r,hl,e⟩:=I.Hs hH;obtain⟨w,hw,rw'⟩:=r.get hy;refine fQ F.slot_list_pop ⟨_,e,rfl⟩ F.entry_list_pop (F.args_list_pop_2 _ _)
  (MeetsSeq.list_pop_at l its.toArray n i t k w (fitsIndex_both h1 h2) (by rw[aT,<- hl];exact hk) (by rw[<- c5];exact hw) (by rw[aT];lia)) ⟨e,?_⟩
 refine⟨y,_,I.RI (its':=its.eraseIdx k) hH e ?_ (r.eraseIdx k) ?_,rw',q⟩
 ·skip
  rw[eZ]
 ·have:=zq xs k
  lia
abbrev VO:R2:=λx y H Q=>∃l b xs zs,x=.ref l/\y=.ref b/\H l=some (.lst xs)/\H b=some (.lst zs)/\xs.length+zs.length<=sizeLine/\∀p,H p=none->Q (.ref p) (upd H p (.lst (xs++zs)))
def QI:n8 X (binaryOp .Add) VO:=by
 gn_on;obtain⟨l,b,xs,zs,rfl,rfl,hH,hB,hz,q⟩:=h
 cases rx
 cases ry
 obtain⟨z,its,n,r,hl,e⟩:=I.Hs hH;obtain⟨z2,its2,n2,r2,hl2,e2⟩:=I.Hs hB;refine PySem.P.add_list e e2 ?_ (by rw[aT,aT];lia);have ea:its.toArray++its2.toArray=(its++its2).toArray:=by simp
 rw[ea];exact⟨.ref _,_,I.Lz (t':=s.toks) (r.append r2) (by rw[aU];lia),rfl,q _ I.fresh⟩
abbrev V5:R2:=λx y H Q=>∃l k xs,x=.ref l/\y=.int k/\H l=some (.lst xs)/\-(2 ^ 63)<=k/\k<2 ^ 63/\xs.length * k.toNat<=sizeLine /\
 ∀p,H p=none->Q (.ref p) (upd H p (.lst (List.replicate k.toNat xs).flatten))
def len_rep{α:Type}(xs:List α)(k:Nat):(List.replicate k xs).flatten.length=k * xs.length:=by
 induction k with
 | zero=>simp
 | succ k ih=>rw[dc,dY,aU,ih,Nat.succ_mul,Nat.add_comm]
def Qd:n8 X (binaryOp .Mult) V5:=by
 gn_on;obtain⟨l,k,xs,rfl,rfl,hH,h1,h2,hz,q⟩:=h
 cases rx
 obtain⟨t,rfl⟩:=ry;obtain⟨z,its,n,r,hl,e⟩:=I.Hs hH;have hlen:its.toArray.size * k.toNat<=sizeLine:=by rw[aT,<- hl];exact hz
 have hcap:¬its.toArray.size * k.toNat>(2 ^ 63-1) / 8:=by
  have:(sizeLine:Nat)<=(2 ^ 63-1) / 8:=by decide
  omega
 have hfit:¬(!Builtin.List.listFitsIndex k)=true:=by
  rw[fitsIndex_both h1 h2];exact aY
 have hlong:¬Builtin.List.listTooLong (its.toArray.size * k.toNat)=true:=by
  rw[J1 hlen];exact aY
 have hnew:List.foldl (λx1 x2=>x1++x2) #[] (List.replicate (if its.toArray.isEmpty=true then 0 else k.toNat) its.toArray)=(List.replicate k.toNat its).flatten.toArray:=by
  have f0:∀m:Nat,List.foldl (λx1 x2=>x1++x2) #[] (List.replicate m its.toArray)=(List.replicate m its).flatten.toArray:=λm=>by
   have:=foldl_rep its m [];rw[List.nil_append]at this;exact this
  rw[f0]
  cases its with
  | nil=>simp
  | cons a r'=>rw[aM (by simp)]
 refine wpAny_binaryOp_repeat_ref (T := "list") (U := "int") ⋯ ⟨_,e,rfl⟩ (λs'=>typeIs_int s' k t) noFill_list_mul F.fills_int_mul F.slot_int_rmul repeat_list F.slot_int_index.lookup
  (fQ F.slot_int_rmul (typeIs_int s k t) F.entry_int_rmul (F.args_int_rmul_2 _ _) (int___rmul___int_list k t l its.toArray n)
   ⟨e,rfl,⟨_,e,rfl⟩,fQ F.slot_list_mul ⟨_,e,rfl⟩ F.entry_list_mul (F.args_list_mul_2 _ _) (AutoListH.list___mul___list_int_3 l its.toArray n k t hfit hcap hlong) ⟨e,?_⟩⟩)
 rw[hnew];exact⟨.ref _,_,I.Lz (t':=s.toks) (r.rep k.toNat) (by rw[len_rep,mul_comm];exact hz),rfl,q _ I.fresh⟩
end
end L2
namespace Att
open PySem PySem.W PySem.Calls PyProof.Rows
def wA{P:Params}:∀(ns:ae) (vs:ap),WellAll P h vs (ns.map WData.int)->IntsAre vs ns:=by
 intro ns
 induction ns with
 | nil=>
  intro vs w;rw[map_nil]at w
  cases w
  exact .nil
 | cons n ns ih=>
  intro vs w;rw[bI]at w
  cases w with
  | cons a b=>
   cases a
   exact .cons _ _ (ih _ b)
def GY{l:OpenLaw}{n:Nat}(hn:l.most=some n){P:Params}{h:aq}
  (hpre:l.row.toRowW.claim.pre args=true) (hwl:WellAll P h vals args) :
  ∃a vs ns,vals=[Value.ref a]/\args=[WData.list (ns.map WData.int)]/\h.get? a=some { cls:=.type "list",data:=.seq vs.toArray }/\IntsAre vs ns/\ns.length<=n:=by
 have hsh:WShape.hasAll [] args [.list .int]=true:=(pre_splitW hpre).1;have hc:l.pre.holds [] { args:=args }=true:=(pre_splitW hpre).2;obtain⟨d,r,rfl,h1,h2⟩:=hasAllW_cons hsh;obtain rfl:=hasAllW_nil h2;obtain⟨xs,rfl,h3⟩:=hasW_list h1;obtain⟨ns,rfl⟩:=items_int h3;have hlen:ns.length<=n:=by
  unfold OpenLaw.pre at hc;have h4:(WTm.not (.lt (.lit (.int (n:Int))) (.len (.arg 0)))).holds [] { args:=[.list (ns.map .int)]}=true:=by
   have h4:=(holds_andW hc).1;rw[hn]at h4;exact h4
  have h5:=condW_of h4 (w_not (w_lt w_lit (w_len_list (w_arg rfl))));rw[aL]at h5;refine Nat.le_of_not_lt λq=>?_;have q':(n:Int)<((ns.length:Nat):Int):=by omega
  first
   | (rw[bq q']at h5;exact absurd h5 ⋯)
   | (simp at h5;omega)
 cases hwl with
 | cons w1 w2=>
  cases w2
  cases w1 with
  | list ho hall=>exact⟨_,_,ns,rfl,rfl,ho,wA ns _ hall,hlen⟩
def HC(l:OpenLaw)(args:List WData):l.row.toRowW.claim.post args (.bool true) args=true:=
 postW_of (r:=l.row.toRowW) (X:=(true == true))
  (show WShape.has [] (.bool true) .bool=true by first|rfl|decide|simp[WShape.has,WShape.arms,WShape.armsAll])
  (show(WTm.eq .res (.lit (.bool true))).value [] { args:=args,res:=some (.bool true),after:=args }=some (.bool (true == true))from w_eq_bool (w_res rfl) w_lit) rfl
def Ca{l:OpenLaw}{n:Nat}{q:aj}{XP:(Str->ba)->aq->Prop}{YP:ah->aq->Prop}{d:DefRec}
  (hn:l.most=some n) (hdf:d.params.defaults=[])
  (call:∀(w:ah) (s₀ s₁:aC) (mg mb:Str->ba) (fa:ak) (o:Obj) (pm cd doc:af) (a:ak) (vs:ap) (ns:ae),
   Ground q loose [] XP w s₀ mg mb s₁.heap->YP w s₁.heap ->
   s₁.heap.get? fa=some o->o.data=.func (docDef d.name d.params d.body d.scope pm cd doc)->s₁.heap.CodeRec cd d.name->mg d.name=some (.ref fa) ->
   s₁.heap.get? a=some { cls:=.type "list",data:=.seq vs.toArray }->IntsAre vs ns->ns.length<=n->s₁.gens=#[] ->
   codeAny (model l.prog w) callerA (.call (.ref fa) ⟨[.ref a],[]⟩) (λr s'=>r=.ok (.ret (.bool true))/\OldK s₁.heap s'.heap/\s'.os=s₁.os/\AllBare s'.gens) s₁) :
  WalkO q loose XP YP l.row.toRowW d [] (λf vs=>PySem.call f vs):=by
 intro w s₀ s₁ mg mb G Y fa o pm cd doc dV kV ho hd hcd hD hmg hg args vals as hpre hlay hrd hwl hlo;obtain rfl:dV=.none:=Dflts.none hD hdf;obtain rfl:kV=.none:=Dflts.noKw hD;obtain⟨a,vs,ns,rfl,rfl,hobj,hints,hlen⟩:=GY hn hpre hwl;refine enter_call (iT (call w s₀ s₁ mg mb fa o pm cd doc a vs ns G Y ho (fd_plain hd) hcd hmg hobj hints hlen hg) λr s' hq=>?_);obtain⟨rfl,h2,h3,h4⟩:=hq;exact⟨.inl ⟨.bool true,.bool true,[],rfl,λ_=>rfl,.bool true,HC l _,λ_=>⟨List.Pairwise.nil,λ_ hm=>(nomatch hm)⟩⟩,h2,h3,h4⟩
end Att
namespace L2
open PySem PySem.Spec PyProof.Rows
theorem vF:∀{vs:ap}{ns:ae},IntsAre vs ns->Vals (ns.map V.int) vs
 | _,_,.nil=>.nil
 | _,_,.cons n t h=>.cons ⟨t,rfl⟩ (vF h)
abbrev Od (H:Hp):Prop:=∀b,H b=none\/∃o xs,H b=some (.frz o (.lst xs))
def Jx{P:aj}{w:ah}{K:au}{mg mb:Str->ba}{CX:MC}{k:Nat}{fa a:ak}{fd:FuncData}{x:Str}{sp:Sp}{s₁:aC}{vs:ap}{ns:ae}
  (KX:K.In s₁.heap) (hns:s₁.heap.Ns mainGlobals mg) (hb:s₁.heap.Ns builtinsNs mb) (hbb:∀x:Str,x ≠ "__name__" -> mb x=bootBuiltins x) (hlim:s₁.heap.NoLimit) (hg:s₁.gens=#[])
  (ha:s₁.heap.get? a=some { cls:=.type "list",data:=.seq vs.toArray }) (hi:IntsAre vs ns) (hl:ns.length<=sizeLine) (hr:Room k callerA)
  (F:∀base:aq,K.In base->base.Ns mainGlobals mg->FnOk P w K mg base CX k fa fd [x] sp) (hbind:∀(s:aC) (u:af),BindsTo s fd ⟨[u],[]⟩ [(x,u)])
  (hsp:∀H:Hp,Od H->nH K H a (ns.map V.int)->sp [.ref a] H (λv _=>v=.bl true) λ_ _ _=>False)
  (hCX:∀H e s',CX [] H s₁ (λ_ _ _=>False) e s'->False) :
  codeAny (model P w) callerA (.call (.ref fa) ⟨[.ref a],[]⟩) (λr s'=>r=.ok (.ret (.bool true))/\OldK s₁.heap s'.heap/\s'.os=s₁.os/\AllBare s'.gens) s₁:=by
 have rv:=vF hi;have lenV:=hi.length;have core:∀H:Hp,Od H->nH K H a (ns.map V.int)->uh P w H s₁.heap->(∀b,H b≠none->b=a)->(H a≠none->K.lookup a=none) ->
   codeAny (model P w) callerA (.call (.ref fa) ⟨[.ref a],[]⟩) (λr s'=>r=.ok (.ret (.bool true))/\OldK s₁.heap s'.heap/\s'.os=s₁.os/\AllBare s'.gens) s₁:=by
  intro H hO hS hok hA hK;have base_of:∀{b:ak} {o:Obj},s₁.heap.get? b=some o->H b=none->(An s₁.heap H).get? b=some o:=λe n=>LR e n;have noA:∀{b:ak} {o:Obj} {es:Array DictEntry} {ep:Nat},s₁.heap.get? b=some o->o.data=.dict es ep->H b=none:=λ{b o es ep} e d=>by
   cases q:H b with
   | none=>rfl
   | some u=>
    have e':b=a:=hA b (by rw[q];simp);subst e';rw[ha]at e;cases e;have d':Data.seq vs.toArray _=Data.dict es ep:=d
    cases d'
  have nsK:∀{b:ak} {m:Str->ba},s₁.heap.Ns b m->(An s₁.heap H).Ns b m:=λ{b m} ⟨o,es,ep,e,d,r⟩=>⟨o,es,ep,base_of e (noA e d),d,r⟩;have hKb:K.In (An s₁.heap H):=λb o e=>base_of (KX b o e) (by
   cases q:H b with
   | none=>rfl
   | some u=>
    have e':b=a:=hA b (by rw[q];simp);subst e';rw[hK (by rw[q];simp)]at e;cases e)
  have hM:Mod K mg (An s₁.heap H):=⟨hKb,nsK hns,⟨mb,nsK hb,hbb⟩,let⟨mc,h1,h2⟩:=hlim;⟨mc,nsK h1,h2⟩⟩;have e0:Env0 P w K mg (An s₁.heap H) callerA [] s₁ H:=⟨rfl,hM,λb o e=>MH e,Nat.le_of_eq (G8 _ _),trivial,λb hb=>absurd (show b∈([]:ar)from hb) (by simp),hok,.of_eq hg⟩;refine iT ((F _ hKb (nsK hns)).run callerA [] s₁ H ⟨[.ref a],[]⟩ [.ref a] [.ref a] _ _ hr e0 (hbind s₁ (.ref a)) (.cons rfl .nil) (hsp H hO hS)) λr s' h=>?_
  cases r with
  | error e=>exact(hCX H e s' h).elim
  | ok fl=>
   cases fl with
   | next=>exact False.elim h
   | brk=>exact False.elim h
   | cont=>exact False.elim h
   | ret u=>
    obtain⟨v,H',os,bare,un,hok',r',q⟩:=h;have q':v=.bl true:=q;subst q';obtain rfl:u=Value.bool true:=r';refine⟨rfl,OldK.of_keep λb o e=>?_,os,bare⟩
    cases q:H b with
    | none=>exact un.keep b o e q (by intro z;exact absurd (show b∈([]:ar)from z) (by simp)) (by simp)
    | some u=>
     rcases hO b with z|⟨ob,xs,z⟩
     ·rw[q]at z;cases z
     ·have z2:=un.frzs b ob _ z;obtain⟨e1,_⟩:=hok b _ z;obtain⟨e2,_⟩:=hok' b _ z2;rw[e]at e1;cases e1;exact e2
 cases hk:K.lookup a with
 | some o=>
  have e:=KX a o hk;rw[ha]at e
  cases e
  refine core (λ_=>none) (λ_=>.inl rfl) (.inr ⟨_,vs.toArray,_,hk,rfl,rfl,rfl,by rw[aT,lenV];exact hl,by simpa using rv⟩) (λb u z=>by have z':(none:Option HO)=some u:=z;cases z') (λb z=>absurd rfl z) λz=>absurd rfl z
 | none=>
  refine core (λb=>if b=a then some (.frz { cls:=.type "list",data:=.seq vs.toArray } (.lst (ns.map V.int)))else none) (λb=>?_) (.inl (.inr ⟨{ cls:=.type "list",data:=.seq vs.toArray },aN rfl⟩)) (λb u z=>?_) (λb z=>?_) λ_=>hk
  ·by_cases hb:b=a
   ·exact .inr ⟨_,_,aN hb⟩
   ·exact .inl (aM hb)
  ·by_cases hb:b=a
   ·have z':=(aN hb).symm.trans z
    cases z'
    subst hb;exact⟨ha,by rw[aL];exact hl,vs,_,rv,ha⟩
   ·have z':=(aM hb).symm.trans z
    cases z'
  ·by_cases hb:b=a
   ·exact hb
   ·exact absurd (aM hb) z
def NC{l:PySem.W.OpenLaw}{n k:Nat}{q:aj}{XP:(Str->ba)->aq->Prop}{YP:ah->aq->Prop}{d:DefRec}{K:Params->au}{CX:ah->MC}{sp:ah->Sp}{x:Str}
  (hn:l.most=some n) (hn2:n<=sizeLine) (hdf:d.params.defaults=[]) (hr:Room k callerA)
  (hY:∀(w:ah) (h:aq),YP w h->(K w.params).In h)
  (F:∀(w:ah) (mg:Str->ba) (fa:ak) (h:aq),(K w.params).In h->h.Ns mainGlobals mg->mg d.name=some (.ref fa) ->
   ∃fd:FuncData,(∀(s:aC) (u:af),BindsTo s fd ⟨[u],[]⟩ [(x,u)]) /\
    ∀base:aq,(K w.params).In base->base.Ns mainGlobals mg->FnOk l.prog w (K w.params) mg base (CX w) k fa fd [x] (sp w))
  (hsp:∀(w:ah) (H:Hp) (a:ak) (ns:ae),ns.length<=n->Od H->nH (K w.params) H a (ns.map V.int)->sp w [.ref a] H (λv _=>v=.bl true) λ_ _ _=>False)
  (hCX:∀(w:ah) (H:Hp) (s:aC) (e:af) (s':aC),CX w [] H s (λ_ _ _=>False) e s'->False) :
  PySem.W.WalkO q loose XP YP l.row.toRowW d [] (λf vs=>PySem.call f vs):=by
 refine Att.Ca hn hdf λw s₀ s₁ mg mb fa o pm cd doc a vs ns G Y ho hd hcd hmg hobj hints hlen hg=>?_;have KX:=hY w _ Y;obtain⟨fd,hb,hF⟩:=F w mg fa _ KX G.T.g hmg;exact Jx KX G.T.g G.T.b G.T.builtins G.T.nolimit hg hobj hints (bX hlen hn2) hr hF hb (λH hO hS=>hsp w H a ns hlen hO hS) λH e s'=>hCX w H s₁ e s'
abbrev sD (s:aF):Arguments:=match s with
 | .FunctionDef _ a _ _ _ _ _ _ _ _=>a
 | _=>{ posonlyargs:=[],args:=[],vararg:=none,kwonlyargs:=[],kw_defaults:=[],kwarg:=none,defaults:=[]}
abbrev pB (s:aF):List aF:=match s with
 | .FunctionDef _ _ b _ _ _ _ _ _ _=>b
 | _=>[]
abbrev jV (s:aF):Scope:=match s with
 | .FunctionDef _ _ _ _ _ _ sc _ _ _=>sc
 | _=>{ kind:=.function,names:=[],isGenerator:=false,isCoroutine:=false }
meta abbrev qy:MC:=λ_ _ _ _ _ _=>False
meta abbrev E0:XK:=λ_ _ _=>False
def UD{X:Cx}:Passes qy X E0:=λ_ _ _ _ _ _ _ h=>h.elim
structure Fun (K:au)(x qual:Str)(st:aF)(f:ak)(fd:FuncData):Prop where
 ex:∃(oc:af) (od:Option ak) (kV doc pm:af) (an:Option ak) (cdv ct:af) (osl:Array (ba)),
  fd=PySem.W.fnOf x qual (sD st) (pB st) (jV st) .none kV doc pm an cdv ct/\K.lookup f=some ⟨oc,od,.func fd,osl⟩/\PySem.W.codeIn K cdv qual=true
 kp:PySem.W.keepIn K (.ref f)=true
section
variable {P:aj}{w:ah}{K:au}{mg:Str->ba}{base:aq}
def Fun.ok{x:Str}{st:aF}{f:ak}{fd:FuncData}{N ps:am}{k:Nat}{sp:Sp}(F:Fun K x qual st f fd)(S:FnScope N ps (jV st))(len:∀vs H Q E,sp vs H Q E->vs.length=ps.length)
  (hbody:∀(cdv:af) (A:aA) (outer:List Env) (s:aC) (H:Hp) (vs:List V) (Q:VK) (E:XK),Room k (A.deeper (envOfC qual (jV st) s.heap.objs.size f cdv))->sp vs H Q E ->
   ∃t,A1 (Dz qy P w K mg base N qual (jV st) f cdv A outer s H E).UY (pB st) t/\t { nx:=λ_ H'=>Q .non H',rt:=Q } (start N vs) H):FnOk P w K mg base qy (k+1) f fd ps sp:=by
 obtain⟨oc,od,kV,doc,pm,an,cdv,ct,osl,rfl,lk,hcd⟩:=F.ex;refine Ua lk hcd S len λA outer s H vs Q E hr hsp=>?_;obtain⟨t,h,q⟩:=hbody cdv A outer s H vs Q E hr hsp;exact⟨t,h.UY,q⟩
def Fun.binds{x:Str}{st:aF}{f:ak}{fd:FuncData}{ps:am}(F:Fun K x qual st f fd)
  (h:∀(kV doc pm:af) (an:Option ak) (cdv ct:af) (us:ap),us.length=ps.length->bindArgs (PySem.W.fnOf x qual (sD st) (pB st) (jV st) .none kV doc pm an cdv ct) ⟨us,[]⟩=pure (ps.zip us)):Binds K fd ps []:=by
 obtain⟨oc,od,kV,doc,pm,an,cdv,ct,osl,rfl,lk,hcd⟩:=F.ex;exact .all (h kV doc pm an cdv ct)
def QG{x:Str}{st:aF}{f:ak}{kV pm ct:af}(l:K.lookup f=some ⟨oc,od,.func (PySem.W.fnOf x qual (sD st) (pB st) (jV st) .none kV doc pm an cdv ct),osl⟩)
  (c:PySem.W.codeIn K cdv qual=true) (k:PySem.W.keepIn K (.ref f)=true):Fun K x qual st f (PySem.W.fnOf x qual (sD st) (pB st) (jV st) .none kV doc pm an cdv ct):=⟨⟨oc,od,kV,doc,pm,an,cdv,ct,osl,rfl,l,c⟩,k⟩
end
section
variable {X:Cx}
def pv(i:Nat){x:Str}(hN:X.N[i]?=some x:=by rfl)(hv:SW X.env.scope x:=by first|exact Or.inl rfl|exact Or.inr (Or.inl rfl)|exact Or.inr (Or.inr rfl))(hd:(x == ("__debug__" : Str))=false:=by decide)
  (hcd:(x == ("__classdict__" : Str))=false:=by decide):PE X (.Name x pos) (UP i):=IC hN hv hd hcd
end
set_option maxHeartbeats 4000000
abbrev NG (σ:St):bi->Option V
 | some j=>(σ[j]?).getD none
 | none=>none
abbrev wz (env:Env):List (Str×NameKind)->List (Str×ak)->List (Str×ak)
 | [],cs=>cs
 | (n,k)::r,cs=>wz env r (if k == .free then(n,(env.cells.lookup n).getD 0)::cs else cs)
def xq{scope:Scope}{env:Env}(h:∀y∈scope.names,y.2=.free->∃c,env.cells.lookup y.1=some c):closureFor scope env=pure (wz env scope.names []):=by
 have key:∀(l:List (Str×NameKind)) (cs:List (Str×ak)),(∀y∈l,y.2=.free->∃c,env.cells.lookup y.1=some c) ->
   (forIn l cs (λ(x:Str×NameKind) (r:List (Str×ak))=>(match x with
    | (name,kind)=>if (kind == NameKind.free)=true then(do let c <- cellOf env name;pure (ForInStep.yield ((name,c)::r)))else pure (ForInStep.yield r):Sem (ForInStep (List (Str×ak))))))=(pure (wz env l cs):Sem (List (Str×ak))):=by
  intro l
  induction l with
  | nil=>intro cs _;rfl
  | cons y r ih=>
   intro cs hl;obtain⟨n,k⟩:=y;rw[jw];by_cases hk:k=.free
   ·subst hk;obtain⟨c,hc⟩:=hl (n,.free) aP rfl;have e1:cellOf env n=pure c:=by
     unfold cellOf;rw[hc]
    dsimp[bW,c6,e1,pure_bind];rw[ih _ (λz hz=>hl z (aQ _ hz))];dsimp[wz,bW,c6,hc,fm]
   ·have hb:(k == NameKind.free)=false:=by simpa using hk
    dsimp[hb,bw,b8,pure_bind];rw[ih _ (λz hz=>hl z (aQ _ hz))];dsimp[wz,hb,bw,b8]
 have:=key scope.names [] h;exact(dO (λz=>z >>= λcs=>(pure cs:Sem (List (Str×ak)))) this).trans (pure_bind _ _)
theorem x_:∀{l:List (Str×NameKind)}{x:Str}{k:NameKind},l.lookup x=some k->(x,k)∈l
 | [],_,_,h=>nomatch h
 | (n,k')::r,x,k,h=>by
  rw[fX]at h
  cases hx:x == n with
  | true=>
   rw[hx]at h;have e:x=n:=by simpa using hx
   subst e
   cases h
   exact aP
  | false=>rw[hx]at h;exact aQ _ (x_ h)
theorem zI{env:Env}{x:Str}{c:ak}:∀{l:List (Str×NameKind)}{cs:List (Str×ak)},(∀y∈l,y.2=.free->∃c,env.cells.lookup y.1=some c)->(wz env l cs).lookup x=some c->env.cells.lookup x=some c\/cs.lookup x=some c
 | [],cs,_,h=>.inr h
 | (n,k)::r,cs,hl,h=>by
  have h':=zI (l:=r) (λz hz=>hl z (aQ _ hz)) h
  rcases h' with h'|h'
  ·exact .inl h'
  ·by_cases hk:k=.free
   ·subst hk;dsimp[bW,c6]at h';obtain⟨c',hc⟩:=hl (n,.free) aP rfl;rw[hc,fm,fX]at h'
    cases hx:x == n with
    | true=>
     rw[hx]at h';have e:x=n:=by simpa using hx
     subst e;left;rw[hc];exact h'
    | false=>rw[hx]at h';exact .inr h'
   ·have hb:(k == NameKind.free)=false:=by simpa using hk
    dsimp[hb,bw,b8]at h';exact .inr h'
theorem zo{env:Env}{x:Str}:∀{l:List (Str×NameKind)}{cs:List (Str×ak)},(cs.lookup x).isSome=true->((wz env l cs).lookup x).isSome=true
 | [],cs,h=>h
 | (n,k)::r,cs,h=>by
  skip
  refine zo (l:=r) ?_;by_cases hk:(k == NameKind.free)=true
  ·rw[aN hk,fX]
   cases hx:x == n with
   | true=>rfl
   | false=>exact h
  ·rw[aM hk];exact h
theorem yj{env:Env}{x:Str}:∀{l:List (Str×NameKind)}{cs:List (Str×ak)},(x,NameKind.free)∈l->((wz env l cs).lookup x).isSome=true
 | [],_,h=>nomatch h
 | (n,k)::r,cs,h=>by
  rcases bP.mp h with e|h
  ·cases e
   skip
   refine zo (l:=r) ?_;rw[aN (by rfl),fX];simp
  ·exact yj (l:=r) h
abbrev kQ (X:Cx)(scope:Scope)(N:am)(C:ak)(s₀:aC)(H₀:Hp)(ex:ar):Cx where
 prog:=X.prog
 w:=X.w
 K:=X.K
 mg:=X.mg
 base:=X.base
 A:=X.A
 N:=N
 s₀:=s₀
 H₀:=H₀
 env:=compEnvC scope (wz X.env scope.names []) C X.env
 outer:=X.stack
 stack:=X.stack
 ex:=ex
 fn:=λ_=>false
 calm:=X.calm
 pn:=[]
 xe:=λ_ _=>False
structure CpScope (X:Cx)(scope:Scope)(N:am)(cap:List (bi)):Prop where
 kind:scope.kind=.function
 nocell:∀y∈scope.names,y.2≠.cell
 nm:∀y∈scope.names,y.2=.local->scope.names.lookup y.1=some .local
 fr:∀y∈scope.names,y.2=.free->X.env.kindOf y.1=some .cell\/X.env.kindOf y.1=some .free
 rl:∀y,((relabel scope X.env).names.lookup y=some .cell\/(relabel scope X.env).names.lookup y=some .free)->(y,NameKind.free)∈scope.names
 len:cap.length=N.length
 nolf:∀x,(x,NameKind.free)∈scope.names->scope.names.lookup x≠some .local
 cp:∀(i j:Nat) (x:Str),N[i]?=some x->cap[i]?=some (some j)->X.N[j]?=some x/\(x,NameKind.free)∈scope.names
def HN{X:Cx}{N:am}{cap:List (bi)}{H:Hp}{s:aC}{fp:ar}{h₁:aq}{m:Str->ba}{tk:Nat}(S:CpScope X scope N cap)(I:Inv X pins σ H s)
  (hf:∀b∈fp,rA X pins H b) (ho:∀b∈fp,∃o,s.heap.get? b=some o) (hn:h₁.Ns s.heap.objs.size m) (hk:∀b o,s.heap.get? b=some o->h₁.get? b=some o) :
  Inv (kQ X scope N s.heap.objs.size s H fp) [] (cap.map (NG σ)) H { s with heap:=h₁,toks:=tk }:=by
 kpf_c;have lk:∀x c,(wz X.env scope.names []).lookup x=some c->X.env.cells.lookup x=some c:=λx c e=>by
  rcases zI hfree e with z|z
  ·exact z
  ·cases z
 have lt:∀b o,s.heap.get? b=some o->b≠s.heap.objs.size:=λb o e=>bE (aX e);refine⟨⟨I.ok.mod,?_,I.ok.glob,I.ok.blt,aS _,?_,?_,?_,I.ok.hd,I.ok.frames,.inl rfl,?_,I.bs,bX I.ok.bsz I.sz,?_,?_,I.stack,I.Ge⟩,rfl,I.bare,Un.kept hk,?_,?_,I.hok.fresh (aS _),?_,?_,I.hok.kept hk,?_⟩
 ·exact S.kind
 ·intro x y c e1 e2;exact I.ok.inj x y c (lk x c e1) (lk y c e2)
 ·intro x e;have hm:=S.rl x e;have:=yj (env:=X.env) (cs:=[]) hm;exact gc.mp this
 ·intro x c e _;exact absurd e (by simp[kQ])
 ·intro b hb;obtain⟨o,e⟩:=ho b hb;refine⟨lt b o e,λx c e2=>(hf b hb).2.2.2.2.1 x c (lk x c e2)⟩
 ·intro b o e hb;obtain⟨_,_,_,h3,_⟩:=hf b hb
  rcases h3 with z|z
  ·exact I.ok.noex b o e z
  ·exact absurd (bQ (aX (I.ok.bs b o e).1) z) (fK _)
 ·intro b hb hz;obtain⟨_,h1,h2,_⟩:=hf b hb
  rcases bP.mp (I.DL b hz)with z|z
  ·exact h1 z
  ·exact h2 z
 ·refine⟨m,hn,λi x v e1 e2 e3=>?_⟩;rw[aR]at e2
  cases hc:cap[i]? with
  | none=>rw[hc]at e2;cases e2
  | some oj=>
   rw[hc]at e2
   cases oj with
   | none=>cases e2
   | some j=>
    have e2':(σ[j]?).getD none=some v:=aW e2;obtain⟨hj,hm⟩:=S.cp i j x e1 hc;obtain⟨m0,hn0,hl0⟩:=I.loc;have hσ:σ[j]?=some (some v):=by
     cases h:σ[j]? with
     | none=>rw[h]at e2';cases e2'
     | some z=>rw[h,fm]at e2';rw[e2']
    have hkd:=S.fr (x,.free) hm rfl;have hv:SW X.env.scope x:=.inr hkd;obtain⟨u,ru,lo⟩:=hl0 j x v hj hσ hv;refine⟨u,ru,?_⟩
    rcases lo with⟨lo,_⟩|⟨_,c,ec,ic⟩
    ·rcases hkd with z|z<;>(rw[z]at lo;cases lo)
    ·have h2:=yj (env:=X.env) (cs:=[]) hm;obtain⟨c',hc'⟩:=gc.mp h2;have:c'=c:=aW ((lk x c' hc').symm.trans ec);subst this;refine .inr ⟨?_,c',hc',?_⟩
     ·rcases e3 with z|z|z
      ·exfalso;have:(relabel scope X.env).names.lookup x=some .local:=z;have hloc:scope.names.lookup x=some .local:=by
        have hmem:∃k,(x,k)∈(relabel scope X.env).names/\k=.local:=by
         clear hc' h2;have:=x_ this;exact⟨_,this,rfl⟩
        obtain⟨k,hk1,rfl⟩:=hmem;obtain⟨⟨n',k'⟩,hm1,hm2⟩:=bH.mp hk1;dsimp only at hm2;split at hm2
        ·cases hm2
        ·cases hm2
         exact S.nm (x,.local) hm1 rfl
       exact False.elim (S.nolf x hm hloc)
      ·exact .inl z
      ·exact .inr z
     ·obtain⟨o,ho',hd⟩:=ic;exact⟨o,hk _ _ ho',hd⟩
 ·intro x c e;obtain⟨v,o,ho',hd⟩:=I.cell x c (lk x c e);exact⟨v,o,hk _ _ ho',hd⟩
 ·intro x c e;exact I.freeC x c (lk x c e)
 ·intro p hp
  cases hp
 ·rw[aL,S.len];rfl
abbrev MB (X:Cx)(ifs:List aE)(t:TT):Prop:=
 ∀(pins:bj) (s:aC) (σ:St) (H:Hp) (Q:Bool->Hp->Prop),Inv X pins σ H s->t σ H Q ->
  wpAny (model X.prog X.w) X.A (forIn ifs true λc r=>if r=true then do let ok <- isTrue c X.env (eval c X.env);pure (ForInStep.yield ok)else pure (ForInStep.yield r)) (TP X pins σ Q) X.xe s
abbrev Wj:TT:=λ_ H Q=>Q true H
def M9{X:Cx}:MB X [] Wj:=λ_ _ _ H _ I h=>wpAny_tests_nil ⟨H,I,h⟩
def MO{X:Cx}{c:aE}{t:TT}(h:PT X c t):MB X [c] t:=λpins s σ H Q I q=>wpAny_tests_one (h pins s σ H Q I q)
abbrev QJ (cap:List (bi))(g:TG)(tc:TT)(te:TE)(σ:St)(Q:VK)(J:It)(H1:Hp):Prop:=∀D,H1 D=none ->
 ∃W:Nat->Nat->St->Hp->Prop,(∃m,W 0 m (cap.map (NG σ)) (upd H1 D (.lst [])))/\∀i m σ' H',W i m σ' H' ->
  (J.stop i H'/\Q (.ref D) H')\/(J.go i H'/\∀x H2,J.yld i H' x H2->g x σ' H2 λσ3 H3=>tc σ3 H3 λb H4=>
   if b=true then te σ3 H4 λy H5=>∃ys,H5 D=some (.lst ys)/\ys.length<sizeLine/\∃m',m'<m/\W (i+1) m' σ3 (upd H5 D (.lst (ys++[y])))
   else ∃m',m'<m/\W (i+1) m' σ3 H4)
abbrev UM (cap:List (bi))(wi:TI)(g:TG)(tc:TT)(te:TE):TE:=λσ H Q=>wi σ H (QJ cap g tc te σ Q)
def Aa{α:Type}{t:Sem α}{Q Q':α->aC->Prop}{A:aA}{E:af->aC->Prop}(h:wpAny M A t Q (λ_ _=>False) s)(hQ:∀a s,Q a s->Q' a s):wpAny M A t Q' E s:=
 fu h hQ λ_ _ f=>f.elim
structure TurnG (ok:Cx->Prop)(P:aj)(w:ah)(K:au)(tg:aE)(J:It)(fp:ar)(it:ak)(tn:Nat->aq->Prop):Prop where
 obj:∀i h,tn i h->∀b∈fp,∃o,h.get? b=some o/\∀v,o.data≠.cell v
 keep:∀i h h',tn i h->(∀b∈fp,∀o,h.get? b=some o->h'.get? b=some o)->tn i h'
 item:∀(X:Cx),X.prog=P->X.w=w->X.K=K->ok X->∀(i:Nat) (pins:bj) (s:aC) (σ:St) (H:Hp) (E:af->aC->Prop),Inv X pins σ H s->(∀b∈fp,rA X pins H b)->tn i s.heap->J.go i H ->
  wpAny (model P w) X.A (pyNext (.ref it)) (λr s1=>∃u,r=some u /\
   wpAny (model P w) X.A (letOwnedTupleGo tg (.ref it) u) (λ_ s2=>∃x H',Inv X pins σ H' s2/\RelV x u/\J.yld i H x H'/\tn (i+1) s2.heap/\∀b∈fp,H' b=none) E s1) E s
 done:∀(X:Cx),X.prog=P->X.w=w->X.K=K->ok X->∀(i:Nat) (pins:bj) (s:aC) (σ:St) (H:Hp) (E:af->aC->Prop),Inv X pins σ H s->(∀b∈fp,rA X pins H b)->tn i s.heap->J.stop i H ->
  wpAny (model P w) X.A (pyNext (.ref it)) (λr s1=>r=none/\Inv X pins σ H s1) E s
 self:∀(A:aA) (i:Nat) (s:aC) (Q:af->aC->Prop) (E:af->aC->Prop),tn i s.heap->Q (.ref it) s->wpAny (model P w) A (pyIter (.ref it)) Q E s
abbrev VZ (ok:Cx->Prop)(X:Cx)(pins:bj)(σ:St)(tg:aE)(R:It->Hp->Prop)(itv:af)(s2:aC):Prop:=
 ∃(it:ak) (fp:ar) (tn:Nat->aq->Prop) (J:It) (H':Hp),itv=.ref it/\Inv X pins σ H' s2/\TurnG ok X.prog X.w X.K tg J fp it tn/\tn 0 s2.heap/\(∀b∈fp,rA X pins H' b)/\R J H'
abbrev V4 (ok:Cx->Prop)(X:Cx)(tg iter:aE)(wi:TI):Prop:=
 ∀(pins:bj) (s:aC) (σ:St) (H:Hp) (R:It->Hp->Prop),Inv X pins σ H s->wi σ H R ->
  wpAny (model X.prog X.w) X.A (eval iter X.env) (λv s1=>wpAny (model X.prog X.w) X.A (pyIter v) (VZ ok X pins σ tg R) X.xe s1) X.xe s
def PI.g{X:Cx}{iter:aE}{wi:TI}(h:PI X tg iter wi):V4 (λY=>Y.calm=true) X tg iter wi:=λpins s σ H R I q=>
 kW (h pins s σ H R I q) λv s1 h1=>kW h1 λitv s2 ⟨it,fp,tn,J,H',e,I',T,a,b,c⟩=>⟨it,fp,tn,J,H',e,I',⟨T.obj,T.keep,T.item,T.done,T.self⟩,a,b,c⟩
def F9{ok:Cx->Prop}{X:Cx}{use:Option (af->Sem Unit)}{Q':af->aC->Prop}{iter:aE}{N:am}{wi:TI}{g:TG}{tc:TT}{te:TE}(S:CpScope X scope N cap)(hok:∀C s₀ H₀ ex,(∀a o u,X.H₀ a=some (.frz o u)->H₀ a=some (.frz o u))->ok (kQ X scope N C s₀ H₀ ex))(hi:V4 ok X tg iter wi)
  (hg:∀C s₀ H₀ ex,PG (kQ X scope N C s₀ H₀ ex) tg g) (ht:∀C s₀ H₀ ex,MB (kQ X scope N C s₀ H₀ ex) ifs tc) (he:∀C s₀ H₀ ex,PE (kQ X scope N C s₀ H₀ ex) elt te)
  (hs:∀x,foldedSetIterable iter X.env x=pure x:=by intro _;rfl):∀(pins:bj) (s:aC) (σ:St) (H:Hp) (Q:VK),Inv X pins σ H s->UM cap wi g tc te σ H Q ->
  (∀(s6:aC) (C D:ak) (H5:Hp) (m:Str->ba),s6.heap.Ns C m->rA X pins H5 C->(∀h',Heap.SameBut C s6.heap h'->Inv X pins σ H5 { s6 with heap:=h' })->Q (.ref D) H5->∀v,compPost (model X.prog X.w) X.A X.xe use Q' (.ref D) C (.ok v) s6) ->
  wpAny (model X.prog X.w) X.A (comprehension (.ListComp elt [⟨tg,iter,ifs,0⟩] scope pos) scope X.env (firstIterPos [⟨tg,iter,ifs,0⟩] pos) (newList []) (firstAsync [⟨tg,iter,ifs,0⟩]) (firstIter [⟨tg,iter,ifs,0⟩] X.env) use) Q' X.xe s:=by
 intro pins s σ H Q I h hfin;kpf_c;refine wpAny_comprehension_free (use:=use) rfl hs (xq hfree) S.kind S.nm (kW (hi pins s σ H _ I h) λxv s1 h1=>kW h1 λitv s2 h2=>?_);obtain⟨it,fp,tn,J,H2,rfl,I2,T,st2,f2,h2⟩:=h2;refine bD (wpAny_newFunctionEnv S.nocell (by intro y hy;simp at hy) (λh₁ hns₁ hsb₁=>?_) S.kind);obtain⟨W,⟨m0,w0⟩,turn⟩:=h2 s2.heap.objs.size I2.fresh;dsimp only at hns₁ hsb₁ ⊢;have I3:Inv X pins σ (upd H2 s2.heap.objs.size (.lst [])) { s2 with heap:=s2.heap.push {}}:=I2.Lz (t':=s2.toks) (its:=[]) .nil (cZ _);have hfp:∀b∈fp,∃o,s2.heap.get? b=some o:=λb hb=>by
  obtain⟨o,e,_⟩:=T.obj 0 _ st2 b hb;exact⟨o,e⟩
 have neD:∀b∈fp,b≠s2.heap.objs.size:=λb hb=>by
  obtain⟨o,e⟩:=hfp b hb;exact bE (aX e)
 have f3:∀b∈fp,rA X pins (upd H2 s2.heap.objs.size (.lst [])) b:=λb hb=>⟨by rw[jS (neD b hb)];exact(f2 b hb).1,(f2 b hb).2⟩;have hDC:s2.heap.objs.size≠(s2.heap.push {}).objs.size:=by rw[fq];exact bE (c9 _)
 have old:∀b o,(s2.heap.push {}).get? b=some o->h₁.get? b=some o:=λb o e=>hsb₁.extBut b o (bE (aX e)) (aO _ e);have I4:=HN (tk:=s2.toks+([]:List (Str×af)).length) (fp:=fp) S I3 f3 (λb hb=>by
  obtain⟨o,e⟩:=hfp b hb;exact⟨o,aO _ e⟩) hns₁ old
 have st4:tn 0 h₁:=T.keep _ _ _ st2 λb hb o e=>old b o (aO _ e);have hc:=hok (s2.heap.push {}).objs.size { s2 with heap:=s2.heap.push {}} (upd H2 s2.heap.objs.size (.lst [])) fp λa o u e=>by
  have z:=I2.base.frzs a o u e;rw[jS (λq=>by rw[q,I2.fresh]at z;cases z)];exact z
 have stat:∀{H':Hp},(∀b∈fp,H' b=none)->∀b∈fp,rA (kQ X scope N (s2.heap.push {}).objs.size { s2 with heap:=s2.heap.push {}} (upd H2 s2.heap.objs.size (.lst [])) fp) [] H' b:=λhn b hb=>by
  have ok:=I4.ok;refine⟨hn b hb,(ok.exf b hb).1,ok.exfs b hb,.inl hb,λx c e=>(ok.exf b hb).2 x c e,λp hp=>nomatch hp⟩
 have loop:∀s4:aC,s4={ s2 with heap:=h₁,toks:=s2.toks+([]:List (Str×af)).length } ->
   codeAny (model X.prog X.w) X.A (.compLoop (.ListComp elt [⟨tg,iter,ifs,0⟩] scope pos) 0 (.ref it) (.ref s2.heap.objs.size) (compEnvC scope (wz X.env scope.names []) (s2.heap.push {}).objs.size X.env))
    (compPost (model X.prog X.w) X.A X.xe use Q' (.ref s2.heap.objs.size) (s2.heap.push {}).objs.size) s4:=by
  rintro s4 rfl;refine codeAny_loop rfl (λn s'=>∃i σ' H',Inv (kQ X scope N (s2.heap.push {}).objs.size { s2 with heap:=s2.heap.push {}} (upd H2 s2.heap.objs.size (.lst [])) fp) [] σ' H' s'/\tn i s'.heap/\(∀b∈fp,H' b=none)/\W i n σ' H') (λn s5 hI=>?_) m0 ⟨0,_,_,I4,st4,λb hb=>(f3 b hb).1,w0⟩;obtain⟨i,σ5,H5,I5,st5,fr5,w5⟩:=hI
  skip
  refine wpAny_noted ?_;rw[compTurn_list];refine aG (eT (aG ?_))
  rcases turn i n σ5 H5 w5 with⟨stop,q⟩|⟨go,step⟩
  ·refine kW (T.done (kQ X scope N (s2.heap.push {}).objs.size { s2 with heap:=s2.heap.push {}} (upd H2 s2.heap.objs.size (.lst [])) fp) rfl rfl rfl hc i [] s5 σ5 H5 _ I5 (stat fr5) st5 stop) λr s6 h9=>?_;obtain⟨hr,I6⟩:=h9;subst hr;obtain⟨m6,hn6,_⟩:=I6.loc;refine aJ (hfin s6 _ _ H5 m6 hn6 (I3.Hv (aS _) I6.free) (λh' sb=>?_) q _);have u6:=I6.base;have nC:∀b o,(s2.heap.push {}).get? b=some o->b≠(s2.heap.push {}).objs.size:=λb o e=>bE (aX e);refine I3.JN (ch:=fp) I6.os ⟨λb o e n hb hx=>?_,λb o e n hb hx=>?_,λb o e n hx=>?_,λb o e hx=>?_,u6.tups,u6.frzs,u6.tbls⟩ ?_ I6.bare ?_
   ·exact sb.extBut b o (nC b o e) (u6.keep b o e n hb hx)
   ·obtain⟨sl,z⟩:=u6.slot b o e n hb hx;exact⟨sl,sb.extBut b _ (nC b o e) z⟩
   ·exact u6.free b o e n hx
   ·obtain⟨o',z⟩:=u6.there b o e hx;exact⟨o',sb.extBut b _ (nC b o e) z⟩
   ·intro b o e;have hb:∀c v,H5 c=some v->c≠(s2.heap.push {}).objs.size:=λc v e z=>by
     rw[z]at e;have:=I6.free;rw[show H5 (s2.heap.push {}).objs.size=none from this]at e
     cases e
    refine(I6.hok b o e).stay (λc v hc q=>sb.extBut c v ?_ q) (λ_ q=>q) λ_ _ q=>q
    rcases hc with z|z
    ·rw[z];exact hb b o e
    ·exact hb c _ z
   ·intro b hb;obtain⟨_,z1,_,z3,z4,z5⟩:=f3 b hb;exact⟨z3,z1,z4,z5⟩
  ·refine kW (T.item (kQ X scope N (s2.heap.push {}).objs.size { s2 with heap:=s2.heap.push {}} (upd H2 s2.heap.objs.size (.lst [])) fp) rfl rfl rfl hc i [] s5 σ5 H5 _ I5 (stat fr5) st5 go) λr s6 h9=>?_;obtain⟨u,hr,h6⟩:=h9;subst hr;refine aG (kW h6 λ_ s7 ⟨x,H7,I7,r7,y7,st7,fr7⟩=>?_);have I7':=I7.pinned (stat fr7) (T.obj _ _ st7);refine aG (Aa (hg _ _ _ fp _ s7 σ5 H7 x u _ I7' r7 (step x H7 y7)) λ_ s8 ⟨σ8,H8,I8,q8⟩=>?_);refine aG (Aa (ht _ _ _ fp _ s8 σ8 H8 _ I8 q8) λok s9 ⟨H9,I9,q9⟩=>?_);have again:∀{s10:aC} {H10:Hp},Inv (kQ X scope N (s2.heap.push {}).objs.size { s2 with heap:=s2.heap.push {}} (upd H2 s2.heap.objs.size (.lst [])) fp) ([]++tR fp s7.heap) σ8 H10 s10->(∃m',m'<n/\W (i+1) m' σ8 H10) ->
     ∃m,m<n/\∃i σ' H',Inv (kQ X scope N (s2.heap.push {}).objs.size { s2 with heap:=s2.heap.push {}} (upd H2 s2.heap.objs.size (.lst [])) fp) [] σ' H' s10/\tn i s10.heap/\(∀b∈fp,H' b=none)/\W i m σ' H':=λ{s10 H10} I10 h9=>by
    obtain⟨m',hm,w10⟩:=h9;refine⟨m',hm,i+1,σ8,H10,I10.oR,T.keep _ _ _ st7 λb hb o e=>(I10.pin (b,o) (a_ _ (a_ _ (lG hb e)))).1,λb hb=>?_,w10⟩;obtain⟨o,e,d⟩:=T.obj _ _ st7 b hb;exact(I10.pin (b,o) (a_ _ (a_ _ (lG hb e)))).2.1
   cases ok with
   | false=>
    rw[aM aY]at q9;exact aJ ⟨rfl,again I9 q9⟩
   | true=>
    rw[aN rfl]at q9;refine aG (aG (Aa (he _ _ _ fp _ s9 σ8 H9 _ I9 q9) λy s10 ⟨v10,H10,I10,r10,ys,hD,hz,w10⟩=>?_));refine aG (Aa (vN _ s10 σ8 H10 (.ref s2.heap.objs.size) [v10] _ [y] (λ_ H'=>H'=upd H10 s2.heap.objs.size (.lst (ys++[v10]))) I10 rfl (.cons r10 .nil) ⟨_,ys,v10,rfl,rfl,hD,hz,rfl⟩) λ_ s11 ⟨_,H11,I11,_,e11⟩=>?_);subst e11;exact aJ (aJ ⟨rfl,again I11 w10⟩)
 exact codeAny_compStart_list (loop _ rfl) (T.self _ 0 _ _ _ st4 (loop _ rfl))
def QS{ok:Cx->Prop}{X:Cx}{iter:aE}{N:am}{wi:TI}{g:TG}{tc:TT}{te:TE}(S:CpScope X scope N cap)(hok:∀C s₀ H₀ ex,(∀a o u,X.H₀ a=some (.frz o u)->H₀ a=some (.frz o u))->ok (kQ X scope N C s₀ H₀ ex))(hi:V4 ok X tg iter wi)
  (hg:∀C s₀ H₀ ex,PG (kQ X scope N C s₀ H₀ ex) tg g) (ht:∀C s₀ H₀ ex,MB (kQ X scope N C s₀ H₀ ex) ifs tc) (he:∀C s₀ H₀ ex,PE (kQ X scope N C s₀ H₀ ex) elt te)
  (hs:∀x,foldedSetIterable iter X.env x=pure x:=by intro _;rfl):PE X (.ListComp elt [⟨tg,iter,ifs,0⟩] scope pos) (UM cap wi g tc te):=by
 x_go;rw[eval_ListComp];exact F9 (use:=none) (Q':=EP X pins σ Q) S hok hi hg ht he hs pins s σ H Q I h λs6 C D H5 m hn fk inv q v=>⟨m,hn,λh' sb=>⟨.ref D,H5,inv h' sb,rfl,q⟩⟩
def Tu{X:Cx}{iter:aE}{N:am}{wi:TI}{g:TG}{tc:TT}{te:TE}(hc:X.calm=true)(S:CpScope X scope N cap)(hi:PI X tg iter wi)
  (hg:∀C s₀ H₀ ex,PG (kQ X scope N C s₀ H₀ ex) tg g) (ht:∀C s₀ H₀ ex,MB (kQ X scope N C s₀ H₀ ex) ifs tc) (he:∀C s₀ H₀ ex,PE (kQ X scope N C s₀ H₀ ex) elt te)
  (hs:∀x,foldedSetIterable iter X.env x=pure x:=by intro _;rfl):PE X (.ListComp elt [⟨tg,iter,ifs,0⟩] scope pos) (UM cap wi g tc te):=
 QS S (λ_ _ _ _ _=>hc) hi.g hg ht he hs
section
variable {X:Cx}
def BW{bs:List Bool}:∀{us:ap},Vals (bs.map V.bl) us->LSm.BoolsAre us bs:=by
 induction bs with
 | nil=>intro us r;cases r;exact .nil
 | cons b bs ih=>
  intro us r
  cases r with
  | cons h t=>
   have e:_=Value.bool b:=h;subst e;exact .cons b (ih t)
def Hw(hc:X.calm=true):j_ X (.builtin "all") (λxs H Q=>∃(p:ak) (bs:List Bool),xs=[.ref p]/\nH X.K H p (bs.map V.bl)/\Q (.bl (bs.all id)) H):=by
 w_up;obtain⟨p,bs,rfl,hq,q⟩:=h;kcf_m
 cases rx
 obtain⟨its,rv,pl,hz⟩:=I.list hq;have hb:=BW rv;have hl:=pl.isList;have hlt:p<s.heap.objs.size:=by obtain⟨_,e,_⟩:=hl;exact aX e
 refine call_all_walk (ja hl ?_);refine⟨s.heap.objs.size,[s.heap.objs.size,p],[s.heap.objs.size],its.toArray.size,_,_,λi=>(bs[i]?).getD true,rfl,Walks.list (A:=X.A.in1) (I.ok.hd hc) _ p (bE hlt) its.toArray,
  ⟨⟨_,bg _ rfl,rfl,rfl⟩,hl.push _⟩,λi v s' Q' E' hP hQ=>?_,λh' tk hk=>?_⟩
 ·obtain⟨b,e,rfl⟩:=hb.get i v (by simpa using hP);dsimp[e,fm]at hQ;exact dD hQ
 ·have e:((List.range its.toArray.size).all λi=>(bs[i]?).getD true)=bs.all id:=by
   rw[aT,hb.length];exact LSm.range_all bs
  rw[e];exact⟨.bl _,H,I.kept (LSm.kept_iter hk),rfl,q⟩
def Hf(hc:X.calm=true):j_ X (.builtin "any") (λxs H Q=>∃(p:ak) (bs:List Bool),xs=[.ref p]/\nH X.K H p (bs.map V.bl)/\Q (.bl (bs.any id)) H):=by
 w_up;obtain⟨p,bs,rfl,hq,q⟩:=h;kcf_m
 cases rx
 obtain⟨its,rv,pl,hz⟩:=I.list hq;have hb:=BW rv;have hl:=pl.isList;have hlt:p<s.heap.objs.size:=by obtain⟨_,e,_⟩:=hl;exact aX e
 refine call_any_walk (ja hl ?_);refine⟨s.heap.objs.size,[s.heap.objs.size,p],[s.heap.objs.size],its.toArray.size,_,_,λi=>(bs[i]?).getD false,rfl,Walks.list (A:=X.A.in1) (I.ok.hd hc) _ p (bE hlt) its.toArray,
  ⟨⟨_,bg _ rfl,rfl,rfl⟩,hl.push _⟩,λi v s' Q' E' hP hQ=>?_,λh' tk hk=>?_⟩
 ·obtain⟨b,e,rfl⟩:=hb.get i v (by simpa using hP);dsimp[e,fm]at hQ;exact dD hQ
 ·have e:((List.range its.toArray.size).any λi=>(bs[i]?).getD false)=bs.any id:=by
   rw[aT,hb.length];exact LSm.range_any bs
  rw[e];exact⟨.bl _,H,I.kept (LSm.kept_iter hk),rfl,q⟩
def AN:j_ X (.builtin "sorted") (λxs H Q=>∃(p:ak) (ns:ae),xs=[.ref p]/\(nH X.K H p (ns.map V.int)\/ni X.K H p (ns.map V.int))/\ns.length<64 /\
  ∀l (ns':ae),H l=none->ns'.Perm ns->ns'.Pairwise (·<=·)->Q (.ref l) (upd H l (.lst (ns'.map V.int)))):=by
 w_up;obtain⟨p,ns,rfl,hq,h64,q⟩:=h;kcf_m
 cases rx
 have go:∀(its:ap) (T:String) (o:Obj) (n:Nat),(T = "list" \/ T = "tuple")->s.heap.get? p=some o->o.cls=.type T->o.data=.seq its.toArray n->Vals (ns.map V.int) its ->
   wpAny (model X.prog X.w) X.A (call (.builtin "sorted") [.ref p]) (EP X pins σ Q) X.xe s:=by
  intro its T o n hT ho hcl hd rv;have hI:=intsAre_of rv;have hlen:its.length=ns.length:=by have:=rv.length;rw[aL]at this;exact this.symm
  refine Calls.call_function_entry kind_sorted plain_sorted entry_sorted (args_sorted1 _) ?_;unfold Builtin.«sorted»;refine aG (m:=checkCount "sorted" 1 1 _) (aJ ?_);refine aG (wpAny_collect_seq p hT ho hcl hd (λh' hk=>?_) (by rw[aT,hlen,c7];lia));refine aG (wpAny_newList ?_);have hoL:(h'.push (seqObj "list" its.toArray 0)).get? h'.objs.size=some (seqObj "list" its.toArray 0):=bg _ rfl
  skip
  refine aG (dj (b7 slot_list_sort ⟨_,hoL,rfl⟩ entry_list_sort (list_sort_tree hoL hI () λout ns' a1 a2 a3=>⟨_,rfl,?_⟩) (args_list_sort _)));obtain⟨e,he⟩:=sortedHeap_at (out:=out) hoL;have hl':ns'.length=ns.length:=a2.length_eq;have I1:Inv X pins σ H { s with heap:=h' }:=I.kept (t':=s.toks) hk;have old:∀b ob,h'.get? b=some ob->(sortedHeap (h'.push (seqObj "list" its.toArray 0)) h'.objs.size its out).get? b=some ob:=λb ob eb=>by
   rw[sortedHeap_old (bE (aX eb)) (by rw[fq];exact fO (aX eb))];exact aO _ eb
  refine aJ ⟨_,rfl,.ref h'.objs.size,_,I1.laid (t':=s.toks) (o:=.lst (ns'.map V.int)) old (aS _) ?_,rfl,q _ ns' (I1.hok.fresh (aS _)) a2 a3⟩;refine⟨by rw[aL,hl',c7];lia,out.toList,e,vF a1,?_⟩;rw[he]
 rcases hq with hq|hq
 ·obtain⟨its,rv,pl,hz⟩:=I.list hq;obtain⟨o,ho,hcl,n,hd⟩:=pl.isList;exact go its "list" o n (.inl rfl) ho hcl hd rv
 ·obtain⟨its,rv,pl,hz⟩:=I.tuple hq;obtain⟨o,ho,hcl,n,hd⟩:=pl;exact go its "tuple" o n (.inr rfl) ho hcl hd rv
def Rz:n8 X (compareOp .Is) (λx y H Q=>∃a b,x=.bl a/\y=.bl b/\Q (.bl (a == b)) H):=by
 gn_on;obtain⟨a,b,rfl,rfl,q⟩:=h
 cases rx;cases ry
 exact is_bool ⟨.bl _,H,I,rfl,q⟩
def z9:j_ X (.type "range") (λxs H Q=>∃i j,xs=[.int i,.int j]/\∀p,H p=none->Q (.ref p) (upd H p (.rng i j))):=by
 w_up;obtain⟨i,j,rfl,q⟩:=h;obtain⟨u,w',rfl,⟨t,rfl⟩,⟨t',rfl⟩⟩:=vals2 r;refine call_range_2 ⟨.ref s.heap.objs.size,_,I.laid (o:=.rng i j) (λb o e=>aO _ e) (aS _) ?_,rfl,q _ I.fresh⟩;exact⟨t,t',s.toks,bg _ rfl⟩
abbrev jX (i j:Int):ae:=(List.range (j-i).toNat).map λk:Nat=>i+(k:Int)
def kL(i j:Int):(jX i j).length=(j-i).toNat:=by unfold jX;rw[aL,cP]
def xj{i:Int}{n:Nat}{acc:Array af}(h:ItemsOf (λk v=>∃t,v=Value.int (i+(k:Int) * 1) t) acc n):Vals (((List.range n).map λk:Nat=>i+(k:Int)).map V.int) acc.toList:=by
 obtain⟨hs,hv⟩:=h;have gen:∀(l:ap) (b:Nat),(∀j v,l[j]?=some v->∃t,v=Value.int (i+((b+j:Nat):Int)) t)->Vals (((List.range' b l.length).map λk:Nat=>i+(k:Int)).map V.int) l:=by
  intro l
  induction l with
  | nil=>intro b _;exact .nil
  | cons v l ih=>
   intro b hb;rw[bF,eB,bI,bI];refine .cons ?_ ?_
   ·obtain⟨t,e⟩:=hb 0 v rfl;exact⟨t,by rw[e];simp⟩
   ·refine ih (b+1) λj w hw=>?_;obtain⟨t,e⟩:=hb (j+1) w hw;exact⟨t,by rw[e,show b+(j+1)=b+1+j by lia]⟩
 have:=gen acc.toList 0 λj v hj=>by
  obtain⟨t,e⟩:=hv j v (by simpa using hj);exact⟨t,by rw[e,fB,Int.mul_one]⟩
 rw[cY,hs,<- cE]at this;exact this
def KP{i j:Int}:Builtin.Range.rangeSize i j 1=(((j-i).toNat:Nat):Int):=by rw[rangeSize_one];split<;>omega
def yT(hc:X.calm=true):j_ X (.type "list") (λxs H Q=>∃p i j,xs=[.ref p]/\H p=some (.rng i j)/\(-(2 ^ 62)<=i/\i<2 ^ 62/\-(2 ^ 62)<=j/\j<2 ^ 62)/\(j-i).toNat<=1000/\∀l,H l=none->Q (.ref l) (upd H l (.lst ((jX i j).map V.int)))):=by
 w_up;obtain⟨p,i,j,rfl,hp,⟨b1,b2,b3,b4⟩,hn,q⟩:=h;kcf_m
 cases rx
 obtain⟨t,u',v,e⟩:=I.hok p _ hp;refine call_list_range (n:=(j-i).toNat) (I.ok.hd hc) e (small_one b1 b2 b3 b4) KP () λh' tk acc' c' hk hS hacc=>?_;refine⟨.ref s.heap.objs.size,_,I.laid (o:=.lst ((jX i j).map V.int)) hk (aS _) ⟨?_,acc'.toList,c',xj hacc,by rw[hS]⟩,rfl,q _ I.fresh⟩;rw[aL,kL,c7];lia
end
section
variable {X:Cx}
def B6{prog:aj}{w:ah}{A:aA}{E:af->aC->Prop}{s:aC}{Q:ap->aC->Prop}{r:ak}{a b c:Int}{t v:Tok}{n:Nat}(hh:A.handled=none)(hr:IsRange s.heap r a b c t u v)(hsmall:Builtin.Range.small a b c=true)
  (hn:Builtin.Range.rangeSize a b c=n) (hlen:n<=2 ^ 24)
  (hQ:∀h' tk (acc':Array af),(∀b o,s.heap.get? b=some o->h'.get? b=some o)->ItemsOf (λi v=>∃t,v=.int (a+i * c) t) acc' n->Q acc'.toList { s with heap:=h',toks:=tk }) :
  wpAny (model prog w) A (collect (.ref r)) Q E s:=by
 unfold collect;refine aG (wpAny_runValue (codeAny_builtin F.entry_proto_collect ?_));rw[Around.under_plainId F.plain_proto_collect _]
 skip
 refine aG (bD ?_);refine aJ ⟨plainId_quiet F.plain_list_iadd _,codeAny_builtin F.entry_list_iadd ?_⟩;rw[Around.under_plainId F.plain_list_iadd _]
 skip
 have hS:(s.heap.push {}).get? s.heap.objs.size=some { cls:=.type "list",data:=.seq #[] 0 }:=bg _ rfl;have fin':∀(h':aq) (tk:Nat) (acc':Array af) (c':Nat),(∀b o,b≠s.heap.objs.size->(s.heap.push {}).get? b=some o->h'.get? b=some o) ->
   h'.get? s.heap.objs.size=some { cls:=.type "list",dict:=none,data:=.seq acc' c',slots:=#[]}->ItemsOf (λi v=>∃t,v=.int (a+i * c) t) acc' n ->
   wpAny (model prog w) A (match Value.ref s.heap.objs.size with
   | Value.ref a=>do
    match (<- load a).data with
     | Data.seq xs _=>pure xs.toList
     | _=>unsupported "internal:collect"
   | _=>unsupported "internal:collect") Q E { s with heap:=h',toks:=tk }:=by
  intro h' tk acc' c' hk hS' hacc
  skip
  refine aG (wpAny_load hS' ?_);refine aJ ?_;exact hQ h' tk acc' (λb o e=>hk b o (bE (aX e)) (aO _ e)) hacc
 refine fu (wpAny_extend_range (A:=A) (R:=λrr s'=>rr=.ok (.ret (.ref s.heap.objs.size))/\∃h' tk acc' c',s'={ s with heap:=h',toks:=tk }/\(∀b o,b≠s.heap.objs.size->(s.heap.push {}).get? b=some o->h'.get? b=some o) /\
   h'.get? s.heap.objs.size=some { cls:=.type "list",dict:=none,data:=.seq acc' c',slots:=#[]}/\ItemsOf (λi v=>∃t,v=.int (a+i * c) t) acc' n)
  (s:={ s with heap:=s.heap.push {}}) hh (aO _ hr) hsmall hn hlen s.heap.objs.size (.ref s.heap.objs.size) 0 hS
  (λh' tk acc' c' hk hS' hacc=>⟨rfl,h',tk,acc',c',rfl,hk,hS',hacc⟩)) (λfin s' h=>?_) (λe s' h=>?_)
 ·cases fin with
  | done f=>
   obtain⟨e,h',tk,acc',c',rfl,hk,hS',hacc⟩:=h
   cases e
   exact fin' h' tk acc' c' hk hS' hacc
  | again c'=>exact⟨h.1,iT h.2 λr s'' hr=>by
    obtain⟨rfl,h',tk,acc',c',rfl,hk,hS',hacc⟩:=hr;exact fin' h' tk acc' c' hk hS' hacc⟩
 ·exact absurd h.1 (by simp)
def sV(l:ak){a b:Int}{t v:Tok}{n:Nat}(hsmall:Builtin.Range.small a b 1=true)
  (hn:Builtin.Range.rangeSize a b 1=n) (hlen:n<=1000) :
  Meets (Builtin.«tuple.__new__» ⟨[.type "tuple",.ref l],[]⟩)
   (λA R s=>A.handled=none/\IsRange s.heap l a b 1 t u v/\∀(h':aq) (tk:Nat) (acc':Array af),(∀b o',s.heap.get? b=some o'->h'.get? b=some o')->ItemsOf (λi v=>∃t,v=.int (a+i * 1) t) acc' n->R (.ok (.ret (.ref h'.objs.size))) { s with heap:=h'.push { cls:=.type "tuple",data:=.seq acc' },toks:=tk }):=
 .of_wp λprog w A R s h=>by
  obtain⟨hp,g,d,tk,os⟩:=s;obtain⟨hh,ht,h⟩:=h;have hsub:=sub_tuple_self;have hinit:=init_tuple_lookup;have hmh:=madeHere_tuple;have hT:Shared.TypeIs ⟨hp,g,d,tk,os⟩ (.ref l) "range" := ⟨_,ht,rfl⟩;have hh':A.in1.handled=none:=hh
  wp_walk using AutoSeq1.wpAny_loadPart' ht,jn hT,B6 (A:=A.in1) hh' ht hsmall hn (by omega)
  intro h' tk' acc' hk hacc;show wpAny _ _ (Builtin.Tuple.tupleExact acc'.toList.toArray >>= λv=>ret v) _ _ _;unfold Builtin.Tuple.tupleExact;have e:acc'.toList.toArray=acc':=by simp
  refine aG (bD ?_ (by show acc'.toList.toArray.size<=sizeLine;rw[e,hacc.1,c7];omega));refine aJ ⟨_,rfl,?_⟩;rw[e];exact h h' tk' acc' hk hacc
def yt(hc:X.calm=true):j_ X (.type "tuple") (λxs H Q=>∃p i j,xs=[.ref p]/\H p=some (.rng i j)/\(-(2 ^ 62)<=i/\i<2 ^ 62/\-(2 ^ 62)<=j/\j<2 ^ 62)/\(j-i).toNat<=1000/\∀l,H l=none->Q (.ref l) (upd H l (.tup ((jX i j).map V.int)))):=by
 w_up;obtain⟨p,i,j,rfl,hp,⟨b1,b2,b3,b4⟩,hn,q⟩:=h;kcf_m
 cases rx
 obtain⟨t,u',v,e⟩:=I.hok p _ hp;refine callType_new F.called_tuple ⋯ (F.typeCall_tuple_1 _) (F.newCall_tuple_1 _) (λobj=>F.args_object_init_2 obj _) F.entry_tuple_new
  (sV (n:=(j-i).toNat) p (small_one b1 b2 b3 b4) KP hn) ⟨I.ok.hd hc,e,λh' tk acc' hk hacc=>⟨⟨_,bg _ rfl,rfl⟩,?_⟩⟩
 have I1:Inv X pins σ H { s with heap:=h',toks:=tk }:=I.kept hk;refine⟨.ref h'.objs.size,_,I1.laid (t':=tk) (o:=.tup ((jX i j).map V.int)) (λb o e=>aO _ e) (aS _) ⟨?_,acc'.toList,xj hacc,?_⟩,rfl,q _ (I1.hok.fresh (aS _))⟩
 ·rw[aL,kL,c7];lia
 ·have e:acc'.toList.toArray=acc':=by simp
  rw[e];exact nM.new _ _
abbrev WG (K:au)(te:TE):TE:=λσ H Q=>te σ H λx H1=>∃a xs,x=.ref a/\nH K H1 a xs/\∀p,H1 p=none->Q (.ref p) (upd H1 p (.lst xs.reverse))
def NH{e:aE}{te:TE}{up cp:Pos}{kk:Nat}(he:PE X e te):PE X (.Subscript e (.Slice none none (some (.UnaryOp .USub (.Constant (.int 1) kk cp) up)) p2) pos) (WG X.K te):=by
 x_go;refine Subscript_ (kW (he pins s σ H _ I h) λv s1 ⟨x,H1,I1,r1,a,xs,ex,hq,q⟩=>?_);subst ex
 cases r1
 refine wpAny_Slice ?_;rw[je];refine aJ ?_;refine aJ ?_;rw[evalPart_some];refine kW ((JL (a:=.Constant (.int 1) kk cp) C9 DN) pins s1 σ H1 (λv H'=>v=.int (-1)/\H'=H1) I1 ⟨1,rfl,rfl,rfl⟩) λvs s3 h9=>?_;obtain⟨y,H3,I3,r3,ey,eH⟩:=h9;subst ey eH;obtain⟨t,rfl⟩:=r3;have I4:Inv X pins σ H3 { s3 with heap:=s3.heap.push { cls:=.type "slice",data:=.fields #[.none,.none,.int (-1) t]}}:=I3.kept (t':=s3.toks) λb ob q=>aO _ q;obtain⟨its,rv,pl,hz⟩:=I4.list hq
 skip
 refine tail_any (ops:=[.ref a,.ref s3.heap.objs.size]) pl.isList.typeIs jb.lookup ?_ (by with_unfolding_all rfl);have hlen:=rv.length;refine wpAny_getItem_list_slice pl.isList (iX ..) .none .none (.int (-1) t) ⋯ ?_ (by rw[aT]<;>lia);rw[PySem.W.krv_pick];refine⟨.ref _,_,I4.Lz (t':=s3.toks) (ys:=xs.reverse) (its:=its.reverse) rv.reverse (by rw[d8];exact hz),rfl,q _ I4.fresh⟩
def CA{c:String}:j_ X (.builtin "isinstance") (λxs H Q=>∃x t b,xs=[x,.ty c]/\TyOf X.K H x t/\PySem.W.kitOne X.K t (.type c)=some b/\Q (.bl b) H):=by
 w_up;obtain⟨x,t,b,rfl,ty,e,q⟩:=h;obtain⟨u,w',rfl,rx,rc⟩:=vals2 r
 cases rc
 exact G_ I rx ty e λtk=>⟨.bl b,H,I.tok tk,rfl,q⟩
abbrev P1 (K:au):R2:=λx y H Q=>∃a b ys,x=.ref a/\y=.ref b/\ni K H a []/\ni K H b ys/\Q (.ref b) H
def JM:n8 X (binaryOp .Add) (P1 X.K):=by
 gn_on;obtain⟨a,b,ys,rfl,rfl,h1,h2,q⟩:=h
 cases rx
 cases ry
 obtain⟨us,r1,p1,_⟩:=I.tuple h1;obtain⟨ws,r2,p2,_⟩:=I.tuple h2
 cases r1
 obtain⟨⟨cls,dd,data,sl⟩,ho,hc,n,hd⟩:=id p1;obtain⟨⟨cls2,dd2,data2,sl2⟩,ho2,hc2,n2,hd2⟩:=id p2;simp only at hc hd hc2 hd2;subst hc hd hc2 hd2;exact concat_meets ⟨_,ho,rfl⟩ ⟨_,ho2,rfl⟩ noFill_tuple_add seq_tuple_add gH gD (gf _ _)
   (tuple_addW0 a b _ ws.toArray n n2 dd dd2 sl sl2 (by simp)) ⟨ho,ho2,⟨.ref b,H,I,rfl,q⟩⟩
end
def lE:bootBuiltins "len" = some (.builtin "len"):=by decide +kernel
def RE:bootBuiltins "abs" = some (.builtin "abs"):=by decide +kernel
def RV:bootBuiltins "all" = some (.builtin "all"):=by decide +kernel
def Ru:bootBuiltins "any" = some (.builtin "any"):=by decide +kernel
def JF:bootBuiltins "max" = some (.builtin "max"):=by decide +kernel
def Ri:bootBuiltins "min" = some (.builtin "min"):=by decide +kernel
def yY:bootBuiltins "sorted" = some (.builtin "sorted"):=by decide +kernel
def p8:bootBuiltins "isinstance" = some (.builtin "isinstance"):=by decide +kernel
def Qh:bootBuiltins "int" = some (.type "int"):=by decide +kernel
def M0:bootBuiltins "bool" = some (.type "bool"):=by decide +kernel
def u0:bootBuiltins "list" = some (.type "list"):=by decide +kernel
def rQ:bootBuiltins "tuple" = some (.type "tuple"):=by decide +kernel
def yC:bootBuiltins "range" = some (.type "range"):=by decide +kernel
structure Blt (mg:Str->ba):Prop where
 len:mg "len" = none
 abs:mg "abs" = none
 all:mg "all" = none
 any:mg "any" = none
 max:mg "max" = none
 min:mg "min" = none
 sorted:mg "sorted" = none
 isinstance:mg "isinstance" = none
 int:mg "int" = none
 bool:mg "bool" = none
 str:mg "str" = none
 list:mg "list" = none
 tuple:mg "tuple" = none
 range:mg "range" = none
def Nq:∀{a b:ae},a.Perm b->a.Pairwise (·<=·)->b.Pairwise (·<=·)->a=b:=λp ha hb=>
 gg (λx y _ _ h1 h2=>jx h1 h2) ha hb p
def Fv(i j:Int):(jX i j).Pairwise (·<=·):=by
 unfold jX;rw[dG];exact gI.imp λh=>()
def mV(i j:Int):(jX i j).Nodup:=by
 unfold jX;rw[List.Nodup,dG];exact gI.imp λh=>()
def kG{i j k:Int}:k∈jX i j ↔ i<=k/\k<j:=by
 unfold jX;rw[bH];constructor
 ·rintro⟨a,ha,rfl⟩;have:=cV.mp ha
  lia
 ·rintro⟨h1,h2⟩;exact⟨(k-i).toNat,cV.mpr (),()⟩
theorem wj:∀{l m:ae},l.Nodup->(∀x∈l,x∈m)->m.length<=l.length->l.Perm m
 | [],m,_,_,h=>by
  have:m=[]:=dw.mp (Nat.le_zero.mp h);rw[this]
 | a::l,m,nd,hs,hl=>by
  have ha:a∈m:=hs a aP;have nd':=fH.mp nd;have pm:m.Perm (a::m.erase a):=List.perm_cons_erase ha;have ih:=wj (l:=l) (m:=m.erase a) nd'.2 (λx hx=>by
   have hxa:x≠a:=λe=>nd'.1 (e ▸ hx);exact(List.mem_erase_of_ne hxa).mpr (hs x (aQ _ hx))) (by
   rw[List.length_erase_of_mem ha];dsimp[bF]at hl
   lia)
  exact(List.Perm.cons a ih).trans pm.symm
abbrev Kn (P:aj)(w:ah)(K:au)(mg:Str->ba)(base:aq)(k:Nat)(x:Str)(ps:am)(sp:Sp):Prop:=
 ∃(f:ak) (fd:FuncData),FnOk P w K mg base qy k f fd ps sp/\mg x=some (.ref f)/\PySem.W.keepIn K (.ref f)=true/\Binds K fd ps []
def TM{X:Cx}{k:Nat}{x:Str}{sp:Sp}{e:aE}{t:TA}{p:Pos}(G:Kn X.prog X.w X.K X.mg X.base k x ps sp)(hr:Room k X.A)(ha:PA X (e::es) t)(hg:Gl X x:=by rfl)
  (hdb:(x == ("__debug__" : Str))=false:=by decide) (hs:starEach (e::es) X.env=(false,eval e X.env)::starEach es X.env:=by rfl) (hplain:(backTo pos (starEach es X.env)).any (·.1)=false:=by rfl) :
  PE X (.Call (.Name x p) (e::es) [] pos) (OI sp [] E0 t):=by
 obtain⟨f,fd,F,hm,hk,hb⟩:=G;exact MF F hr hg hm hk hb .nil UD ha hdb hs hplain
abbrev xh (XN fs:am):am->List (bi)->Prop
 | [],[]=>True
 | _::N,none::c=>xh XN fs N c
 | x::N,some j::c=>XN[j]?=some x/\x∈fs/\xh XN fs N c
 | _,_=>False
theorem xh.len{fs:am}:∀{N:am}{c:List (bi)},xh XN fs N c->c.length=N.length
 | [],[],_=>rfl
 | _::N,none::c,h=>dO (·+1) (xh.len (N:=N) (c:=c) h)
 | _::N,some j::c,h=>dO (·+1) (xh.len (N:=N) (c:=c) h.2.2)
 | [],_::_,h=>h.elim
 | _::_,[],h=>h.elim
theorem xh.cp{fs:am}:∀{N:am}{c:List (bi)},xh XN fs N c->∀(i j:Nat) (x:Str),N[i]?=some x->c[i]?=some (some j)->XN[j]?=some x/\x∈fs
 | [],[],_,i,j,x,h1,_=>by simp at h1
 | y::N,none::c,h,i,j,x,h1,h2=>by
  cases i with
  | zero=>simp at h2
  | succ i=>exact xh.cp (N:=N) (c:=c) h i j x (by simpa using h1) (by simpa using h2)
 | y::N,some k::c,h,i,j,x,h1,h2=>by
  cases i with
  | zero=>
   simp at h1 h2;subst h1 h2;exact⟨h.1,h.2.1⟩
  | succ i=>exact xh.cp (N:=N) (c:=c) h.2.2 i j x (by simpa using h1) (by simpa using h2)
 | [],_::_,h,_,_,_,_,_=>h.elim
 | _::_,[],h,_,_,_,_,_=>h.elim
def qK{X:Cx}{scope:Scope}{N:am}(fs:am)(kind:scope.kind=.function)(nocell:∀y∈scope.names,y.2≠.cell)(nm:∀y∈scope.names,y.2=.local->scope.names.lookup y.1=some .local)
  (nolf:∀y∈scope.names,y.2=.free->scope.names.lookup y.1≠some .local) (hf:∀y∈scope.names,y.2=.free->y.1∈fs) (hfs:∀x∈fs,(x,NameKind.free)∈scope.names) (hk:∀x∈fs,X.env.kindOf x=some .cell\/X.env.kindOf x=some .free) (cp:xh X.N fs N cap):CpScope X scope N cap where
 kind:=kind
 nocell:=nocell
 nm:=nm
 fr:=λy hy e=>hk _ (hf y hy e)
 rl:=λy h=>by
  have go:∀k,(k=NameKind.cell\/k=NameKind.free)->(relabel scope X.env).names.lookup y=some k->(y,NameKind.free)∈scope.names:=λk hk e=>by
   obtain⟨⟨n',k'⟩,hm1,hm2⟩:=bH.mp (x_ e);dsimp only at hm2;split at hm2
   ·rename_i hc
    cases hm2
    have:k'=.free:=by
     dsimp[dP]at hc;simpa using hc.1.1
    subst this;exact hm1
   ·cases hm2
    rcases hk with rfl|rfl
    ·exact absurd rfl (nocell _ hm1)
    ·exact hm1
  rcases h with h|h
  ·exact go _ (.inl rfl) h
  ·exact go _ (.inr rfl) h
 len:=cp.len
 nolf:=λx hx=>nolf (x,.free) hx rfl
 cp:=λi j x h1 h2=>by
  obtain⟨a,b⟩:=cp.cp i j x h1 h2;exact⟨a,hfs x b⟩
inductive Kd where
 | non|bl|int|str|lst|tup
 deriving DecidableEq
abbrev Kd.ty:Kd->af
 | .non=>.type "NoneType" | .bl=>.type "bool" | .int=>.type "int" | .str=>.type "str" | .lst=>.type "list" | .tup=>.type "tuple"
abbrev RJ (H:Hp)(x:V):Kd->Prop
 | .non=>x=.non
 | .bl=>∃b,x=.bl b
 | .int=>∃i,x=.int i
 | .str=>∃s,x=.str s
 | .lst=>∃a xs,x=.ref a/\H a=some (.lst xs)
 | .tup=>∃a xs,x=.ref a/\H a=some (.tup xs)
def RJ.VG{K:au}{H:Hp}{x:V}{k:Kd}(h:RJ H x k):TyOf K H x k.ty:=by
 cases k with
 | non=>cases h;exact .non
 | bl=>obtain⟨b,rfl⟩:=h;exact .bl b
 | int=>obtain⟨b,rfl⟩:=h;exact .int b
 | str=>obtain⟨b,rfl⟩:=h;exact .str b
 | lst=>obtain⟨a,xs,rfl,e⟩:=h;exact .lst e
 | tup=>obtain⟨a,xs,rfl,e⟩:=h;exact .tup e
def MZ{K:au}(k:Kd):PySem.W.kitOne K k.ty (.type "int")=some (decide (k=.int\/k=.bl)):=by cases k<;>rfl
def HW{K:au}(k:Kd):PySem.W.kitOne K k.ty (.type "bool")=some (decide (k=.bl)):=by cases k<;>rfl
def kit_tuple{K:au}(k:Kd):PySem.W.kitOne K k.ty (.type "tuple")=some (decide (k=.tup)):=by cases k<;>rfl
def Lp{K:au}(k:Kd):PySem.W.kitOne K k.ty (.type "list")=some (decide (k=.lst)):=by cases k<;>rfl
section
variable {X:Cx}
def Hz(hc:X.calm=true):j_ X (.builtin "max") (λxs H Q=>∃(p:ak) (ns:ae),xs=[.ref p]/\nH X.K H p (ns.map V.int)/\0<ns.length/\∀M,M∈ns->(∀a∈ns,a<=M)->Q (.int M) H):=by
 w_up;obtain⟨p,ns,rfl,hq,hne,q⟩:=h;kcf_m
 cases rx
 obtain⟨its,rv,pl,hz⟩:=I.list hq;have hi:=intsAre_of rv;have hl:=pl.isList;obtain⟨ys,e⟩:=hi.allInts.items;have hns:ns=ys.toList.map (·.1):=by
  rw[<- hi.numsOf,<- nums_intItems,<- e]
 have hsz:0<ys.size:=by
  have h3:=hne;rw[hns,aL,cY]at h3;exact h3
 rw[e]at hl;refine max_intList (I.ok.hd hc) hl hsz λv h' tk hv hk=>?_;obtain⟨t,rfl⟩:=intItems_at hv;obtain⟨h1,h2⟩:=argBest_gt (numAt ys) (ys.size-1);refine⟨.int _,H,I.kept hk,⟨t,rfl⟩,q _ ?_ λa ha=>?_⟩
 ·rw[hns,numAt_eq];exact getD_mem (by rw[aL,cY];lia)
 ·rw[hns]at ha;obtain⟨j,hj,rfl⟩:=mem_getD ha;rw[aL,cY]at hj;rw[<- numAt_eq];exact h2 j ()
end
section
variable {prog:aj}{w:ah}{A:aA}{E:af->aC->Prop}{s:aC}
def CW(n:Nat):Builtin.Slice.sliceAdjust none none (-1) (n:Int)=((n:Int)-1,-1):=by
 unfold Builtin.Slice.sliceAdjust;rfl
def Dk(n:Nat):Builtin.Slice.slicePlaces ((n:Int)-1) (-1) (-1)=n:=by
 unfold Builtin.Slice.slicePlaces;have h1:¬((-1:Int)>0):=by decide
 dsimp[h1,b8];by_cases h:n=0
 ·subst h;simp
 ·rw[aN ()];rw[show(- -1:Int)=1 by decide,Int.ediv_one]
  lia
def vV{t:Tok}{n:Nat}{Q:Int×Int×Nat->aC->Prop}(hs:s.heap.IsSliceOf sl .none .none (.int (-1) t))
  (h:Q ((n:Int)-1,-1,n) s):wpAny (model prog w) A (Builtin.Slice.sliceApplied (.ref sl) (pure (n:Int))) Q E s:=by
 obtain⟨os,hos,hcs,hds⟩:=id hs;unfold Builtin.Slice.sliceApplied Builtin.Slice.sliceFields;refine aG (aG (eg hos hds (x:=.none) rfl (aG (eg hos hds (x:=.none) rfl (aG (eg hos hds (x:=.int (-1) t) rfl (aJ ?_)))))));refine aG (slicePart_int ?_)
 skip
 rw[aM ⋯];refine aG (slicePart_none (aG (slicePart_none (aG (aJ ?_)))));show wpAny _ _ (match Builtin.Slice.sliceAdjust none none (-1) (n:Int)with|(lo,hi)=>pure (lo,(-1:Int),Builtin.Slice.slicePlaces lo hi (-1))) _ _ s;rw[CW n];show wpAny _ _ (pure ((n:Int)-1,(-1:Int),Builtin.Slice.slicePlaces ((n:Int)-1) (-1) (-1))) _ _ s;rw[Dk];exact aJ h
def IM(xs:Array af):((List.range xs.size).filterMap λ(m:Nat)=>xs[((xs.size:Int)-1+(m:Int) * (-1)).toNat]?).toArray=xs.toList.reverse.toArray:=by
 have e:(λ(m:Nat)=>xs[((xs.size:Int)-1+(m:Int) * (-1)).toNat]?)=(λx=>xs[x]?) ∘ λk=>xs.size-1-k:=by
  funext m
  have:((xs.size:Int)-1+(m:Int) * (-1)).toNat=xs.size-1-m:=()
  show xs[((xs.size:Int)-1+(m:Int) * (-1)).toNat]?=xs[xs.size-1-m]?;rw[this]
 rw[e,<- iW,PySem.W.krv_range,List.filterMap_reverse,PySem.W.krv_all]
def uE{t:ak}{items:Array af}{Q:af->aC->Prop}(ht:IsTup s.heap t items)(hs:s.heap.IsSliceOf sl .none .none (.int (-1) tk))
  (h:Q (.ref s.heap.objs.size) { s with heap:=s.heap.push { cls:=.type "tuple",data:=.seq items.toList.reverse.toArray }})
  (hsz:items.size<=sizeLine):wpAny (model prog w) A (getItem (.ref t) (.ref sl)) Q E s:=by
 have htake:sizeOk (.seq items.toList.reverse.toArray):=by
  show items.toList.reverse.toArray.size<=sizeLine;rw[aT,d8,cY];exact hsz
 obtain⟨os,hos,hcs,hds⟩:=id hs;have hTs:s.TypeIs (.ref sl) "slice" := ⟨os,hos,hcs⟩;unfold getItem
 try with_reducible refine dj ?_
 first|refine aG (aJ ?_)|skip
 refine aG (wpAny_sequenceKey ht.typeIs ⋯ ?_);refine aG (cO (name:=Str.ofString "__getitem__") ht.typeIs cI
  (b7 cI ht.typeIs entry_tuple_getitem ?_ (args_tuple_getitem _ _)))
 show wpAny _ _ (Builtin.Tuple.tupleItemsOf (.ref t) >>= _) _ _ s;refine aG (tupleItemsOf_ ht ?_);refine aG (jn hTs ?_);rw[aN ⋯];refine aG (vV hs ?_);have hno:¬((((items.size:Int)-1) == 0 && (-1:Int) == 1 && items.size == items.size)=true):=by
  intro q;rw[dP,dP]at q;exact absurd q.1.2 ⋯
 show wpAny _ _ (if (((items.size:Int)-1) == 0 && (-1:Int) == 1 && items.size == items.size)=true then _ else _) _ _ s;rw[aM hno,IM]
 first
  | exact aG (m:=Builtin.Tuple.tupleExact _) (bD (aJ ⟨_,rfl,aJ h⟩) htake)
  | exact aG (m:=Builtin.Tuple.tupleExact _) (bD (aG (aJ (aJ ⟨_,rfl,aJ h⟩))) htake)
  | exact aG (aG (m:=Builtin.Tuple.tupleExact _) (bD (aJ (aJ ⟨_,rfl,aJ h⟩)) htake))
  | exact aG (aG (m:=Builtin.Tuple.tupleExact _) (bD (aJ ⟨_,rfl,aJ h⟩) htake))
end
section
variable {X:Cx}
abbrev TZ (K:au)(te:TE):TE:=λσ H Q=>te σ H λx H1=>∃a xs,x=.ref a/\ni K H1 a xs/\∀p,H1 p=none->Q (.ref p) (upd H1 p (.tup xs.reverse))
def Fo{e:aE}{te:TE}{up cp:Pos}{kk:Nat}(he:PE X e te):PE X (.Subscript e (.Slice none none (some (.UnaryOp .USub (.Constant (.int 1) kk cp) up)) p2) pos) (TZ X.K te):=by
 x_go;refine Subscript_ (kW (he pins s σ H _ I h) λv s1 ⟨x,H1,I1,r1,a,xs,ex,hq,q⟩=>?_);subst ex
 cases r1
 refine wpAny_Slice ?_;rw[je];refine aJ ?_;refine aJ ?_;rw[evalPart_some];refine kW ((JL (a:=.Constant (.int 1) kk cp) C9 DN) pins s1 σ H1 (λv H'=>v=.int (-1)/\H'=H1) I1 ⟨1,rfl,rfl,rfl⟩) λvs s3 h9=>?_;obtain⟨y,H3,I3,r3,ey,eH⟩:=h9;subst ey eH;obtain⟨t,rfl⟩:=r3;have I4:Inv X pins σ H3 { s3 with heap:=s3.heap.push { cls:=.type "slice",data:=.fields #[.none,.none,.int (-1) t]}}:=I3.kept (t':=s3.toks) λb ob q=>aO _ q;obtain⟨its,rv,pl,hz⟩:=I4.tuple hq
 skip
 refine tail_any (ops:=[.ref a,.ref s3.heap.objs.size]) pl.typeIs cI.lookup ?_ (by with_unfolding_all rfl);have hlen:=rv.length;refine uE pl (iX ..) ?_ (by rw[aT]<;>lia);refine⟨.ref _,_,I4.laid (t':=s3.toks) (o:=.tup xs.reverse) (λb o e=>aO _ e) (aS _) ⟨by rw[d8];exact hz,its.reverse,rv.reverse,?_⟩,rfl,q _ I4.fresh⟩;exact nM.new _ _
abbrev U_ (K:au):V->V->Hp->VK->Prop:=λo i H Q=>∃p xs k v,o=.ref p/\i=.int k/\nH K H p xs/\0<=k/\xs[k.toNat]?=some v/\Q v H
def JK:Ss X (U_ X.K):=by
 intro pins s σ H o i ov iv Q I ro ri h;obtain⟨p,xs,k,v,rfl,rfl,hq,h0,hv,q⟩:=h
 cases ro
 obtain⟨t,rfl⟩:=ri;obtain⟨its,r,pl,hz⟩:=I.list hq;obtain⟨u,eu,ru⟩:=r.get hv;have hl:=r.length;have hn:=r6;have hk:k.toNat<xs.length:=(aK.mp hv).1;exact wpAny_getItem_list pl.isList h0 () (by simpa using eu) ⟨v,H,I,ru,q⟩
end
def AQ(elt t1 i1 t2 i2:aE)(f1 f2:List aE)(scope:Scope)(pos:Pos)(it acc:af)(env:Env) :
  compTurn (.ListComp elt [⟨t1,i1,f1,0⟩,⟨t2,i2,f2,0⟩] scope pos) 0 it acc env=(do
   standAt i1.pos
   match <- pyNext it with
   | none=>pure (.done .next)
   | some v=>
    letOwnedTupleGo t1 it v
    assign t1 env v
    let mut ok:=true
    for c in f1 do
     if ok then ok <- isTrue c env (eval c env)
    if ok then
     let x <- eval i2 env
     standAt i2.pos
     let x <- foldedSetIterable i2 env x
     let _ <- runOwn (.compStart (.ListComp elt [⟨t1,i1,f1,0⟩,⟨t2,i2,f2,0⟩] scope pos) 1 (<- holding [x] (pyIter x)) acc env) env
    again (.compLoop (.ListComp elt [⟨t1,i1,f1,0⟩,⟨t2,i2,f2,0⟩] scope pos) 0 it acc env)):=by rfl
def Aw(elt t1 i1 t2 i2:aE)(f1 f2:List aE)(scope:Scope)(pos:Pos)(it acc:af)(env:Env) :
  compTurn (.ListComp elt [⟨t1,i1,f1,0⟩,⟨t2,i2,f2,0⟩] scope pos) 1 it acc env=(do
   standAt i2.pos
   match <- pyNext it with
   | none=>pure (.done .next)
   | some v=>
    letOwnedTupleGo t2 it v
    assign t2 env v
    let mut ok:=true
    for c in f2 do
     if ok then ok <- isTrue c env (eval c env)
    if ok then
     (do let _ <- call (.builtin "list.append") [acc,<- eval elt env])
    again (.compLoop (.ListComp elt [⟨t1,i1,f1,0⟩,⟨t2,i2,f2,0⟩] scope pos) 1 it acc env)):=by rfl
section
variable {prog:aj}{w:ah}{A:aA}{R:Result->aC->Prop}{s:aC}
def qN{f1 f2:List aE}{acc:af}{env:Env}
  (h0:codeAny (model prog w) A (.compLoop (.ListComp elt [⟨t1,i1,f1,0⟩,⟨t2,i2,f2,0⟩] scope pos) 1 it acc env) R s)
  (h:wpAny (model prog w) A (pyIter it) (λit' s'=>codeAny (model prog w) A (.compLoop (.ListComp elt [⟨t1,i1,f1,0⟩,⟨t2,i2,f2,0⟩] scope pos) 1 it' acc env) R s')
   (notedBy (model prog w) A env λx s'=>R (.error x) s') s) :
  codeAny (model prog w) A (.compStart (.ListComp elt [⟨t1,i1,f1,0⟩,⟨t2,i2,f2,0⟩] scope pos) 1 it acc env) R s:=by
 refine codeAny_of_tree ?_
 skip
 refine wpAny_notedAt ?_;unfold compStart
 skip
 refine aG (wpAny_askSetting (wpAny_ite ?_));split
 ·first
   | exact aG (aJ (aJ (anI rfl h0)))
   | exact aJ (anI rfl h0)
 ·first
   | exact aG (fR (aG (eT (aG (fu h (λit' s' h'=>aJ (anI rfl h')) λ_ _ x=>x)))))
   | (refine aG (fR ?_);show wpAny _ _ (standAt i2.pos >>= _) _ _ s;exact aG (eT (aG (fu h (λit' s' h'=>aJ (anI rfl h')) λ_ _ x=>x))))
end
abbrev Kl (g:TG)(tc:TT)(te:TE)(D:ak)(Nn:L2.St->Hp->Prop)(σ:L2.St)(J:It)(H1:Hp):Prop:=
 ∃V:Nat->Nat->L2.St->Hp->Prop,(∃m,V 0 m σ H1)/\∀i m σ' H',V i m σ' H' ->
  (J.stop i H'/\Nn σ' H')\/(J.go i H'/\∀x H2,J.yld i H' x H2->g x σ' H2 λσ3 H3=>tc σ3 H3 λb H4=>
   if b=true then te σ3 H4 λy H5=>∃ys,H5 D=some (.lst ys)/\ys.length<sizeLine/\∃m',m'<m/\V (i+1) m' σ3 (upd H5 D (.lst (ys++[y])))
   else ∃m',m'<m/\V (i+1) m' σ3 H4)
def Dt{Z:Cx}{f1:List aE}{fp:ar}{D:ak}{tn:Nat->aq->Prop}{H:Hp}{s:aC}{g:TG}{tc:TT}{te:TE}{Nn:L2.St->Hp->Prop}
  (hc:Z.calm=true) (hxe:Z.xe=λ_ _=>False) (T:Turn Z.prog Z.w Z.K tg J fp it tn) (I:Inv Z pins σ H s) (st:tn 0 s.heap) (hf:∀b∈fp,rA Z pins H b) (hg:PG Z tg g) (ht:MB Z ifs tc) (he:PE Z elt te) (goal:Kl g tc te D Nn σ J H) :
  codeAny (model Z.prog Z.w) Z.A (.compLoop (.ListComp elt [⟨t1,i1,f1,0⟩,⟨tg,i2,ifs,0⟩] scope pos) 1 (.ref it) (.ref D) Z.env) (λr s'=>r=.ok .next/\∃σ' H',Inv Z pins σ' H' s'/\Nn σ' H') s:=by
 obtain⟨V,⟨m0,v0⟩,turn⟩:=goal;have stat:∀{H':Hp},(∀b∈fp,H' b=none)->∀b∈fp,rA Z pins H' b:=λhn b hb=>⟨hn b hb,(hf b hb).2⟩;refine codeAny_loop rfl (λn s'=>∃i σ' H',Inv Z pins σ' H' s'/\tn i s'.heap/\(∀b∈fp,H' b=none)/\V i n σ' H') (λn s5 hI=>?_) m0 ⟨0,σ,H,I,st,λb hb=>(hf b hb).1,v0⟩;obtain⟨i,σ5,H5,I5,st5,fr5,w5⟩:=hI
 skip
 refine wpAny_noted ?_;rw[Aw];refine aG (eT (aG ?_))
 rcases turn i n σ5 H5 w5 with⟨stop,q⟩|⟨go,step⟩
 ·refine kW (T.done Z rfl rfl rfl hc i pins s5 σ5 H5 _ I5 (stat fr5) st5 stop) λr s6 h9=>?_;obtain⟨hr,I6⟩:=h9;subst hr;exact aJ ⟨rfl,σ5,H5,I6,q⟩
 ·refine kW (T.item Z rfl rfl rfl hc i pins s5 σ5 H5 _ I5 (stat fr5) st5 go) λr s6 h9=>?_;obtain⟨u,hr,h6⟩:=h9;subst hr;refine aG (kW h6 λ_ s7 ⟨x,H7,I7,r7,y7,st7,fr7⟩=>?_);have I7':=I7.pinned (stat fr7) (T.obj _ _ st7);have toF:∀{α:Type} {t:Sem α} {Q Q':α->aC->Prop} {E:af->aC->Prop} {s:aC},wpAny (model Z.prog Z.w) Z.A t Q Z.xe s->(∀a s,Q a s->Q' a s)->wpAny (model Z.prog Z.w) Z.A t Q' E s:=λh hQ=>by
   rw[hxe]at h;exact Aa h hQ
  refine aG (toF (hg _ s7 σ5 H7 x u _ I7' r7 (step x H7 y7)) λ_ s8 ⟨σ8,H8,I8,q8⟩=>?_);refine aG (toF (ht _ s8 σ8 H8 _ I8 q8) λok s9 ⟨H9,I9,q9⟩=>?_);have again:∀{s10:aC} {H10:Hp},Inv Z (pins++tR fp s7.heap) σ8 H10 s10->(∃m',m'<n/\V (i+1) m' σ8 H10) ->
    ∃m,m<n/\∃i σ' H',Inv Z pins σ' H' s10/\tn i s10.heap/\(∀b∈fp,H' b=none)/\V i m σ' H':=λ{s10 H10} I10 h9=>by
   obtain⟨m',hm,w10⟩:=h9;refine⟨m',hm,i+1,σ8,H10,I10.oR,T.keep _ _ _ st7 λb hb o e=>(I10.pin (b,o) (a_ _ (a_ _ (lG hb e)))).1,λb hb=>?_,w10⟩;obtain⟨o,e,d⟩:=T.obj _ _ st7 b hb;exact(I10.pin (b,o) (a_ _ (a_ _ (lG hb e)))).2.1
  cases ok with
  | false=>
   rw[aM aY]at q9;exact aJ ⟨rfl,again I9 q9⟩
  | true=>
   rw[aN rfl]at q9;refine aG (aG (toF (he _ s9 σ8 H9 _ I9 q9) λy s10 ⟨v10,H10,I10,r10,ys,hD,hz,w10⟩=>?_));refine aG (toF (vN _ s10 σ8 H10 (.ref D) [v10] _ [y] (λ_ H'=>H'=upd H10 D (.lst (ys++[v10]))) I10 rfl (.cons r10 .nil) ⟨_,ys,v10,rfl,rfl,hD,hz,rfl⟩) λ_ s11 ⟨_,H11,I11,_,e11⟩=>?_);subst e11;exact aJ (aJ ⟨rfl,again I11 w10⟩)
abbrev Nj (cap:List (bi))(g:TG)(tc:TT)(wi2:TI)(g2:TG)(tc2:TT)(te:TE)(σ:L2.St)(Q:VK)(J:It)(H1:Hp):Prop:=∀D,H1 D=none ->
 ∃W:Nat->Nat->L2.St->Hp->Prop,(∃m,W 0 m (cap.map (NG σ)) (upd H1 D (.lst [])))/\∀i m σ' H',W i m σ' H' ->
  (J.stop i H'/\Q (.ref D) H')\/(J.go i H'/\∀x H2,J.yld i H' x H2->g x σ' H2 λσ3 H3=>tc σ3 H3 λb H4=>
   if b=true then wi2 σ3 H4 (Kl g2 tc2 te D (λσ5 H5=>∃m',m'<m/\W (i+1) m' σ5 H5) σ3)
   else ∃m',m'<m/\W (i+1) m' σ3 H4)
abbrev Vt (cap:List (bi))(wi:TI)(g:TG)(tc:TT)(wi2:TI)(g2:TG)(tc2:TT)(te:TE):TE:=λσ H Q=>wi σ H (Nj cap g tc wi2 g2 tc2 te σ Q)
def Qx{X:Cx}{iter:aE}{N:am}{wi wi2:TI}{g g2:TG}{tc tc2:TT}{te:TE}(hc:X.calm=true)(S:CpScope X scope N cap)(hi:PI X tg iter wi)
  (hg:∀C s₀ H₀ ex,PG (kQ X scope N C s₀ H₀ ex) tg g) (ht:∀C s₀ H₀ ex,MB (kQ X scope N C s₀ H₀ ex) ifs tc) (hi2:∀C s₀ H₀ ex,PI (kQ X scope N C s₀ H₀ ex) tg2 iter2 wi2)
  (hg2:∀C s₀ H₀ ex,PG (kQ X scope N C s₀ H₀ ex) tg2 g2) (ht2:∀C s₀ H₀ ex,MB (kQ X scope N C s₀ H₀ ex) ifs2 tc2) (he:∀C s₀ H₀ ex,PE (kQ X scope N C s₀ H₀ ex) elt te)
  (hs:∀x,foldedSetIterable iter X.env x=pure x:=by intro _;rfl) (hs2:∀env x,foldedSetIterable iter2 env x=pure x:=by intro _ _;rfl):PE X (.ListComp elt [⟨tg,iter,ifs,0⟩,⟨tg2,iter2,ifs2,0⟩] scope pos) (Vt cap wi g tc wi2 g2 tc2 te):=by
 x_go;kpf_c;rw[eval_ListComp];refine wpAny_comprehension_free (use:=none) rfl hs (xq hfree) S.kind S.nm (kW (hi pins s σ H _ I h) λxv s1 h1=>kW h1 λitv s2 h2=>?_);obtain⟨it,fp,tn,J,H2,rfl,I2,T,st2,f2,h2⟩:=h2;refine bD (wpAny_newFunctionEnv S.nocell (by intro y hy;simp at hy) (λh₁ hns₁ hsb₁=>?_) S.kind);obtain⟨W,⟨m0,w0⟩,turn⟩:=h2 s2.heap.objs.size I2.fresh;dsimp only at hns₁ hsb₁ ⊢;have I3:Inv X pins σ (upd H2 s2.heap.objs.size (.lst [])) { s2 with heap:=s2.heap.push {}}:=I2.Lz (t':=s2.toks) (its:=[]) .nil (cZ _);have hfp:∀b∈fp,∃o,s2.heap.get? b=some o:=λb hb=>by
  obtain⟨o,e,_⟩:=T.obj 0 _ st2 b hb;exact⟨o,e⟩
 have neD:∀b∈fp,b≠s2.heap.objs.size:=λb hb=>by
  obtain⟨o,e⟩:=hfp b hb;exact bE (aX e)
 have f3:∀b∈fp,rA X pins (upd H2 s2.heap.objs.size (.lst [])) b:=λb hb=>⟨by rw[jS (neD b hb)];exact(f2 b hb).1,(f2 b hb).2⟩;have hDC:s2.heap.objs.size≠(s2.heap.push {}).objs.size:=by rw[fq];exact bE (c9 _)
 have old:∀b o,(s2.heap.push {}).get? b=some o->h₁.get? b=some o:=λb o e=>hsb₁.extBut b o (bE (aX e)) (aO _ e);have I4:=HN (tk:=s2.toks+([]:List (Str×af)).length) (fp:=fp) S I3 f3 (λb hb=>by
  obtain⟨o,e⟩:=hfp b hb;exact⟨o,aO _ e⟩) hns₁ old
 have st4:tn 0 h₁:=T.keep _ _ _ st2 λb hb o e=>old b o (aO _ e);have stat:∀{H':Hp},(∀b∈fp,H' b=none)->∀b∈fp,rA (kQ X scope N (s2.heap.push {}).objs.size { s2 with heap:=s2.heap.push {}} (upd H2 s2.heap.objs.size (.lst [])) fp) [] H' b:=λhn b hb=>by
  have ok:=I4.ok;refine⟨hn b hb,(ok.exf b hb).1,ok.exfs b hb,.inl hb,λx c e=>(ok.exf b hb).2 x c e,λp hp=>nomatch hp⟩
 have loop:∀s4:aC,s4={ s2 with heap:=h₁,toks:=s2.toks+([]:List (Str×af)).length } ->
   codeAny (model X.prog X.w) X.A (.compLoop (.ListComp elt [⟨tg,iter,ifs,0⟩,⟨tg2,iter2,ifs2,0⟩] scope pos) 0 (.ref it) (.ref s2.heap.objs.size) (compEnvC scope (wz X.env scope.names []) (s2.heap.push {}).objs.size X.env))
    (compPost (model X.prog X.w) X.A X.xe none (EP X pins σ Q) (.ref s2.heap.objs.size) (s2.heap.push {}).objs.size) s4:=by
  rintro s4 rfl;refine codeAny_loop rfl (λn s'=>∃i σ' H',Inv (kQ X scope N (s2.heap.push {}).objs.size { s2 with heap:=s2.heap.push {}} (upd H2 s2.heap.objs.size (.lst [])) fp) [] σ' H' s'/\tn i s'.heap/\(∀b∈fp,H' b=none)/\W i n σ' H') (λn s5 hI=>?_) m0 ⟨0,_,_,I4,st4,λb hb=>(f3 b hb).1,w0⟩;obtain⟨i,σ5,H5,I5,st5,fr5,w5⟩:=hI
  skip
  refine wpAny_noted ?_;rw[AQ];refine aG (eT (aG ?_))
  rcases turn i n σ5 H5 w5 with⟨stop,q⟩|⟨go,step⟩
  ·refine kW (T.done (kQ X scope N (s2.heap.push {}).objs.size { s2 with heap:=s2.heap.push {}} (upd H2 s2.heap.objs.size (.lst [])) fp) rfl rfl rfl hc i [] s5 σ5 H5 _ I5 (stat fr5) st5 stop) λr s6 h9=>?_;obtain⟨hr,I6⟩:=h9;subst hr;obtain⟨m6,hn6,_⟩:=I6.loc;refine aJ ⟨m6,hn6,λh' sb=>?_⟩;have u6:=I6.base;have nC:∀b o,(s2.heap.push {}).get? b=some o->b≠(s2.heap.push {}).objs.size:=λb o e=>bE (aX e);refine⟨.ref s2.heap.objs.size,H5,?_,rfl,q⟩;refine I3.JN (ch:=fp) I6.os ⟨λb o e n hb hx=>?_,λb o e n hb hx=>?_,λb o e n hx=>?_,λb o e hx=>?_,u6.tups,u6.frzs,u6.tbls⟩ ?_ I6.bare ?_
   ·exact sb.extBut b o (nC b o e) (u6.keep b o e n hb hx)
   ·obtain⟨sl,z⟩:=u6.slot b o e n hb hx;exact⟨sl,sb.extBut b _ (nC b o e) z⟩
   ·exact u6.free b o e n hx
   ·obtain⟨o',z⟩:=u6.there b o e hx;exact⟨o',sb.extBut b _ (nC b o e) z⟩
   ·intro b o e;have hb:∀c v,H5 c=some v->c≠(s2.heap.push {}).objs.size:=λc v e z=>by
     rw[z]at e;have:=I6.free;rw[show H5 (s2.heap.push {}).objs.size=none from this]at e
     cases e
    refine(I6.hok b o e).stay (λc v hc q=>sb.extBut c v ?_ q) (λ_ q=>q) λ_ _ q=>q
    rcases hc with z|z
    ·rw[z];exact hb b o e
    ·exact hb c _ z
   ·intro b hb;obtain⟨_,z1,_,z3,z4,z5⟩:=f3 b hb;exact⟨z3,z1,z4,z5⟩
  ·refine kW (T.item (kQ X scope N (s2.heap.push {}).objs.size { s2 with heap:=s2.heap.push {}} (upd H2 s2.heap.objs.size (.lst [])) fp) rfl rfl rfl hc i [] s5 σ5 H5 _ I5 (stat fr5) st5 go) λr s6 h9=>?_;obtain⟨u,hr,h6⟩:=h9;subst hr;refine aG (kW h6 λ_ s7 ⟨x,H7,I7,r7,y7,st7,fr7⟩=>?_);have I7':=I7.pinned (stat fr7) (T.obj _ _ st7);refine aG (Aa (hg _ _ _ fp _ s7 σ5 H7 x u _ I7' r7 (step x H7 y7)) λ_ s8 ⟨σ8,H8,I8,q8⟩=>?_);refine aG (Aa (ht _ _ _ fp _ s8 σ8 H8 _ I8 q8) λok s9 ⟨H9,I9,q9⟩=>?_);have again:∀{s10:aC} {H10:Hp} {σ10:L2.St},Inv (kQ X scope N (s2.heap.push {}).objs.size { s2 with heap:=s2.heap.push {}} (upd H2 s2.heap.objs.size (.lst [])) fp) ([]++tR fp s7.heap) σ10 H10 s10->(∃m',m'<n/\W (i+1) m' σ10 H10) ->
     ∃m,m<n/\∃i σ' H',Inv (kQ X scope N (s2.heap.push {}).objs.size { s2 with heap:=s2.heap.push {}} (upd H2 s2.heap.objs.size (.lst [])) fp) [] σ' H' s10/\tn i s10.heap/\(∀b∈fp,H' b=none)/\W i m σ' H':=λ{s10 H10 σ10} I10 h9=>by
    obtain⟨m',hm,w10⟩:=h9;refine⟨m',hm,i+1,σ10,H10,I10.oR,T.keep _ _ _ st7 λb hb o e=>(I10.pin (b,o) (a_ _ (a_ _ (lG hb e)))).1,λb hb=>?_,w10⟩;obtain⟨o,e,d⟩:=T.obj _ _ st7 b hb;exact(I10.pin (b,o) (a_ _ (a_ _ (lG hb e)))).2.1
   cases ok with
   | false=>
    rw[aM aY]at q9;exact aJ ⟨rfl,again I9 q9⟩
   | true=>
    rw[aN rfl]at q9;refine aG (Aa (hi2 _ _ _ fp _ s9 σ8 H9 _ I9 q9) λxv s10 h10=>aG (eT ?_));rw[hs2];refine aG (aJ (aG (dj (Aa h10 λitv s11 h11=>?_))));obtain⟨it2,fp2,tn2,J2,H11,rfl,I11,T2,st11,f11,goal⟩:=h11;have hcz:=hc;have loop2:=(λ(Z:Cx) (h1:Z.calm=true) (h2:Z.xe=λ_ _=>False) T2 I11=>Dt (Z:=Z) (t1:=tg) (i1:=iter) (f1:=ifs) (i2:=iter2) (scope:=scope) (pos:=pos) h1 h2 T2 I11) _ (show(kQ X scope N _ _ _ fp).calm=true from hcz) rfl T2 I11 st11 f11 (hg2 _ _ _ fp) (ht2 _ _ _ fp) (he _ _ _ fp) goal;refine aG (wpAny_runOwn (iT (qN loop2 (T2.self _ 0 _ _ _ st11 loop2)) λr s12 hr12=>?_));obtain⟨hr,σ12,H12,I12,n12⟩:=hr12;subst hr;exact aJ ⟨rfl,again I12 n12⟩
 exact codeAny_compStart_list (loop _ rfl) (T.self _ 0 _ _ _ st4 (loop _ rfl))
end L2
namespace L2
open PySem PySem.Spec PyProof.Rows
open PySem.SeqAt
open PySem.AutoSeq1 (wpAny_loadPart')
open PySem.MeetsSeq PySem.MeetsSeq2 PySem.MeetsSeq3 PySem.SeqAt
section
variable {X:Cx}
def HH:n8 X (binaryOp .FloorDiv) (rI (λ_ j=>0<j/\j<18446744073709551616) λi j=>.int (i / j)):=Vj λi j _ _ _ _ _ hc q=>by
 have h1:(0:Int)<j:=hc.1;have h2:j<18446744073709551616:=hc.2;refine floordiv_int (by omega) (by rw[Int.fdiv_eq_ediv_of_nonneg i (by omega)];exact q) (.inl (PyProof.noPylong_of_log2 ?_));exact bQ ((Nat.log2_lt (by omega)).mpr (show j.natAbs<2 ^ 64 by omega)) ⋯
end
end L2
namespace L2
open PySem PySem.Spec PyProof.Rows
abbrev Vs (x:Str):It:=⟨λi _=>i<x.cps.size,λi H v H'=>H'=H/\∃c,x.cps[i]?=some c/\v=.str ⟨#[c]⟩,λi _=>i=x.cps.size⟩
def Km{P:aj}{w:ah}{K:au}(x:Str)(t:Tok)(it:ak):Turn P w K tg (Vs x) [it] it (λi h=>h.IsStrIter it "str_ascii_iterator" x t i) where
 mem:=by simp
 obj:=λi h st b hb=>by
  have e:b=it:=by simpa using hb
  subst e;obtain⟨o,e,c,d⟩:=st;exact⟨o,e,λv z=>by rw[d]at z;cases z⟩
 keep:=λi h h' st k=>let⟨o,ho,r⟩:=st;⟨o,k it (by simp) o ho,r⟩
 item:=by
  k_ne;subst hP hw hK;gp_on;have W:=Walks.strAscii (prog:=X.prog) (w:=X.w) (I.ok.hd hc) it x t;refine W.item i s _ _ hg st λv h' tk hv st' kk=>?_;obtain⟨c,u,hcx,rfl⟩:=hv;have I1:Inv X pins σ H { s with heap:=h',toks:=tk }:=I.turned (λb o hb e=>kk b o (by simpa using hb) e) f0 f1 f3 f4 f5;obtain⟨o,e,cc,d⟩:=id st';exact⟨_,rfl,EK (s:={ s with heap:=h',toks:=tk }) e cc d ⋯ ⟨.str ⟨#[c]⟩,H,I1,⟨u,rfl⟩,⟨rfl,c,hcx,rfl⟩,st',λb hb=>(hf b hb).1⟩⟩
 done:=by
  k_ne;subst hP hw hK;gp_on;have hg:i=x.cps.size:=hg;subst hg;have W:=Walks.strAscii (prog:=X.prog) (w:=X.w) (I.ok.hd hc) it x t;exact W.done s _ _ st λh' tk kk=>⟨rfl,I.turned (λb o hb e=>kk b o (by simpa using hb) e) f0 f1 f3 f4 f5⟩
 self:=λ_ _ _ _ _ st h=>wpAny_pyIter_striter_ascii st h
section
variable {X:Cx}{tg:aE}
abbrev V8 (tl:TE):TI:=λσ H R=>tl σ H λx H1=>∃y:Str,x=.str y/\y.cps.all (· < 128)=true/\R (Vs y) H1
def P4{tl:TE}(hl:PE X l tl):PI X tg l (V8 tl):=by
 intro pins s σ H R I h;refine kW (hl pins s σ H _ I h) λv s1 h9=>?_;obtain⟨x,H1,I1,r1,q1⟩:=h9;obtain⟨y,e,ha,q⟩:=q1;subst e;obtain⟨t,rfl⟩:=r1;refine wpAny_pyIter_ascii ha ?_;refine⟨s1.heap.objs.size,[s1.heap.objs.size],_,_,H1,rfl,I1.kept (t':=s1.toks) λb o e=>aO _ e,Km y t _,⟨_,bg _ rfl,rfl,rfl⟩,λb hb=>?_,q⟩;have e:b=s1.heap.objs.size:=by simpa using hb
 subst e;exact I1.Hv (aS _) (I1.hok.fresh (aS _))
end
section
variable {κ:Type}[DecidableEq κ]
abbrev vg (kvs:List (κ×V))(k:κ):Option V:=(kvs.find? λkv=>decide (kv.1=k)).map (·.2)
abbrev putK (kvs:List (κ×V))(k:κ)(v:V):List (κ×V):=
 if (kvs.any λkv=>decide (kv.1=k))=true then kvs.map (λkv=>if kv.1=k then(kv.1,v)else kv)else kvs++[(k,v)]
def vc{p:κ×V}{r:List (κ×V)}{k:κ}(e:p.1=k):vg (p::r) k=some p.2:=by simp[vg,d7,e]
def uK{p:κ×V}{r:List (κ×V)}{k:κ}(e:¬p.1=k):vg (p::r) k=vg r k:=by simp[vg,d7,e]
theorem xM(k:κ):∀kvs:List (κ×V),(kvs.any λkv=>decide (kv.1=k))=(vg kvs k).isSome
 | []=>rfl
 | p::r=>by
  rw[any_cons];by_cases e:p.1=k
  ·dsimp[vc e,bq e,Bool.true_or,Option.isSome_some]
  ·rw[uK e,bh e,Bool.false_or];exact xM k r
def we(kvs:List (κ×V))(k:κ)(v:V):(putK kvs k v).length<=kvs.length+1:=by
 unfold putK;split
 ·rw[aL];lia
 ·rw[aU,bF,fJ];lia
def yz.vC{o:Option V}{u:ba}(r:yz o u):o.isSome=u.isSome:=by
 cases o with
 | none=>cases u with
  | none=>rfl
  | some _=>exact(show False from r).elim
 | some _=>cases u with
  | none=>exact(show False from r).elim
  | some _=>rfl
def KV.val(r:KV kvs vs)(k:κ):yz (vg kvs k) (valueAt vs k):=by
 unfold KV at r
 induction r with
 | nil=>exact True.intro
 | @cons p q ps qs h t ih=>
  obtain⟨h1,h2⟩:=h;by_cases e:p.1=k
  ·have e':q.1=k:=h1.symm.trans e;have b:valueAt (q::qs) k=some q.2:=by simp[valueAt,d7,e']
   rw[vc e,b];exact h2
  ·have e':¬q.1=k:=λz=>e (h1.trans z);have b:valueAt (q::qs) k=valueAt qs k:=by simp[valueAt,d7,e']
   rw[uK e,b];exact ih
def KV.any{kvs:List (κ×V)}{vs:List (κ×af)}(r:KV kvs vs)(k:κ):(kvs.any λkv=>decide (kv.1=k))=vs.any λkv=>decide (kv.1=k):=by
 unfold KV at r
 induction r with
 | nil=>rfl
 | cons h t ih=>rw[any_cons,any_cons,ih,h.1]
def KV.repl{kvs:List (κ×V)}{vs:List (κ×af)}(r:KV kvs vs)(k:κ)(ry:RelV y u) :
  KV (kvs.map λkv=>if kv.1=k then(kv.1,y)else kv) (vs.map λkv=>if kv.1=k then(kv.1,u)else kv):=by
 unfold KV at r ⊢
 induction r with
 | nil=>exact .nil
 | @cons p q ps qs h t ih=>
  rw[bI,bI];refine .cons ?_ ih;obtain⟨h1,h2⟩:=h;by_cases e:p.1=k
  ·rw[aN e,aN (h1.symm.trans e)];exact⟨h1,ry⟩
  ·rw[aM e,aM (λz=>e (h1.trans z))];exact⟨h1,h2⟩
def KV.put(r:KV kvs vs)(k:κ)(ry:RelV y u):KV (putK kvs k y) (stored vs k u):=by
 unfold putK stored;rw[r.any k];by_cases e:(vs.any λkv=>decide (kv.1=k))=true
 ·rw[aN e,aN e];exact r.repl k ry
 ·rw[aM e,aM e];exact Paired.snoc r ⟨rfl,ry⟩
def KV.length{kvs:List (κ×V)}{vs:List (κ×af)}(r:KV kvs vs):kvs.length=vs.length:=jd r
end
def Ey{P:aj}{w:ah}{k:Key}(r:RelV (kV k) u):(k_ P w).is k u=true:=by
 cases k with
 | inl i=>obtain⟨t,e⟩:=(show ∃t,u=Value.int i t from r);subst e;exact BJ P w i t
 | inr x=>obtain⟨t,e⟩:=(show ∃t,u=Value.str x t from r);subst e;exact CH P w x t
theorem ze{P:aj}{w:ah}:∀{ks:List Key}{us:ap},Vals (ks.map kV) us->ItemsAre (k_ P w) ks us
 | [],_,r=>by rw[map_nil]at r;cases r;exact .nil
 | k::ks,_,r=>by
  rw[bI]at r
  cases r with
  | cons h t=>exact .cons (Ey h) (ze t)
meta abbrev KT (H:Hp):List (List Key×V)->List (List Key×ak×af)->Prop:=Paired λp q=>p.1=q.1/\H q.2.1=some (.tup (p.1.map kV))/\RelV p.2 q.2.2
def KT.val{H:Hp}(r:KT H kvs xs)(k:List Key):yz (vg kvs k) ((atKey xs k).map (·.2)):=by
 induction r with
 | nil=>exact True.intro
 | @cons p q ps qs h t ih=>
  obtain⟨h1,_,h2⟩:=h;by_cases e:p.1=k
  ·have e':q.1=k:=h1.symm.trans e;have b:atKey (q::qs) k=some q.2:=by simp[atKey,d7,e']
   rw[vc e,b];exact h2
  ·have e':¬q.1=k:=λz=>e (h1.trans z);have b:atKey (q::qs) k=atKey qs k:=by simp[atKey,d7,e']
   rw[uK e,b];exact ih
def KT.repl{H:Hp}{kvs:List (List Key×V)}{xs:List (List Key×ak×af)}(r:KT H kvs xs)(k:List Key)(ry:RelV y u) :
  KT H (kvs.map λkv=>if kv.1=k then(kv.1,y)else kv) (xs.map (putAt k u)):=by
 induction r with
 | nil=>exact .nil
 | @cons p q ps qs h t ih=>
  rw[bI,bI];refine .cons ?_ ih;obtain⟨h1,h2,h3⟩:=h;unfold putAt;by_cases e:p.1=k
  ·rw[aN e,aN (h1.symm.trans e)];exact⟨h1,h2,ry⟩
  ·rw[aM e,aM (λz=>e (h1.trans z))];exact⟨h1,h2,h3⟩
def KT.put{H:Hp}(r:KT H kvs xs)(k:List Key)(hb:H b=some (.tup (k.map kV)))(ry:RelV y u) :
  KT H (putK kvs k y) (storedH xs k b u):=by
 have e:(kvs.any λkv=>decide (kv.1=k))=(atKey xs k).isSome:=by
  rw[xM,(r.val k).vC,isSome_map]
 unfold putK storedH;rw[e];by_cases q:(atKey xs k).isSome=true
 ·rw[aN q,aN q];exact r.repl k ry
 ·rw[aM q,aM q];exact Paired.snoc r ⟨rfl,hb,ry⟩
def KT.keeps{H H':Hp}(r:KT H kvs xs)(ht:∀b ys,H b=some (.tup ys)->H' b=some (.tup ys)):KT H' kvs xs:=
 Paired.Sa r λ_ _ z=>⟨z.1,ht _ _ z.2.1,z.2.2⟩
section
variable {P:aj}{w:ah}{H:Hp}{h:aq}{a:ak}
def O7(ok:uh P w H h)(e:Rd H a u):kR P w H h a u:=e.ok ok
def Eo{kvs:List (Key×V)}(ok:uh P w H h)(e:Rd H a (.dK kvs)):kvs.length<=sizeLine/\(a == sysModules)=false/\∃vs,KV kvs vs/\h.DictOf (k_ P w) a vs:=
 show kR P w H h a (.dK kvs)from O7 ok e
def UK{kvs:List (Key×V)}(ok:uh P w H h)(e:H a=some (.dK kvs)):kvs.length<=sizeLine/\(a == sysModules)=false/\∃vs,KV kvs vs/\h.DictOf (k_ P w) a vs:=Eo ok (.inl e)
def w9{ks:List Key}(ok:uh P w H h)(e:H a=some (.tup (ks.map kV))):(tupleKind (k_ P w)).is h ks a:=by
 obtain⟨_,its,r,o,h1,h2,_,n,h3⟩:=(show kR P w H h a (.tup (ks.map kV))from ok a _ e);exact⟨o,its.toArray,n,h1,h2,h3,by simpa using ze r⟩
def D3{kvs:List (List Key×V)}(ok:uh P w H h)(e:Rd H a (.dT kvs)):kvs.length<=sizeLine/\(a == sysModules)=false /\
  ∃xs,KT H kvs xs/\h.DictOfH (tupleKind (k_ P w)) a xs:=by
 obtain⟨z,y,xs,r,o,es,ep,h1,h2,h3,h4,h5⟩:=(show kR P w H h a (.dT kvs)from O7 ok e);refine⟨z,y,xs,r,o,es,ep,h1,h2,h3,h4,λx hx=>?_,h5⟩;have all:∀{l:List (List Key×V)} {m:List (List Key×ak×af)},KT H l m->∀x∈m,(tupleKind (k_ P w)).is h x.1 x.2.1:=by
  intro l m q
  induction q with
  | nil=>intro x hx;exact nomatch hx
  | @cons p q ps qs hq t ih=>
   intro x hx
   rcases bP.mp hx with e|hx
   ·subst e;exact w9 ok (by rw[<- hq.1];exact hq.2.1)
   ·exact ih x hx
 exact all r x hx
def CC{kvs:List (List Key×V)}(ok:uh P w H h)(e:H a=some (.dT kvs)):kvs.length<=sizeLine/\(a == sysModules)=false /\
  ∃xs,KT H kvs xs/\h.DictOfH (tupleKind (k_ P w)) a xs:=D3 ok (.inl e)
end
abbrev zY (H:Hp)(a:ak)(y:V)(r:Option V):Prop:=
 (∃kvs k,Rd H a (.dK kvs)/\y=kV k/\r=vg kvs k)\/∃kvs k b,Rd H a (.dT kvs)/\y=.ref b/\H b=some (.tup (k.map kV))/\r=vg kvs k
abbrev JY (H:Hp)(a:ak)(y v:V)(H':Hp):Prop:=
 (∃kvs k,H a=some (.dK kvs)/\y=kV k/\kvs.length<sizeLine/\H'=upd H a (.dK (putK kvs k v))) \/
 ∃kvs k b,H a=some (.dT kvs)/\y=.ref b/\H b=some (.tup (k.map kV))/\kvs.length<sizeLine/\H'=upd H a (.dT (putK kvs k v))
def zY.t{H:Hp}{a:ak}{k:List Key}(e:H a=some (.dT kvs))(eb:H b=some (.tup (k.map kV))):zY H a (.ref b) (vg kvs k):=.inr ⟨kvs,k,b,.inl e,rfl,eb,rfl⟩
def JY.t{H:Hp}{a:ak}{kvs:List (List Key×V)}{k:List Key}{v:V}(e:H a=some (.dT kvs))(eb:H b=some (.tup (k.map kV)))(hl:kvs.length<sizeLine) :
  JY H a (.ref b) v (upd H a (.dT (putK kvs k v))):=.inr ⟨kvs,k,b,e,rfl,eb,hl,rfl⟩
section
variable {X:Cx}{pins:bj}{σ:St}{H:Hp}{s:aC}{a:ak}{y v:V}{u r:af}{o:Option V}{A:aA}{E:af->aC->Prop}
def Inv.big(I:Inv X pins σ H s):sysModules<s.heap.objs.size:=by
 have h:mainGlobals<s.heap.objs.size:=(I.mod.glob.keeps I.bk).lt;exact Nat.lt_trans ⋯ h
def Hh{Q:af->aC->Prop}(hu:A.units+1<cLine)(I:Inv X pins σ H s)(g:zY H a y (some v))(ry:RelV y u)(h:∀w' s',Inv X pins σ H s'->RelV v w'->Q w' s') :
  wpAny (model X.prog X.w) A (getItem (.ref a) u) Q E s:=by
 rcases g with⟨kvs,k,e,ey,l⟩|⟨kvs,k,b,e,ey,eb,l⟩
 ·subst ey;obtain⟨z,hd,vs,rel,dd⟩:=Eo I.hok e;obtain⟨w',hw,rw'⟩:=yz.some_of (v:=v) (o:=valueAt vs k) (by rw[l];exact rel.val k);exact wpAny_getItem_of (Ey ry) dd.mapOf hw (h w' _ (I.tok _) rw')
 ·subst ey
  cases(show u=Value.ref b from ry)
  obtain⟨z,hd,xs,rel,dd⟩:=D3 I.hok e;obtain⟨w',hw,rw'⟩:=yz.some_of (v:=v) (o:=(atKey xs k).map (·.2)) (by rw[l];exact rel.val k);obtain⟨p,hp,hp2⟩:=bA.mp hw;refine wpAny_getItem_heap (iY hu) (w9 I.hok eb) dd hp ?_;rw[hp2];exact h w' _ (I.tok _) rw'
def M8{Q:af->aC->Prop}(hu:A.units+1<cLine)(I:Inv X pins σ H s)(g:zY H a y o)(ry:RelV y u)(h:∀s',Inv X pins σ H s'->Q (.bool (!o.isSome)) s') :
  wpAny (model X.prog X.w) A (compareOp .NotIn u (.ref a)) Q E s:=by
 rcases g with⟨kvs,k,e,ey,l⟩|⟨kvs,k,b,e,ey,eb,l⟩
 ·subst ey;obtain⟨z,hd,vs,rel,dd⟩:=Eo I.hok e;refine wpAny_notIn_of (Ey ry) hd dd.mapOf ?_;rw[<- (rel.val k).vC,<- l];exact h _ (I.tok _)
 ·subst ey
  cases(show u=Value.ref b from ry)
  obtain⟨z,hd,xs,rel,dd⟩:=D3 I.hok e;refine wpAny_notIn_heap (iY hu) (w9 I.hok eb) hd dd ?_;have q:=(rel.val k).vC;rw[isSome_map]at q;rw[<- q,<- l];exact h _ (I.tok _)
def wZ{h':aq}{t':Nat}{ob:HO}(I:Inv X pins σ H s)(mu:Td (H a))(hs:Heap.SameBut a s.heap h')(he:∃q,h'.get? a=some q)(new:kR X.prog X.w (upd H a ob) h' a ob) :
  Inv X pins σ (upd H a ob) { s with heap:=h',toks:=t' }:=
 I.write (x:=a) (e:=a) mu (.inl rfl) (λb q hb z=>(hs.2 b hb).trans z) he new
def PF{P:aj}{w:ah}{H':Hp}{h':aq}{kvs:List (Key×V)}(z:kvs.length<=sizeLine)(hd:(a == sysModules)=false)(rel:KV kvs vs)(dd:h'.DictOf (k_ P w) a vs) :
  kR P w H' h' a (.dK kvs):=⟨z,hd,vs,rel,dd⟩
def GB{H':Hp}{Q:Unit->aC->Prop}(hu:A.units+1<cLine)(I:Inv X pins σ H s)(g:JY H a y v H')(ry:RelV y u)(rv:RelV v r)(h:∀s',Inv X pins σ H' s'->Q Unit.unit s') :
  wpAny (model X.prog X.w) A (setItem (.ref a) u r) Q E s:=by
 rcases g with⟨kvs,k,e,ey,l,eH⟩|⟨kvs,k,b,e,ey,eb,l,eH⟩
 ·subst ey eH;obtain⟨z,hd,vs,rel,dd⟩:=UK I.hok e;have hz:vs.length<=sizeLine:=by rw[<- rel.length];exact z
  have hl:(putK kvs k v).length<=sizeLine:=by have:=we kvs k v;lia
  refine wpAny_setItem_pairs (hsz:=hz) (Ey ry) dd λh' dd' hs=>h _ ?_;have he:∃q,h'.get? a=some q:=let⟨q,_,_,hq,_⟩:=dd';⟨q,hq⟩
  exact wZ I (by rw[e];exact True.intro) hs he (PF hl hd (rel.put k rv) dd')
 ·subst ey eH
  cases(show u=Value.ref b from ry)
  obtain⟨z,hd,xs,rel,dd⟩:=CC I.hok e;have hz:xs.length<=sizeLine:=by rw[<- jd rel];exact z
  have hl:(putK kvs k v).length<=sizeLine:=by have:=we kvs k v;lia
  refine wpAny_setItem_heap (hsz:=hz) (iY hu) (w9 I.hok eb) dd λh' dd' hs=>h _ ?_;obtain⟨q,es,ep,hq,h2,h3,h4,_,h5⟩:=dd';refine wZ I (by rw[e];exact True.intro) hs ⟨q,hq⟩ ⟨hl,hd,_,(rel.put k eb rv).keeps λc ys ec=>?_,q,es,ep,hq,h2,h3,h4,h5⟩;rw[jS (HF ec e (λz=>nomatch z))];exact ec
end
def Cr{X:Cx}{H:Hp}{s:aC}{a:ak}(I:Inv X pins σ H s)(g:zY H a y o):s.TypeIs (.ref a) "dict" := by
 rcases g with⟨kvs,k,e,_,_⟩|⟨kvs,k,b,e,_,_,_⟩
 ·obtain⟨_,_,vs,_,dd⟩:=Eo I.hok e;exact dd.typeIs
 ·obtain⟨_,_,xs,_,dd⟩:=D3 I.hok e;exact dd.typeIs
def Jk{P:aj}{w:ah}{H:Hp}(h:aq)(hb:sysModules<h.objs.size):kR P w H (h.push { cls:=.type "dict",data:=.dict #[]}) h.objs.size (.dT []):=
 ⟨cZ _,beq_eq_false_iff_ne.mpr (gr (bE hb)),[],.nil,_,#[],0,bg _ rfl,⟨rfl,rfl,rfl⟩,rfl,rfl,List.nodup_nil⟩
structure M1 (X:Cx)(o:aE)(m:Str)(apos:Pos)(e:aE)(cpos:Pos):Prop where
 base:attributeBase o m X.env (eval o X.env)=eval o X.env
 few:((backTo cpos (starEach [e] X.env)).all (λx=>!x.1) && (backToKw cpos (keywordEach [] X.env)).all (λx=>x.1.isSome)
  && decide (([e]:List aE).length+([]:List Keyword).length+(if ([]:List Keyword).isEmpty then 0 else 1)<30))=true
 line:(apos.endLine == cpos.line)=true
 trees:backTo cpos (starEach [e] X.env)=[(false,eval e X.env)]
structure M2 (X:Cx)(o:aE)(m:Str)(apos:Pos)(e f:aE)(cpos:Pos):Prop where
 base:attributeBase o m X.env (eval o X.env)=eval o X.env
 few:((backTo cpos (starEach [e,f] X.env)).all (λx=>!x.1) && (backToKw cpos (keywordEach [] X.env)).all (λx=>x.1.isSome)
  && decide (([e,f]:List aE).length+([]:List Keyword).length+(if ([]:List Keyword).isEmpty then 0 else 1)<30))=true
 line:(apos.endLine == cpos.line)=true
 trees:backTo cpos (starEach [e,f] X.env)=[(false,eval e X.env),(false,eval f X.env)]
section
variable {X:Cx}
def N6(hu:X.A.units+1<cLine):Rg X (λx y H Q=>∃a v,x=.ref a/\zY H a y (some v)/\Q v H):=by
 mg_lt;obtain⟨a,z,rfl,g,q⟩:=h
 cases rx
 have hT:=Cr I g;unfold subscriptTail;refine aG ?_;rw[getitemInPython_of_ne hT.not_modules];refine aG (wpAny_specialOf hT PySem.F.slot_dict_getitem.lookup ?_);have fin:wpAny (model X.prog X.w) X.A (subscripted slice false (.ref a) u) (λr s₃=>wpAny (model X.prog X.w) X.A (letTemporaryGo value (.ref a) r >>= λ_=>pure r) (EP X pins σ Q) X.xe s₃) X.xe s:=by
  rw[hs];exact wpAny_operating (Hh hu I g ry λw' s3 I3 rw'=>aG (wpAny_letTemporaryGo (aJ ⟨z,H,I3,rw',q⟩)))
 first
  | exact aJ (aG fin)
  | exact aG (aJ (aG fin))
  | exact aG fin
def G3(hu:X.A.units+1<cLine):n8 X (compareOp .NotIn) (λy x H Q=>∃a o,x=.ref a/\zY H a y o/\Q (.bl (!o.isSome)) H):=by
 intro pins s σ H y x v u Q I ry rx h;obtain⟨a,o,rfl,g,q⟩:=h
 cases rx
 exact M8 hu I g ry λs3 I3=>⟨.bl (!o.isSome),H,I3,rfl,q⟩
def set_dict(hu:X.A.units+1<cLine):GR X (λo i v H Q=>∃a H',o=.ref a/\JY H a i v H'/\Q H'):=by
 intro pins s σ H o i v ov iv u Q I ro ri rv h;obtain⟨a,H',rfl,g,q⟩:=h
 cases ro
 exact GB hu I g ri rv λs4 I4=>⟨H',I4,q⟩
abbrev Q5 (tk tv:TE):TE:=λσ H Q=>∀p,H p=none->tk σ (upd H p (.dT [])) λx H1=>tv σ H1 λy H2=>H2 p=some (.dT [])/\∃b ks,x=.ref b/\H2 b=some (.tup (ks.map kV))/\Q (.ref p) (upd H2 p (.dT [(ks,y)]))
def Ku{k v:aE}{tk tv:TE}(hu:X.A.units+1<cLine)(hk:PE X k tk)(hv:PE X v tv):PE X (.Dict [some k] [v] pos) (Q5 tk tv):=by
 intro pins s σ H Q I q;have hn:=I.hok.fresh (aS s.heap.objs.size);have I1:=I.laid (a:=s.heap.objs.size) (o:=.dT []) (h':=s.heap.push { cls:=.type "dict",data:=.dict #[]}) (t':=s.toks) (λ_ _ q=>aO _ q) (aS _) (Jk s.heap I.big);refine wpAny_Dict_any rfl rfl (by simp) (show 1<=15 by decide) ?_;refine pairTrees_cons_walk (kW (hk pins _ σ _ _ I1 (q _ hn)) λkv s1 ⟨x,H1,I2,rx,q1⟩=>kW (hv pins s1 σ H1 _ I2 q1) λvv s2 ⟨y,H2,I3,ry,e,b,ks,ex,eb,q2⟩=>pairTrees_nil_walk ?_);subst ex
 cases rx
 obtain⟨z,hd,xs,rel,dd⟩:=CC I3.hok e
 cases rel
 unfold storeAll;rw[jw];refine aG (aG (wpAny_dictSet_heap (hsz:=by simp) (show X.A.units<cLine by lia) (w9 I3.hok eb) dd λh' dd' hs=>aJ ?_));dsimp only;rw[jA];refine aJ ⟨.ref s.heap.objs.size,_,?_,rfl,q2⟩;obtain⟨q',es,ep,hq,h2,h3,h4,_,h5⟩:=dd';refine wZ I3 (by rw[e];exact True.intro) hs ⟨q',hq⟩ ⟨by show 1<=sizeLine;decide,hd,_,(KT.put (kvs:=[]) .nil ks eb ry).keeps λc ys ec=>?_,q',es,ep,hq,h2,h3,h4,h5⟩;rw[jS (HF ec e (λz=>nomatch z))];exact ec
end
section
variable {P:aj}{w:ah}{A:aA}{E:af->aC->Prop}{s:aC}{it d:ak}{i ep:Nat}{es:Array DictEntry}{o:Obj}{k0 v0:af}
def Nb{Q:ba->aC->Prop}(hi:IsItemIter s.heap it d i es.size ep k0 v0)(ho:s.heap.get? d=some o)(hd:o.data=.dict es ep)(lt:i<es.size)
  (q:∀h',IsItemIterOut h' it d (i+1) es.size ep es[i].key es[i].val s.heap.objs.size->h'.get? s.heap.objs.size=some { cls:=.type "tuple",data:=.seq #[es[i].key,es[i].val]}->h'.objs.size=s.heap.objs.size+1 ->
   (∀b ob,b≠it->s.heap.get? b=some ob->h'.get? b=some ob)->Q (some (.ref s.heap.objs.size)) { s with heap:=h' }) :
  wpAny (model P w) A (pyNext (.ref it)) Q E s:=by
 obtain⟨hp,gn,dr,tk,os⟩:=s;have ty:Shared.TypeIs ⟨hp,gn,dr,tk,os⟩ (.ref it) "dict_itemiterator" := ⟨_,hi,rfl⟩;have own:Builtin.Dict_items.ownsTuple "dict_itemiterator" = true:=by decide
 kpc_g;have n0:¬((i:Int)<0):=()
 unfold pyNext;refine aG (fL (cO (name:=Str.ofString "__next__") ty cu (b7 cu ty f_ ?_ (fY _))));refine aG (aJ (aG (aG ?_)))
 first
  | refine aG (dQ ty (aJ (aG (dH hi rfl ?_))))
  | refine aG (eK ty (aJ (aG (dH hi rfl ?_))))
 dsimp[own,c6];show wpAny (model P w) _ (if (Value.ref d == Value.none)=true then _ else _) _ _ ⟨hp,gn,dr,tk,os⟩;rw[aM nn];cb_eq;kcj_m;o_rec;kcj_m;refine aJ ?_;dsimp[n0,b8,cC,cT lt];refine aG ?_
 first
  | refine aG (dQ ty (aJ (aG (fC ty ?_))))
  | refine aG (eK ty (aJ (aG (fC ty ?_))))
 show wpAny (model P w) _ (setField (.ref it) 3 (rawInt ((i:Int)+1)) >>= _) _ _ _;refine aG (fD hi (show _ by simp) λh1 e1 b1=>?_);have b1:Heap.SameBut it hp h1:=b1;have e1:IsItemIter h1 it d (i+1) es.size ep k0 v0:=by
  have z:((i+1:Nat):Int)=(i:Int)+1:=()
  unfold IsItemIter;rw[z];simpa[rawInt]using e1
 have ty1:Shared.TypeIs ⟨h1,gn,dr,tk,os⟩ (.ref it) "dict_itemiterator" := ⟨_,e1,rfl⟩;refine aG (dj (aG (fC ty1 (aG (fC ty1 ?_)))))
 skip
 delta Builtin.Dict_items.pairFromOwner;refine aG (wpAny_newTuple (?_));have il:it<hp.objs.size:=aX hi;have sz1:h1.objs.size=hp.objs.size:=b1.1;obtain⟨h2,hh2⟩:∃h2,h2=h1.push { cls:=.type "tuple",data:=.seq #[es[i].key,es[i].val]}:=⟨_,rfl⟩;have e2:IsItemIter h2 it d (i+1) es.size ep k0 v0:=by rw[hh2];exact aO _ e1
 have t2:h2.get? hp.objs.size=some { cls:=.type "tuple",data:=.seq #[es[i].key,es[i].val]}:=by rw[hh2,<- sz1];exact bg _ rfl
 have sz2:h2.objs.size=hp.objs.size+1:=by rw[hh2,fq,sz1]
 have kp2:∀b ob,b≠it->hp.get? b=some ob->h2.get? b=some ob:=λb ob nb eb=>by rw[hh2];exact aO _ (b1.extBut b ob nb eb)
 skip
 rw[<- hh2,sz1];refine aG ?_;delta Builtin.Dict_items.ownedTupleIsFree;refine aG (eg e2 rfl (x:=.none) rfl (aJ ?_));dsimp[c6];refine aG (eg e2 rfl (x:=k0) rfl (aG (eg e2 rfl (x:=v0) rfl ?_)));refine aG (fD e2 (show _ by simp) λh3 e3 b3=>?_);have b3:Heap.SameBut it h2 h3:=b3;have e3:IsItemIter h3 it d (i+1) es.size ep es[i].key v0:=e3;refine aG (fD e3 (show _ by simp) λh4 e4 b4=>?_);have b4:Heap.SameBut it h3 h4:=b4;have e4:IsItemIter h4 it d (i+1) es.size ep es[i].key es[i].val:=e4;refine aG (fD e4 (show _ by simp) λh5 e5 b5=>?_);have b5:Heap.SameBut it h4 h5:=b5;have e5:IsItemIterOut h5 it d (i+1) es.size ep es[i].key es[i].val hp.objs.size:=e5;refine aG (fD e5 (show _ by simp) λh6 e6 b6=>?_);have b6:Heap.SameBut it h5 h6:=b6;have e6:IsItemIterOut h6 it d (i+1) es.size ep es[i].key es[i].val hp.objs.size:=e6;have kp6:∀b ob,b≠it->h2.get? b=some ob->h6.get? b=some ob:=λb ob nb eb=>b6.extBut b ob nb (b5.extBut b ob nb (b4.extBut b ob nb (b3.extBut b ob nb eb)));refine aG (wpAny_letGo (aJ (aJ ⟨_,rfl,aJ (q h6 e6 (kp6 _ _ (ne_of_gt il) t2) ?_ λb ob nb eb=>kp6 b ob nb (kp2 b ob nb eb))⟩)))
 skip
 rw[b6.1,b5.1,b4.1,b3.1,sz2]
def QK{Q:ba->aC->Prop}(hh:A.handled=none)(hi:IsItemIter s.heap it d i es.size ep k0 v0)(ho:s.heap.get? d=some o)(hd:o.data=.dict es ep)(ge:es.size<=i)
  (q:∀h',Heap.ExtBut it s.heap h'->Q none { s with heap:=h' }):wpAny (model P w) A (pyNext (.ref it)) Q E s:=by
 have ty:s.TypeIs (.ref it) "dict_itemiterator" := ⟨_,hi,rfl⟩;have own:Builtin.Dict_items.ownsTuple "dict_itemiterator" = true:=by decide
 kpc_g;have n0:¬((i:Int)<0):=()
 unfold pyNext;refine aG (fL (cO (name:=Str.ofString "__next__") ty cu (b7 cu ty f_ ?_ (fY _))));refine aG (aJ (aG (aG ?_)))
 first
  | refine aG (dQ ty (aJ (aG (dH hi rfl ?_))))
  | refine aG (eK ty (aJ (aG (dH hi rfl ?_))))
 dsimp[own,c6];show wpAny (model P w) _ (if (Value.ref d == Value.none)=true then _ else _) _ _ s;rw[aM nn];cb_eq;kcj_m;o_rec;kcj_m;refine aJ ?_;dsimp[n0,b8,cC,dI ge];refine aG ?_
 first
  | refine aG (dQ ty (aJ ?_))
  | refine aG (eK ty (aJ ?_))
 show wpAny (model P w) _ (setField (.ref it) 2 .none >>= _) _ _ s;refine aG (gJ hi rfl (show _ by simp) ?_)
 skip
 refine aG ?_;dsimp[newExc,newTuple];refine aG (bD (aG (m:=firstArgMember _ _) (wpAny_of_eq (a:=Value.none) (by first|rfl|(dsimp[firstArgMember];rfl)) (bD ?_ (by size_fits)))) (by size_fits));dsimp[raiseNew];have hn:A.in1.handled=none:=hh;refine aG (wpAny_handled (?_));rw[hn];refine aG (aJ (wpAny_throw (?_)));kj_on
end
def NW:entryFor table "dict_itemiterator.__iter__" = some Builtin.«dict_keyiterator.__iter__»:=entryFor_alias (by kernel_rfl) rfl (id' := "dict_keyiterator.__iter__") ∅ (by kernel_rfl)
abbrev Wm (d:ak)(o:Obj)(u:HO)(ps:List (ak×V)):It:=
 ⟨λi H=>∃a v,ps[i]?=some (a,v)/\H d=some (.frz o u),λi H x H'=>∃T,H T=none/\x=.ref T/\∀a v,ps[i]?=some (a,v)->H'=upd H T (.tup [.ref a,v]),λi H=>i=ps.length/\H d=some (.frz o u)⟩
def DB{P:aj}{w:ah}{K:au}(d it:ak){o:Obj}{es:Array DictEntry}{ps:List (ak×V)}(hd:o.data=.dict es ep)(hl:ps.length=es.size)
  (hp:∀i a v,ps[i]?=some (a,v)->∀h:i<es.size,es[i].key=.ref a/\RelV v es[i].val):Turn P w K (.Tuple elts x1 tpos) (Wm d o u ps) [it] it (λi h=>∃k0 v0,IsItemIter h it d i es.size ep k0 v0) where
 mem:=by simp
 obj:=λi h st b hb=>by
  obtain⟨k0,v0,st⟩:=st;have:b=it:=by simpa using hb
  subst this;exact⟨_,st,λv z=>by cases z⟩
 keep:=λi h h' ⟨k0,v0,st⟩ k=>⟨k0,v0,k it (by simp) _ st⟩
 item:=by
  k_ne;subst hP hw hK;obtain⟨k0,v0,st⟩:=st;obtain⟨a,v,hx,hq⟩:=hg;have ho:s.heap.get? d=some o:=(show kR _ _ H s.heap d (.frz o u)from I.hok d _ hq).1;have lt:i<es.size:=by rw[<- hl];exact(aK.mp hx).1
  obtain⟨ek,rv⟩:=hp i a v hx lt;refine Nb st ho hd lt λh' hout hT hsz hk=>⟨_,rfl,wpAny_letOwnedTupleGo_items hout λh2 he2 hs2=>?_⟩;have fT:H s.heap.objs.size=none:=I.hok.fresh (aS _);have hil:it<s.heap.objs.size:=aX st;have k2:∀b ob,b≠it->s.heap.get? b=some ob->h2.get? b=some ob:=λb ob h1 qb=>hs2.extBut b ob h1 (hk b ob h1 qb);have hT2:h2.get? s.heap.objs.size=some { cls:=.type "tuple",data:=.seq #[es[i].key,es[i].val]}:=hs2.extBut _ _ (ne_of_gt hil) hT;obtain⟨i0,i1,i2,i3,i4,i5⟩:=hf it (by simp);have nT:∀b ob,s.heap.get? b=some ob->b≠s.heap.objs.size:=λb ob qb=>bE (aX qb);have ne_tr:∀c y,H c=some y->c≠it:=λc y qc z=>by rw[z,i0]at qc;cases qc
  have I2:Inv X pins σ (upd H s.heap.objs.size (.tup [.ref a,v])) { s with heap:=h2 }:=by
   refine I.step (g':=s.gens) (d':=s.drawn) (ch:=[it]) (λb hb=>?_) (λb ob _ _ hch qb _=>?_) (λb ob _ _ hch qb _=>?_) (λb ob hch qb n=>?_) (λb ob hch qb=>?_) (λb ys qb=>?_) (λb ob u' qb=>?_) (λb ps' qb=>?_) (λm hm=>?_) (λb u' qb=>?_) I.bare
   ·have:b=it:=by simpa using hb
    subst this;exact⟨i3,i1,i4,i5⟩
   ·exact k2 b ob (λz=>hch (by simp[z])) qb
   ·exact⟨ob.slots,k2 b ob (λz=>hch (by simp[z])) qb⟩
   ·rw[jS (nT b ob qb)];exact n
   ·exact⟨ob,k2 b ob (λz=>hch (by simp[z])) qb⟩
   ·rw[jS (j6 qb fT)];exact qb
   ·rw[jS (j6 qb fT)];exact qb
   ·exact⟨#[],by rw[jS (j6 qb fT),qb];simp⟩
   ·obtain⟨ob,es',ep',hob,r⟩:=hm;exact⟨ob,es',ep',k2 _ ob (gr i1) hob,r⟩
   ·by_cases z:b=s.heap.objs.size
    ·subst z;rw[kB]at qb
     cases qb
     exact⟨by show 2<=sizeLine;decide,[es[i].key,es[i].val],.cons ek (.cons rv .nil),⟨_,hT2,rfl,rfl,0,rfl⟩⟩
    ·rw[jS z]at qb;refine(I.hok b u' qb).stay (λc y hc q'=>k2 c y ?_ q') (λc q'=>?_) λc ys q'=>?_
     ·rcases hc with z|z
      ·rw[z];exact ne_tr b u' qb
      ·exact ne_tr c _ z
     ·rw[jS (j6 q' fT)];exact q'
     ·rw[jS (j6 q' fT)];exact q'
  refine⟨.ref s.heap.objs.size,_,I2,rfl,⟨s.heap.objs.size,fT,rfl,λa' v' hy=>?_⟩,⟨_,_,he2⟩,λb hb=>?_⟩
  ·rw[hx]at hy
   cases hy
   rfl
  ·have:b=it:=by simpa using hb
   subst this;rw[jS (bE hil)];exact i0
 done:=by
  k_ne;subst hP hw hK;obtain⟨k0,v0,st⟩:=st;obtain⟨hi,hq⟩:=hg;have ho:s.heap.get? d=some o:=(show kR _ _ H s.heap d (.frz o u)from I.hok d _ hq).1;refine QK (I.ok.hd hc) st ho hd (by rw[<- hl];lia) λh' hx=>⟨rfl,?_⟩;obtain⟨i0,i1,i2,i3,i4,i5⟩:=hf it (by simp);exact I.turned (t':=s.toks) (λb ob hb qb=>hx b ob hb qb) i0 i1 i3 i4 i5
 self:=by
  intro A i s Q E st q;obtain⟨k0,v0,st⟩:=st;have ty:s.TypeIs (.ref it) "dict_itemiterator" := ⟨_,st,rfl⟩;exact gK ty gh (b7 gh ty NW (aJ ⟨_,rfl, "dict_itemiterator",_,ty,cu.lookup,q⟩) (PySem.F.args_dict_itemiterator_iter_1 _))
section
variable {X:Cx}
def Cz{A:aA}{E:af->aC->Prop}{s:aC}{Q:af->aC->Prop}(ty:s.TypeIs (.ref d) "dict")(hd:(d == sysModules)=false)
  (q:Q (.ref s.heap.objs.size) { s with heap:=s.heap.push { cls:=.type "dict_items",data:=.fields #[.ref d]}}):wpAny (model X.prog X.w) A (call (.builtin "dict.items") [.ref d]) Q E s:=by
 refine b7 PySem.F.slot_dict_items ty PySem.F.entry_dict_items ?_ (PySem.F.args_dict_items_1 _);delta Builtin.«dict.items»;refine aG ?_;delta Builtin.Dict.noArgs;refine aG (gY ty ?_)
 skip
 refine aJ ?_
 skip
 delta Builtin.Dict.showsAll;have nd:¬((d == sysModules)=true):=by rw[hd];exact aY
 rw[aM nd];exact aG (aJ (aG (bD (aJ ⟨_,rfl,q⟩))))
def Cc{A:aA}{E:af->aC->Prop}{s:aC}{v:ak}{o:Obj}{es:Array DictEntry}{Q:af->aC->Prop}(hv:s.heap.IsItemsView v d)(ho:s.heap.get? d=some o)(hd:o.data=.dict es ep)
  (q:Q (.ref s.heap.objs.size) { s with heap:=s.heap.push { cls:=.type "dict_itemiterator",data:=.fields #[.none,.bool false,.ref d,.int 0 0,.int es.size 0,.int ep 0,.none,.none]}}) :
  wpAny (model X.prog X.w) A (pyIter (.ref v)) Q E s:=by
 obtain⟨ov,hov,hcv,hdv⟩:=id hv;have own:Builtin.Dict_items.ownsTuple "dict_itemiterator" = true:=by decide
 refine gK hv.typeIs iJ (b7 iJ hv.typeIs PySem.F.entry_dict_items_iter ?_ (PySem.F.args_dict_items_iter_1 _));delta Builtin.«dict_items.__iter__»;refine aG (aJ (aG ?_));delta Builtin.Dict_items.dictOf;refine aG (eg hov hdv (x:=.ref d) rfl (aJ (aG ?_)));delta Builtin.Dict_items.newIterator;refine aG (dg ho hd (aG (dM ho hd ?_)));dsimp[own,c6];refine bD (aJ ⟨_,rfl, "dict_itemiterator",_,⟨_,bg _ rfl,rfl⟩,cu.lookup,?_⟩) (by dsimp[sizeOk,Builtin.Dict_items.ownedTupleFields,aT,aU,bF,fJ,c7];lia);simpa[rawInt,Builtin.Dict_items.ownedTupleFields]using q
end
section
variable {X:Cx}
theorem kt_at{H:Hp}:∀{kvs:List (List Key×V)}{xs:List (List Key×ak×af)},KT H kvs xs->kvs.length=xs.length/\∀(i:Nat) (p:List Key×V),kvs[i]?=some p->∃y:List Key×ak×af,xs[i]?=some y/\p.1=y.1/\H y.2.1=some (.tup (p.1.map kV))/\RelV p.2 y.2.2
 | [],[],_=>⟨rfl,λi p h=>by simp at h⟩
 | [],_::_,r=>nomatch r
 | _::_,[],r=>nomatch r
 | a::kvs,b::xs,.cons z r=>by
  obtain⟨l,q⟩:=kt_at r;refine⟨by simp[l],λi p h=>?_⟩
  cases i with
  | zero=>
   have:a=p:=by simpa using h
   subst this;exact⟨b,rfl,z⟩
  | succ i=>exact q i p (by simpa using h)
abbrev RN (to:TE):TI:=λσ H R=>to σ H λx H1=>∃d kvs,x=.ref d/\H1 d=some (.dT kvs)/\∀(o:Obj) (ps:List (ak×V)),ps.length=kvs.length->(∀(i:Nat) a v,ps[i]?=some (a,v)->∃ks:List Key,kvs[i]?=some (ks,v)/\H1 a=some (.tup (ks.map kV)))->R (Wm d o (.dT kvs) ps) (upd H1 d (.frz o (.dT kvs)))
def LS{apos cpos:Pos}{e:aE}{to:TE}(he:PE X e to)(hbase:attributeBase e "items" X.env (eval e X.env)=eval e X.env:=by rfl)(hline:(apos.endLine == cpos.line)=true:=by rfl) :
  PI X (.Tuple elts x1 tpos) (.Call (.Attribute e "items" apos) [] [] cpos) (RN to):=by
 intro pins s σ H R I h;refine gE hbase hline (kW (he pins s σ H _ I h) λv s1 ⟨x,H1,I1,r1,d,kvs,ex,ed,q1⟩=>?_);subst ex
 cases r1
 obtain⟨z,hd,xs,rel,dd⟩:=CC I1.hok ed;have ty:=dd.typeIs (s:=s1);obtain⟨ob,es,ep,g1,g2,g3,g4,g5,g6⟩:=id dd;obtain⟨kl,kt⟩:=kt_at rel;refine⟨"dict", "dict.items",PySem.F.plainAttrs_dict,PySem.F.slot_dict_items,PySem.F.type_dict_items,ty,λa ea=>?_,dF rfl (iQ (Cz ty hd ?_))⟩
 ·cases ea
  exact⟨ob,g1,g2.2.1⟩
 have g1':(s1.heap.push { cls:=.type "dict_items",data:=.fields #[.ref d]}).get? d=some ob:=aO _ g1;refine Cc (o:=ob) (es:=es) (ep:=ep) ⟨_,bg _ rfl,rfl,rfl⟩ g1' g3 ?_;have I2:Inv X pins σ H1 { s1 with heap:=(s1.heap.push { cls:=.type "dict_items",data:=.fields #[.ref d]}).push { cls:=.type "dict_itemiterator",data:=.fields #[.none,.bool false,.ref d,.int 0 0,.int es.size 0,.int ep 0,.none,.none]}}:=
  I1.kept (t':=s1.toks) λb o eb=>aO _ (aO _ eb)
 have hnd:∀b ys,H1 b=some (.tup ys)->upd H1 d (.frz ob (.dT kvs)) b=some (.tup ys):=λb ys eb=>by
  rw[jS (HF eb ed (λz=>nomatch z))];exact eb
 have I3:Inv X pins σ (upd H1 d (.frz ob (.dT kvs))) _:=wZ (t':=s1.toks) (ob:=.frz ob (.dT kvs)) I2 (by rw[ed];exact True.intro) ⟨rfl,λ_ _=>rfl⟩ ⟨ob,aO _ g1'⟩ ⟨aO _ g1',z,hd,xs,rel.keeps hnd,ob,es,ep,aO _ g1',g2,g3,g4,g6⟩;have hes:es.size=xs.length:=by have:=dO List.length g4;simpa using this
 obtain⟨ps,hps⟩:∃ps:List (ak×V),ps=(List.range kvs.length).map λi=>((xs.getD i ([],0,.none)).2.1,(kvs.getD i ([],.non)).2):=⟨_,rfl⟩;have pl:ps.length=kvs.length:=by rw[hps];simp
 have pat:∀(i:Nat) a v,ps[i]?=some (a,v)->∃(ks:List Key) (y:List Key×ak×af),kvs[i]?=some (ks,v)/\xs[i]?=some y/\y.2.1=a/\H1 a=some (.tup (ks.map kV))/\RelV v y.2.2:=λi a v e=>by
  have hi:i<kvs.length:=by rw[<- pl];exact(aK.mp e).1
  obtain⟨y,h1,h2,h3,h4⟩:=kt i kvs[i] (aH hi);rw[hps,aR,cj hi]at e;have e':((xs.getD i ([],0,.none)).2.1,(kvs.getD i ([],.non)).2)=(a,v):=aW e;rw[aI,aI,h1,aH hi]at e';have ea:y.2.1=a:=dO Prod.fst e';have ev:kvs[i].2=v:=dO Prod.snd e';exact⟨kvs[i].1,y,by rw[aH hi,<- ev],h1,ea,by rw[<- ea];exact h3,by rw[<- ev];exact h4⟩
 refine⟨(s1.heap.push { cls:=.type "dict_items",data:=.fields #[.ref d]}).objs.size,[(s1.heap.push { cls:=.type "dict_items",data:=.fields #[.ref d]}).objs.size],_,Wm d ob (.dT kvs) ps,_,rfl,I3,DB d _ g3 (by rw[pl,kl,hes]) (λi a v e hlt=>?_),⟨.none,.none,bg _ rfl⟩,λb hb=>?_,q1 ob ps pl λi a v e=>?_⟩
 ·obtain⟨ks,y,h1,h2,h3,h4,h5⟩:=pat i a v e;have:es.toList[i]?=some (entryOfKey (tupleKind (k_ X.prog X.w)) y):=by rw[g4,aR,h2];rfl
  have e2:es[i]=entryOfKey (tupleKind (k_ X.prog X.w)) y:=by
   rw[c5,cT hlt]at this;exact aW this
  rw[e2,<- h3];exact⟨rfl,h5⟩
 ·have eb:b=(s1.heap.push { cls:=.type "dict_items",data:=.fields #[.ref d]}).objs.size:=by simpa using hb
  have le:s1.heap.objs.size<=b:=by rw[eb,fq];exact Nat.le_succ _
  refine I1.Hv le ?_;have nd:b≠d:=λw=>absurd (aX g1) (by rw[<- w];exact Nat.not_lt.mpr le);rw[jS nd];exact I1.hok.fresh le
 ·obtain⟨ks,y,h1,_,_,h4,_⟩:=pat i a v e;exact⟨ks,h1,h4⟩
end
abbrev C0 (e:ak)(h:aq):Prop:=∃o vs,h.get? e=some o/\o.data=.fields vs/\vs[2]?=some .none/\o.dict=none
structure Fly (l:List Env)(g:aq)(pn:bj)(H:Hp)(e:ak)(cls:af)(h:aq):Prop where
 ex:∃(B:aq) (a0:af),Heap.FlyingW B l e cls a0 h/\(∀a u,H a=some u->∃o,B.get? a=some o)/\(∀b o,g.get? b=some o->b∉frs l->∃o',B.get? b=some o')/\(∀p∈pn,∃o',B.get? p.1=some o')/\C0 e h
structure Made (X:Cx)(H:Hp)(e:ak)(cls:af)(g:aq)(h:aq):Prop where
 ex:∃(g':aq) (vs:ap),Heap.MadeExcOf g' h e cls vs/\g'.FunFrames X.base X.stack/\(∀a u,H a=some u->∃o,g'.get? a=some o)/\(∀b o,g.get? b=some o->∃o',g'.get? b=some o')/\(∀p∈X.pn,∃o',g'.get? p.1=some o')
abbrev Sl (X:Cx)(H:Hp)(e:ak)(cls:af)(s':aC):Prop:=Made X H e cls X.s₀.heap s'.heap\/Fly X.stack X.s₀.heap X.pn H e cls s'.heap
section
abbrev EX (X:Cx):XK:=λcls _ H'=>X.ex=[]/\∀pins σ' s' e,Inv X pins σ' H' s'->Sl X H' e cls s'->X.xe (.ref e) s'
end
inductive FParts (X:Cx):List aE->List (Str ⊕ TE)->Prop
 | nil:FParts X [] []
 | txt {x:Str} {j pos} {es:List aE} {ps:List (Str ⊕ TE)} (h:FParts X es ps):FParts X (.Constant (.str x) j pos::es) (.inl x::ps)
 | val {e:aE} {pos:Pos} {t:TE} {es:List aE} {ps:List (Str ⊕ TE)} (he:PE X e t) (h:FParts X es ps):FParts X (.FormattedValue e (-1) none pos::es) (.inr t::ps)
abbrev xu:HO:=.ext λ_=>True
structure XO (C:ak)(o:Obj):Prop where
 cls:o.cls=.ref C
 dict:o.dict=none
 ctx:∃vs,o.data=.fields vs/\vs[2]?=some .none
structure Fr0 (X:Cx)(e:ak):Prop where
 no:∀o,X.s₀.heap.get? e≠some o
 tup:∀xs,X.H₀ e≠some (.tup xs)
 frz:∀o u,X.H₀ e≠some (.frz o u)
 tbl:∀ps,X.H₀ e≠some (.tbl ps)
abbrev mroIn (K:au)(C:ak):Option (ap):=match K.lookup C with
 | some ⟨.type "type",_,.cls cd,sl⟩=>(match cd.mro,sl.toList with
  | .ref C'::bm,[_,_,_,_,some (.builtin _),_]=>if C'=C/\cd.hasDel=false then some bm else none
  | _,_=>none)
 | _=>none
structure ClsAt (h:aq)(C:ak)(bm:ap):Prop where
 ex:∃nm q N bs hdct sn sub ab col dd k0 k1 k2 k3 k5 newId,h.get? C=some (excClassObj nm q C N bs bm hdct sn sub ab col dd k0 k1 k2 k3 k5 newId)
open PySem.W in
structure XCls (K:au)(C:ak):Prop where
 ga:findIn K (.ref C) "__getattribute__" = some (some (.builtin "BaseException.__getattribute__"))
 gt:findIn K (.ref C) "__getattr__" = some none
 fc:findObj K C none "__class__" = some (.bind (.builtin "getset_descriptor.__get__") (.builtin "object.__class__"))
 ob:PySem.W.mroIn K C (.type "object")=some true
 bs:subIn K (.ref C) (.type "BaseException")=some true
abbrev QM (A:aA):aA:={ A with handled:=none }
abbrev UO (k:Nat)(A:aA):Prop:=Room k (QM A)
structure Hnd (A:aA)(H:Hp)(e:ak)(oe:Obj)(C:ak):Prop where
 hh:A.handled=some (.ref e)
 h0:H e=some (.frz oe xu)
 xo:XO C oe
structure FnOkH (P:aj)(w:ah)(K:au)(mg:Str->ba)(base:aq)(k:Nat)(f:ak)(fd:FuncData)(ps:am)(sp:Sp):Prop where
 len:∀vs H Q E,sp vs H Q E->vs.length=ps.length
 run:∀(A:aA) (outer:List Env) (s:aC) (H:Hp) (args:Args) (us:ap) (vs:List V) (Q:VK) (e:ak) (oe:Obj) (C:ak),UO k A->Hnd A H e oe C->Env0 P w K mg base A outer s H->BindsTo s fd args (ps.zip us)->Vals vs us->sp vs H Q E0 ->
  codeAny (model P w) A (.call (.ref f) args) (CR qy outer P w H s Q E0) s
end L2
namespace L2
open PySem PySem.Spec PyProof.Rows PySem.SeqAt
def yd{prog:aj}{w:ah}{A:aA}{E:af->aC->Prop}{β:Type}{f:Nat->β->Sem (ForInStep β)}(I:Nat->β->aC->Prop)(Q:β->aC->Prop)
  (turn:∀i c s,i<b->I i c s->wpAny (model prog w) A (f i c) (λr s'=>match r with | .done c'=>Q c' s' | .yield c'=>I (i+1) c' s') E s)
  (fin:∀c s,I b c s->Q c s) {c:β} {s:aC} (h:I 0 c s):wpAny (model prog w) A (forIn [0:b] c f) Q E s:=by
 rw[Std.Legacy.Range.forIn_eq_forIn_range'];dsimp[Std.Legacy.Range.size,jo,iZ,Nat.div_one];refine wpAny_forIn_list f (λl c s=>∃i,i<=b/\l=List.range' i (b-i) 1/\I i c s) Q ?_ ?_ _ _ ⟨0,cZ _,rfl,h⟩
 ·rintro x rest c s ⟨i,hib,hl,hI⟩;have hlt:i<b:=by
   rcases iU i b with h'|h'
   ·exact h'
   ·rw[show b-i=0 by lia]at hl;simp at hl
  obtain⟨n,hn⟩:∃n,b-i=n+1:=⟨b-i-1,()⟩;rw[hn,eB]at hl;obtain⟨rfl,rfl⟩:=List.cons.inj hl;refine fu (turn x c s hlt hI) (λr s' h'=>?_) λ_ _ q=>q
  cases r with
  | done c'=>exact h'
  | yield c'=>exact⟨x+1,hlt,by congr 1;lia,h'⟩
 ·rintro c s ⟨i,hib,hl,hI⟩;have:b-i=0:=by
   rcases Nat.eq_zero_or_pos (b-i)with z|z
   ·exact z
   ·obtain⟨n,hn⟩:∃n,b-i=n+1:=⟨b-i-1,()⟩;rw[hn,eB]at hl;cases hl
  have:i=b:=()
  subst this;exact fin c s hI
def yQ(l:ak)(items:Array af)(n:Nat)(dd:Option ak)(sl:Array (ba))(x:af)(e:af->Bool)(j:Nat)(hj:j<items.size)(hit:e items[j]=true)(hno:∀m (hm:m<items.size),m<j->e items[m]=false) :
  Meets (Builtin.«tuple.index» ⟨[.ref l,x],[]⟩)
   (λA R s=>s.heap.get? l=some { cls:=.type "tuple",dict:=dd,data:=.seq items n,slots:=sl }/\(∀y,y∈items->EqAt A.in1 s y x (e y))/\R (.ok (.ret (.int j s.toks))) { s with toks:=s.toks+1 }):=
 .of_wp λprog w A R s h=>by
  obtain⟨hp,g,d,tk,os⟩:=s;obtain⟨hl,he,h⟩:=h
  wp_walk using wpAny_loadPart' hl,yd (λi b s'=>b.1=none/\s'=⟨hp,g,d,tk,os⟩/\i<=j) _
  case turn=>
   rintro i b s' hi ⟨hb,rfl,hij⟩;have hi':i<items.size:=()
   rw[cT hi'];refine aG (he _ (Array.getElem_mem hi') prog w _ _ ?_)
   rcases iU i j with q|q
   ·rw[hno i hi' q]
    wp_walk
    exact⟨rfl,rfl,q⟩
   ·have:i=j:=()
    subst this;rw[hit]
    wp_walk
    exact⟨_,rfl,h⟩
  case fin=>
   rintro⟨b1,b2⟩ s' ⟨hb,rfl,hij⟩
   lia
  case h=>exact⟨rfl,rfl,cZ _⟩
abbrev Qo (K:au)(tup:Bool):V->List V->Hp->VK->Prop:=λx vs H Q=>∃(p:ak) (y:V) (xs:List V) (k:Nat) (z:V),x=.ref p/\vs=[y]/\(if tup=true then ni K H p xs else nH K H p xs)/\qL y=true/\xs.all qL=true/\xs[k]?=some z/\C5 z y=true/\(∀(m:Nat) (z':V),m<k->xs[m]?=some z'->C5 z' y=false)/\Q (.int k) H
section
variable {X:Cx}
def LP{xs:List V}{its:ap}{k:Nat}(r:Vals xs its)(f:xs.all qL=true)(hk:xs[k]?=some z)(hz:C5 z y=true)(hno:∀m z',m<k->xs[m]?=some z'->C5 z' y=false) :
  ∃hj:k<its.toArray.size,SY y its.toArray[k]=true/\∀m (hm:m<its.toArray.size),m<k->SY y its.toArray[m]=false:=by
 have fl:∀m z',xs[m]?=some z'->qL z'=true:=λm z' h=>ir.mp f z' (aZ h);obtain⟨u,hu,ru⟩:=r.get hk;obtain⟨hj,e⟩:=aK.mp hu;refine⟨by simpa using hj,?_,λm hm hmk=>?_⟩
 ·rw[List.getElem_toArray,e,CK ru (fl k z hk)];exact hz
 ·have hm':m<xs.length:=by have:=(aK.mp hk).1;lia
  obtain⟨u',hu',ru'⟩:=r.get (aH hm');obtain⟨_,e'⟩:=aK.mp hu';rw[List.getElem_toArray,e',CK ru' (fl m _ (aH hm'))];exact hno m _ hmk (aH hm')
def Nk:Jf X "tuple.index" (Qo X.K true):=by
 intro pins s σ H x vs v us Q I rx rv ⟨p,y,xs,k,z,hx,hvs,hq,fy,fs,hk,hz,hno,q⟩;subst hx hvs
 cases rx
 obtain⟨u,rfl,ru⟩:=rv.one;obtain⟨its,r,pl,hsz⟩:=I.tuple hq;obtain⟨hj,h1,h2⟩:=LP r fs hk hz hno;obtain⟨⟨cls,dd,data,sl⟩,ho,hc,n,hd⟩:=id pl;simp only at hc hd;subst hc hd;exact fQ F.slot_tuple_index ⟨_,ho,rfl⟩ F.entry_tuple_index (F.args_tuple_index_2 _ _) (yQ p its.toArray n dd sl u (SY y) k hj h1 h2) ⟨ho,λw hw=>yo ru fy r fs w (by simpa using hw),.int k,H,I.tok _,⟨_,rfl⟩,q⟩
def N3:Jf X "list.index" (Qo X.K false):=by
 intro pins s σ H x vs v us Q I rx rv ⟨p,y,xs,k,z,hx,hvs,hq,fy,fs,hk,hz,hno,q⟩;subst hx hvs
 cases rx
 obtain⟨u,rfl,ru⟩:=rv.one;obtain⟨its,r,pl,hsz⟩:=I.list hq;obtain⟨hj,h1,h2⟩:=LP r fs hk hz hno;obtain⟨⟨cls,dd,data,sl⟩,ho,hc,n,hd⟩:=id pl.isList;simp only at hc hd;subst hc hd;have:=r6;have hz':k<xs.length:=(aK.mp hk).1;exact fQ F.slot_list_index ⟨_,ho,rfl⟩ F.entry_list_index (F.args_list_index_2 _ _) (SeqAt.list_indexAt p its.toArray n dd sl u (SY y) k hj () h1 h2) ⟨ho,λw hw=>yo ru fy r fs w (by simpa using hw),.int k,H,I.tok _,⟨_,rfl⟩,q⟩
abbrev V3 (K:au)(to:TE)(t:TA):TE:=λσ H Q=>to σ H λx H1=>∃(b:Bool) (p:ak) (xs:List V),x=.ref p/\(if b=true then ni K H1 p xs else nH K H1 p xs)/\t σ H1 λvs H2=>Qo K b x vs H2 Q
def Rm{e:aE}{to:TE}{t:TA}{apos cpos:Pos}(ho:PE X o to)(ha:PA X (e::es) t)
  (hbase:attributeBase o "index" X.env (eval o X.env)=eval o X.env:=by rfl)
  (hfew:((backTo cpos (starEach (e::es) X.env)).all (λx=>!x.1) && (backToKw cpos (keywordEach [] X.env)).all (λx=>x.1.isSome)
   && decide ((e::es).length+([]:List Keyword).length+(if ([]:List Keyword).isEmpty then 0 else 1)<30))=true:=by rfl)
  (hline:(apos.endLine == cpos.line)=true:=by rfl) (hs:starEach (e::es) X.env=(false,eval e X.env)::starEach es X.env:=by rfl) (hplain:(backTo cpos (starEach es X.env)).any (·.1)=false:=by rfl) :
  PE X (.Call (.Attribute o "index" apos) (e::es) [] cpos) (V3 X.K to t):=by
 x_go;refine wpAny_Call_method_late hbase hfew hline rfl (kW (ho pins s σ H _ I h) λv s1 ⟨x,H1,I1,r1,b,p,xs,hx,hq,q1⟩=>?_);subst hx
 cases r1
 cases b with
 | true=>
  obtain⟨ob,g1,g2,g3⟩:=I1.Qg hq;refine⟨"tuple", "tuple.index",PySem.F.plainAttrs_tuple,PySem.F.slot_tuple_index,PySem.F.type_tuple_index,⟨ob,g1,g2⟩,λa e=>by cases e;exact⟨ob,g1,g3⟩,?_⟩;have hA:=ha cpos pins s1 σ H1 _ I1 q1;rw[hs]at hA ⊢;refine dF (by show(false || (backTo cpos (starEach es X.env)).any (·.1))=false;rw[hplain]<;>rfl) (iD ?_);exact kW hA λus s2 ⟨vs,H2,I2,r2,q2⟩=>Nk pins s2 σ H2 (.ref p) vs _ us Q I2 rfl r2 q2
 | false=>
  obtain⟨its,r,⟨ob,n,g1,g2,g3,g4⟩,hz⟩:=I1.list hq;refine⟨"list", "list.index",gF,PySem.F.slot_list_index,PySem.F.type_list_index,⟨ob,g1,g2⟩,λa e=>by cases e;exact⟨ob,g1,g3⟩,?_⟩;have hA:=ha cpos pins s1 σ H1 _ I1 q1;rw[hs]at hA ⊢;refine dF (by show(false || (backTo cpos (starEach es X.env)).any (·.1))=false;rw[hplain]<;>rfl) (iD ?_);exact kW hA λus s2 ⟨vs,H2,I2,r2,q2⟩=>N3 pins s2 σ H2 (.ref p) vs _ us Q I2 rfl r2 q2
end
end L2
namespace L2
open PySem PySem.Spec PyProof.Rows
def HR{X:Cx}{i:Nat}{spos:Pos}{iter:aE}{N:am}{wi:TI}{g:TG}{tc:TT}{te:TE}
  (hN:X.N.Nodup) (hi':X.N[i]?=some y) (hx:Loc X.env.scope y) (hc:X.calm=true) (S:CpScope X scope N cap) (hi:PI X tg iter wi)
  (hg:∀C s₀ H₀ ex,PG (kQ X scope N C s₀ H₀ ex) tg g) (ht:∀C s₀ H₀ ex,MB (kQ X scope N C s₀ H₀ ex) ifs tc) (he:∀C s₀ H₀ ex,PE (kQ X scope N C s₀ H₀ ex) elt te)
  (hsw:swapsWith (.ListComp elt [⟨tg,iter,ifs,0⟩] scope pos) (some (.Name y py)) spos.line X.env=pure true)
  (hf:X.fn y=true\/X.env.scope.names.lookup y=some .local) (hs:∀x,foldedSetIterable iter X.env x=pure x:=by intro _;rfl) :
  PS X (.Assign [.Name y py] (.ListComp elt [⟨tg,iter,ifs,0⟩] scope pos) spos) (ME (UM cap wi g tc te) (KS i)):=by
 ksr_p;rw[exec_Assign_Name_used _ _ _ _ hsw];refine aG (eT (aG ?_))
 skip
 refine aG (fu (F9 (ok:=λY=>Y.calm=true) (Q':=λ_ s'=>SP X pins D .next s') S (λ_ _ _ _ _=>hc) (PI.g hi) hg ht he hs pins s σ H _ I h ?_) (λ_ s' hq=>aJ (aJ hq)) λ_ _ e=>e);intro s6 C Dd H5 m hn fk inv q v;have Ia:=inv s6.heap (Heap.SameBut.refl _ _);obtain⟨oC,hoC⟩:∃o,s6.heap.get? C=some o/\∀v,o.data≠.cell v:=by
  obtain⟨o,es,ep,e,d,_⟩:=hn;exact⟨o,e,λv z=>by rw[d]at z;cases z⟩
 have Ip:=Ia.pinned (fp:=[C]) (λb hb=>by rw[br]at hb;rw[hb];exact fk) (λb hb=>by rw[br]at hb;rw[hb];exact⟨oC,hoC⟩)
 skip
 refine kW (Gf hN hi' hx hf _ s6 σ H5 (.ref Dd) (.ref Dd) _ Ip rfl q) λ_ s7 h9=>?_;obtain⟨σ7,H7,I7,q7⟩:=h9;have hp:=I7.pin (C,oC) (a_ _ (a_ _ (lG (br.mpr rfl) hoC.1)));refine⟨m,hn.at' λo e=>by rw[hoC.1]at e;cases e;exact hp.1,λh' sb=>?_⟩;have nC:∀c v,H7 c=some v->c≠C:=λc v e z=>by rw[z,hp.2.1]at e;cases e
 refine⟨σ7,H7,?_,q7⟩;refine I7.oR.JN (ch:=[C]) rfl ⟨λb o e n hb hx=>?_,λb o e n hb hx=>?_,λb o e n hx=>n,λb o e hx=>?_,λ_ _ e=>e,λ_ _ _ e=>e,λ_ _ e=>⟨#[],by rw[Array.append_empty];exact e⟩⟩ ?_ I7.bare ?_
 ·exact sb.extBut b o (by simpa using hx) e
 ·exact⟨o.slots,sb.extBut b o (by simpa using hx) e⟩
 ·exact⟨o,sb.extBut b o (by simpa using hx) e⟩
 ·intro b o e;refine(I7.hok b o e).stay (λc v hc q=>sb.extBut c v ?_ q) (λ_ q=>q) λ_ _ q=>q
  rcases hc with z|z
  ·rw[z];exact nC b o e
  ·exact nC c _ z
 ·intro b hb;rw[br]at hb;rw[hb];exact⟨fk.2.2.2.1,fk.2.1,fk.2.2.2.2.1,fk.2.2.2.2.2⟩
end L2
namespace Sx
open PySem PyProof.Rows
structure Ord where
 lt:Nat->Nat->Bool
 MT:∀i,lt i i=false
 tr:∀i j k,lt i j=true->lt j k=true->lt i k=true
 neg:∀i j k,lt i k=true->lt i j=true\/lt j k=true
abbrev P (o:Ord)(i j:Nat):Prop:=o.lt i j=true\/(o.lt j i=false/\i<j)
def Ord.Vv(o:Ord)(h:o.lt i j=true):o.lt j i=false:=by
 cases e:o.lt j i with
 | false=>rfl
 | true=>have:=o.tr _ _ _ h e;rw[o.MT]at this;cases this
def P.MT(h:P o i i):False:=by
 rcases h with h|⟨_,h⟩
 ·rw[o.MT]at h;cases h
 ·lia
def P.trans{k:Nat}(a:P o i j)(b:P o j k):P o i k:=by
 rcases a with a|⟨a,a'⟩
 ·rcases b with b|⟨b,b'⟩
  ·exact .inl (o.tr _ _ _ a b)
  ·rcases o.neg i k j a with z|z
   ·exact .inl z
   ·rw[b]at z;cases z
 ·rcases b with b|⟨b,b'⟩
  ·rcases o.neg j i k b with z|z
   ·rw[a]at z;cases z
   ·exact .inl z
  ·refine .inr ⟨?_,()⟩
   cases e:o.lt k i with
   | false=>rfl
   | true=>
    rcases o.neg k j i e with z|z
    ·rw[b]at z;cases z
    ·rw[a]at z;cases z
def P.of_lt{o:Ord}(h:o.lt i j=true):P o i j:=.inl h
def P.wo{o:Ord}(h:o.lt j i=false)(hij:i<j):P o i j:=.inr ⟨h,hij⟩
def P.lt{o:Ord}(h:P o i j)(hij:j<i):o.lt i j=true:=by
 rcases h with h|⟨_,h⟩
 ·exact h
 ·lia
def P.ge{o:Ord}(h:P o i j):o.lt j i=false:=by
 rcases h with h|⟨h,_⟩
 ·exact o.Vv h
 ·exact h
abbrev So (o:Ord)(g:Nat->Nat)(a b:Nat):Prop:=∀i j,a<=i->i<j->j<b->P o (g i) (g j)
abbrev Cl (g:Nat->Nat)(a b:Nat):Prop:=∀i,a<=i->i<b->a<=g i/\g i<b
abbrev rev (g:Nat->Nat)(i j:Nat):Nat->Nat:=λk=>if i<=k/\k<j then g (i+j-1-k)else g k
abbrev mv (g:Nat->Nat)(src dst:Nat):Nat->Nat:=λk=>if k=dst then g src else if dst<k/\k<=src then g (k-1)else g k
def yr{g:Nat->Nat}{k:Nat}(h:i<=k)(h2:k<j):rev g i j k=g (i+j-1-k):=aN ⟨h,h2⟩
def oF{g:Nat->Nat}{k:Nat}(h:k<i\/j<=k):rev g i j k=g k:=aM ()
def Iz{g:Nat->Nat}:mv g s d d=g s:=aN rfl
def Ce{g:Nat->Nat}{k:Nat}(h:d<k)(h2:k<=s):mv g s d k=g (k-1):=by
 unfold mv;rw[aM (),aN ⟨h,h2⟩]
def AU{g:Nat->Nat}{k:Nat}(hd:d<=s)(h:k<d\/s<k):mv g s d k=g k:=by
 unfold mv;rw[aM (),aM ()]
section
variable {prog:aj}{w:ah}{A:aA}{E:af->aC->Prop}{s:aC}{o:Ord}{N:Nat}{f:Nat->Keyed}{kd:SortKind}{g:Nat->Nat}{p:Array (Nat×Nat×Nat)}{st:SortSt}
abbrev zl (prog:aj)(w:ah)(A:aA)(s:aC)(o:Ord)(N:Nat)(f:Nat->Keyed)(kd:SortKind):Prop:=
 ∀i j,i<N->j<N->∀(E':af->aC->Prop) (Q:Bool->aC->Prop),Q (o.lt i j) s->wpAny (model prog w) A (keyLt' kd (f i).1 (f j).1) Q E' s
structure Sg (N:Nat)(f:Nat->Keyed)(kd:SortKind)(g:Nat->Nat)(p:Array (Nat×Nat×Nat))(st:SortSt):Prop where
 size:(arrOf st).size=N
 get:∀i,i<N->(arrOf st)[i]?=some (f (g i))
 lt:∀i,i<N->g i<N
 kind:kindOf st=kd
 failed:failedOf st=none
 pend:pendingOf st=p
def yv(C:zl prog w A s o N f kd)(hk:kindOf st=kd)(hi:i<N)(hj:j<N){Q:bd->SortSt->Prop}(q:Q (some (o.lt i j)) st):wpS (model prog w) A E s (lt' (f i) (f j)) Q st:=by
 rw[lt'_eq];refine aV (gM ?_);rw[hk];refine aV (wpS_lift (fL (C i j hi hj _ _ ⟨rfl,?_⟩)));exact bf q
def kg{xs:Array Keyed}{i:Nat}{x:Keyed}(e:xs[i]?=some x){Q:Keyed->SortSt->Prop}(q:Q x st):wpS (model prog w) A E s (elem' xs i) Q st:=by
 rw[elem'_eq,e];exact bf q
def uO(C:zl prog w A s o N f kd)(h:Sg N f kd g p st)(hi:i<N)(hj:j<N){Q:bd->SortSt->Prop}(q:Q (some (o.lt (g i) (g j))) st):wpS (model prog w) A E s (ltAt' i j) Q st:=by
 rw[ltAt'_eq];refine aV (gM ?_)
 skip
 exact aV (kg (h.get i hi) (aV (kg (h.get j hj) (yv C h.kind (h.lt i hi) (h.lt j hj) q))))
def Sg.arr(h:Sg N f kd g p st){xs:Array Keyed}{g':Nat->Nat}(hs:xs.size=N)(hg:∀i,i<N->xs[i]?=some (f (g' i)))(hl:∀i,i<N->g' i<N):Sg N f kd g' p (setArr st xs):=⟨hs,hg,hl,h.kind,h.failed,h.pend⟩
def wH(h:Sg N f kd g p st)(hj:j<=N){Q:Unit->SortSt->Prop}(q:∀st',Sg N f kd (rev g i j) p st'->Q Unit.unit st'):wpS (model prog w) A E s (reverseSlice' i j) Q st:=by
 rw[reverseSlice'_eq];refine fF (q _ (h.arr (by rw[mirror_size];exact h.size) (λk hk=>?_) λk hk=>?_))
 ·rw[getElem?_mirror_all (by rw[h.size];exact hj)];unfold rev;by_cases c:i<=k/\k<j
  ·rw[aN c,aN c];exact h.get _ (by omega)
  ·rw[aM c,aM c];exact h.get _ hk
 ·unfold rev;by_cases c:i<=k/\k<j
  ·rw[aN c];exact h.lt _ (by omega)
  ·rw[aM c];exact h.lt _ hk
def Qc(h:Sg N f kd g p st){a:Nat}(ha:a<N)(hb:b<=a){Q:Unit->SortSt->Prop}(q:∀st',Sg N f kd (mv g a b) p st'->Q Unit.unit st'):wpS (model prog w) A E s (moveDown' a b) Q st:=by
 rw[moveDown'_eq];refine fF (q _ (h.arr (by rw[bubble_size];exact h.size) (λk hk=>?_) λk hk=>?_))
 ·rw[getElem?_bubble (by rw[h.size];exact ha) _ (),show a-(a-b)=b by lia];unfold mv;by_cases c:k=b
  ·rw[aN c,aN c];exact h.get _ ha
  ·rw[aM c,aM c];by_cases c2:b<k/\k<=a
   ·rw[aN c2,aN c2];exact h.get _ ()
   ·rw[aM c2,aM c2];exact h.get _ hk
 ·unfold mv;by_cases c:k=b
  ·rw[aN c];exact h.lt _ ha
  ·rw[aM c];by_cases c2:b<k/\k<=a
   ·rw[aN c2];exact h.lt _ ()
   ·rw[aM c2];exact h.lt _ hk
structure Rn (o:Ord)(g0 g:Nat->Nat)(a b:Nat):Prop where
 out:∀i,i<a\/b<=i->g i=g0 i
 cl:Cl g a b
 so:So o g a b
def Q4{g0:Nat->Nat}{lo k:Nat}(R:Rn o g0 g lo (lo+k))(hk:g (lo+k)=lo+k)(hl:l<=k)(h1:∀i,i<l->P o (g (lo+i)) (lo+k))(h2:∀i,l<=i->i<k->P o (lo+k) (g (lo+i))):Rn o g0 (mv g (lo+k) (lo+l)) lo (lo+(k+1)) where
 out i hi:=by rw[AU () ()];exact R.out i ()
 cl i a b:=by
  by_cases c:i=lo+l
  ·subst c;rw[Iz,hk];lia
  ·by_cases c2:lo+l<i
   ·rw[Ce c2 ()];have:=R.cl (i-1) () ()
    lia
   ·rw[AU () ()];have:=R.cl i () ()
    lia
 so i j a b d:=by
  by_cases c:i=lo+l
  ·subst c;rw[Iz,Ce b (),hk];have:=h2 (j-1-lo) () ()
   rwa [show lo+(j-1-lo)=j-1 by lia]at this
  ·by_cases c2:lo+l<i
   ·rw[Ce c2 (),Ce () ()];exact R.so _ _ () () ()
   ·rw[AU (k:=i) () ()];by_cases c3:j=lo+l
    ·subst c3;rw[Iz,hk];have:=h1 (i-lo) ()
     rwa [show lo+(i-lo)=i by lia]at this
    ·by_cases c4:lo+l<j
     ·rw[Ce c4 ()];exact R.so _ _ () () ()
     ·rw[AU () ()];exact R.so _ _ () () ()
def RQ(C:zl prog w A s o N f kd){g0:Nat->Nat}{lo n ok:Nat}(h:Sg N f kd g p st)(hn:lo+n<=N)(h1:1<=ok)(hok:ok<=n)(R:Rn o g0 g lo (lo+ok))(hid:∀i,lo+ok<=i->i<lo+n->g0 i=i)
  {Q:Bool->SortSt->Prop} (q:∀g' st',Sg N f kd g' p st'->Rn o g0 g' lo (lo+n)->Q true st'):wpS (model prog w) A E s (binarySort' lo n ok) Q st:=by
 rw[binarySort'_eq,show max ok 1=ok by lia];refine aV (d9 (cJ (I:=λk c st'=>c=(none,Unit.unit)/\∃g',Sg N f kd g' p st'/\Rn o g0 g' lo (lo+min k n))
  (Q:=λc st'=>c=(none,Unit.unit)/\∃g',Sg N f kd g' p st'/\Rn o g0 g' lo (lo+n)) ?step ?fin ?init) ?post)
 case post=>
  rintro c st' ⟨rfl,g',h',R'⟩;exact bf (q g' st' h' R')
 case init=>exact⟨rfl,g,h,by rw[show min ok n=ok by lia];exact R⟩
 case fin=>
  rintro c st' ⟨hc,g',h',R'⟩;exact⟨hc,g',h',by rwa [show min (max ok n) n=n by lia]at R'⟩
 case step=>
  rintro k c st' hak hkn ⟨rfl,g',h',R'⟩;rw[show min k n=k by lia]at R';have gk:g' (lo+k)=lo+k:=by rw[R'.out _ ()];exact hid _ () ()
  refine aV (d9 (cJ (I:=λx c s2=>s2=st'/\∃u v,c=(none,u,v)/\u<=v/\v<=k/\v-u<=k-x /\
    (∀i,i<u->P o (g' (lo+i)) (lo+k))/\(∀i,v<=i->i<k->P o (lo+k) (g' (lo+i))))
   (Q:=λc s2=>s2=st'/\∃u v,c=(none,u,v)/\u<=k /\
    (∀i,i<u->P o (g' (lo+i)) (lo+k))/\(∀i,u<=i->i<k->P o (lo+k) (g' (lo+i)))) ?istep ?ifin ?iinit) ?ipost)
  case iinit=>exact⟨rfl,0,k,rfl,(),(),(),λi hi=>(),λi h1 h2=>()⟩
  case ifin=>
   rintro c s2 ⟨rfl,u,v,rfl,huv,hvk,hm,low,top⟩;have:u=v:=()
   subst this;exact⟨rfl,u,u,rfl,hvk,low,top⟩
  case istep=>
   rintro x c s2 _ hxk ⟨rfl,u,v,rfl,huv,hvk,hm,low,top⟩;dsimp only;by_cases hge:u>=v
   ·rw[aN hge];have:u=v:=()
    subst this;exact bf ⟨rfl,u,u,rfl,hvk,low,top⟩
   ·rw[aM hge];have hmk:(u+v) / 2<k:=()
    have gm:=R'.cl (lo+(u+v) / 2) () ();refine aV (uO C h' () () ?_);rw[gk]
    cases hless:o.lt (lo+k) (g' (lo+(u+v) / 2))
    case true=>
     dsimp[c6];refine bf ⟨rfl,u,(u+v) / 2,rfl,(),(),(),low,λi h1 h2=>?_⟩;by_cases c:i=(u+v) / 2
     ·subst c;exact .inl hless
     ·exact(P.of_lt hless).trans (R'.so _ _ () () ())
    case false=>
     dsimp[bw,b8];refine bf ⟨rfl,(u+v) / 2+1,v,rfl,(),(),(),λi h1=>?_,top⟩;have last:=P.wo hless gm.2;by_cases c:i=(u+v) / 2
     ·subst c;exact last
     ·exact(R'.so _ _ () () ()).trans last
  case ipost=>
   rintro c s2 ⟨rfl,u,v,rfl,huk,low,top⟩;dsimp only;refine aV (Qc h' () () λst3 h3=>?_);refine bf ⟨rfl,_,h3,?_⟩;rw[show min (k+1) n=k+1 by lia];exact Q4 R' gk huk low top
end
meta abbrev As:=Option (bi)×Nat
meta abbrev Ds:=Option (bi)×Nat×Nat
abbrev Jc (lo a nrem:Nat):StateT SortSt Sem As:=
 forIn [a:nrem] ((none,a):As) λ_ c=>do
  let x <- ltAt' (lo+c.2) (lo+c.2-1)
  match x with
  | some b=>if b=true then pure (ForInStep.done (none,c.2))else pure (ForInStep.yield (none,c.2+1))
  | _=>pure (ForInStep.done (some none,c.2))
abbrev Cy (lo n nrem:Nat):StateT SortSt Sem (bi):=do
 reverseSlice' lo (lo+n)
 let c <- Jc lo n nrem
 match c.1 with
 | some r=>pure r
 | none=>pure (some c.2)
abbrev NJ (lo n nrem:Nat):StateT SortSt Sem Ds:=
 forIn [n:nrem] ((none,n,0):Ds) λ_ c=>do
  let x <- ltAt' (lo+c.2.1) (lo+c.2.1-1)
  match x with
  | some b=>
   if b=true then
    if c.2.2>0 then do
     reverseSlice' (lo+c.2.1-(c.2.2+1)) (lo+c.2.1)
     pure (ForInStep.yield (none,c.2.1+1,0))
    else pure (ForInStep.yield (none,c.2.1+1,0))
   else do
    let x <- ltAt' (lo+c.2.1-1) (lo+c.2.1)
    match x with
    | some b=>
     if b=true then pure (ForInStep.done (none,c.2.1,c.2.2))
     else pure (ForInStep.yield (none,c.2.1+1,c.2.2+1))
    | _=>pure (ForInStep.done (some none,c.2.1,c.2.2))
  | _=>pure (ForInStep.done (some none,c.2.1,c.2.2))
abbrev KO (lo n nrem:Nat):StateT SortSt Sem (bi):=do
 liftM (rule "list.sort.descending-run")
 let c <- NJ lo (n+1) nrem
 match c.1 with
 | some r=>pure r
 | none=>
  if c.2.2>0 then do
   reverseSlice' (lo+c.2.1-(c.2.2+1)) (lo+c.2.1)
   Cy lo c.2.1 nrem
  else Cy lo c.2.1 nrem
def count_eq(lo nrem:Nat):countRun' lo nrem=(do
  let c <- Jc lo 1 nrem
  match c.1 with
  | some r=>pure r
  | none=>
   if (c.2 == nrem)=true then pure (some c.2)
   else if c.2>1 then do
    let x <- ltAt' lo (lo+c.2-1)
    match x with
    | some b=>if b=true then pure (some c.2)else do
      reverseSlice' lo (lo+c.2)
      KO lo c.2 nrem
    | _=>pure none
   else KO lo c.2 nrem):=by
 rw[countRun'_eq];dsimp only;unfold KO Cy NJ Jc;congr 1
 funext c
 obtain⟨r,n⟩:=c
 cases r with
 | some r=>rfl
 | none=>
  dsimp only;split
  ·rfl
  ·split
   ·congr 1
    funext x
    cases x with
    | none=>rfl
    | some b=>
     dsimp only;split
     ·rfl
     ·congr 1
      funext _r
      congr 1
      funext _u
      congr 1;congr 1
      funext s2
      obtain⟨r2,n2,q2⟩:=s2
      cases r2 with
      | some r2=>rfl
      | none=>
       dsimp only;split
       ·congr 1
        funext _v
        congr 1
        funext _w
        congr 1
        funext s3
        obtain⟨r3,n3⟩:=s3
        cases r3<;>rfl
       ·congr 1
        funext _w
        congr 1
        funext s3
        obtain⟨r3,n3⟩:=s3
        cases r3<;>rfl
   ·congr 1
    funext _u
    congr 1;congr 1
    funext s2
    obtain⟨r2,n2,q2⟩:=s2
    cases r2 with
    | some r2=>rfl
    | none=>
     dsimp only;split
     ·congr 1
      funext _v
      congr 1
      funext _w
      congr 1
      funext s3
      obtain⟨r3,n3⟩:=s3
      cases r3<;>rfl
     ·congr 1
      funext _w
      congr 1
      funext s3
      obtain⟨r3,n3⟩:=s3
      cases r3<;>rfl
section
variable {prog:aj}{w:ah}{A:aA}{E:af->aC->Prop}{s:aC}{o:Ord}{N:Nat}{f:Nat->Keyed}{kd:SortKind}{g g0:Nat->Nat}{p:Array (Nat×Nat×Nat)}{st:SortSt}
def Rn.snoc{a:Nat}(R:Rn o g0 g a b)(hab:a<b)(hb:g b=b)(h:o.lt b (g (b-1))=false):Rn o g0 g a (b+1) where
 out i hi:=R.out i ()
 cl i h1 h2:=by
  by_cases c:i=b
  ·subst c;lia
  ·have:=R.cl i h1 ();lia
 so i j h1 h2 h3:=by
  by_cases c:j=b
  ·subst c;rw[hb];have l:=R.cl (j-1) () ();have last:P o (g (j-1)) j:=P.wo h l.2;by_cases c2:i=j-1
   ·subst c2;exact last
   ·exact(R.so i (j-1) h1 () ()).trans last
  ·exact R.so i j h1 h2 ()
def Mn(C:zl prog w A s o N f kd){lo a:Nat}(h:Sg N f kd g p st)(hn:lo+nrem<=N)(h1:1<=a)(han:a<=nrem)(R:Rn o g0 g lo (lo+a))(hid:∀i,lo+a<=i->i<lo+nrem->g0 i=i)
  {Q:As->SortSt->Prop} (q:∀n,a<=n->n<=nrem->Rn o g0 g lo (lo+n)->(n=nrem\/o.lt (lo+n) (g (lo+n-1))=true)->Q (none,n) st):wpS (model prog w) A E s (Jc lo a nrem) Q st:=by
 unfold Jc;refine cJ (I:=λx c st'=>st'=st/\c=(none,x)/\Rn o g0 g lo (lo+x)) ?step ?fin ⟨rfl,rfl,R⟩
 case fin=>
  rintro c st' ⟨rfl,rfl,R'⟩;rw[show max a nrem=nrem by lia]at R' ⊢;exact q nrem han (aS _) R' (.inl rfl)
 case step=>
  rintro x c st' hax hxn ⟨rfl,rfl,R'⟩;dsimp only;have gx:g (lo+x)=lo+x:=by rw[R'.out _ ()];exact hid _ () ()
  refine aV (uO C h () () ?_);rw[gx]
  cases hl:o.lt (lo+x) (g (lo+x-1))
  case true=>
   dsimp[c6];exact bf (q x hax () R' (.inr hl))
  case false=>
   dsimp[bw,b8];exact bf ⟨rfl,rfl,R'.snoc () gx hl⟩
structure Dc (o:Ord)(g0 g:Nat->Nat)(a b q:Nat):Prop where
 out:∀i,i<a\/b<=i->g i=g0 i
 cl:Cl g a b
 few:a+(q+1)<=b
 dn:∀i j,a<=i->i<j->j<b->i<b-(q+1)->P o (g j) (g i)
 id:∀i,b-(q+1)<=i->i<b->g i=i
 al:∀i j,b-(q+1)<=i->i<b->b-(q+1)<=j->j<b->o.lt i j=false
def Dc.turn{a q:Nat}(D:Dc o g0 g a b q):(∀i,i<a\/b<=i->rev g (b-(q+1)) b i=g0 i)/\Cl (rev g (b-(q+1)) b) a b/\(∀i j,a<=i->i<j->j<b->P o (rev g (b-(q+1)) b j) (rev g (b-(q+1)) b i))/\(∀i,b-(q+1)<=i->i<b->∃k,rev g (b-(q+1)) b i=k/\b-(q+1)<=k/\k<b):=by
 have few:=D.few;have inn:∀i,b-(q+1)<=i->i<b->rev g (b-(q+1)) b i=b-(q+1)+b-1-i:=λi h1 h2=>by
  rw[yr h1 h2];exact D.id _ (by omega) (by omega)
 refine⟨λi hi=>?_,λi h1 h2=>?_,λi j h1 h2 h3=>?_,λi h1 h2=>⟨_,inn i h1 h2,by omega,by omega⟩⟩
 ·rw[oF (by omega)];exact D.out i hi
 ·by_cases c:i<b-(q+1)
  ·rw[oF (by omega)];exact D.cl i h1 h2
  ·rw[inn i (by omega) h2];omega
 ·by_cases c:i<b-(q+1)
  ·rw[oF (k:=i) (by omega)];by_cases c2:j<b-(q+1)
   ·rw[oF (by omega)];exact D.dn i j h1 h2 h3 c
   ·rw[inn j (by omega) h3];have:=D.dn i (b-(q+1)+b-1-j) h1 (by omega) (by omega) c
    rwa [D.id _ (by omega) (by omega)]at this
  ·rw[inn i (by omega) (by omega),inn j (by omega) h3];exact P.wo (D.al _ _ (by omega) (by omega) (by omega) (by omega)) (by omega)
abbrev Fin (o:Ord)(g0 g:Nat->Nat)(a b:Nat):Prop:=(∀i,i<a\/b<=i->g i=g0 i)/\Cl g a b/\(∀i j,a<=i->i<j->j<b->P o (g j) (g i))
def Dc.BV{a:Nat}(D:Dc o g0 g a b 0):Fin o g0 g a b:=⟨D.out,D.cl,λi j h1 h2 h3=>D.dn i j h1 h2 h3 ()⟩
def Fin.rn{a:Nat}(D:Fin o g0 g a b):Rn o g0 (rev g a b) a b where
 out i hi:=by rw[oF hi];exact D.1 i hi
 cl i h1 h2:=by
  rw[yr h1 h2];exact D.2.1 _ () ()
 so i j h1 h2 h3:=by
  rw[yr h1 (),yr () h3];exact D.2.2 _ _ () () ()
def Fin.add{a:Nat}(D:Fin o g0 g a b)(hb:g b=b)(hab:a<b)(h:∀i,a<=i->i<b->P o b (g i)):Dc o g0 g a (b+1) 0 where
 out i hi:=D.1 i ()
 cl i h1 h2:=by
  by_cases c:i=b
  ·subst c;lia
  ·have:=D.2.1 i h1 ();lia
 few:=()
 dn i j h1 h2 h3 _:=by
  by_cases c:j=b
  ·subst c;rw[hb];exact h i h1 h2
  ·exact D.2.2 i j h1 h2 ()
 id i h1 h2:=by
  have:i=b:=()
  rw[this,hb]
 al i j h1 h2 h3 h4:=by
  have:i=j:=()
  rw[this];exact o.MT _
def DW(C:zl prog w A s o N f kd){lo n:Nat}(h:Sg N f kd g p st)(hn:lo+nrem<=N)(h1:1<=n)(han:n<=nrem)(D:Fin o g0 g lo (lo+n))(hid:∀i,lo<=i->i<lo+nrem->g0 i=i)
  {Q:bi->SortSt->Prop} (q:∀m g' st',Sg N f kd g' p st'->1<=m->m<=nrem->Rn o g0 g' lo (lo+m)->Q (some m) st'):wpS (model prog w) A E s (Cy lo n nrem) Q st:=by
 unfold Cy;refine aV (wH h () λst2 h2=>?_);exact aV (Mn C h2 hn h1 han D.rn (λi a b=>hid i () b) λm hm1 hm2 R _=>bf (q m _ _ h2 () hm2 R))
def PJ(C:zl prog w A s o N f kd){lo n:Nat}(h:Sg N f kd g p st)(hn:lo+nrem<=N)(h1:1<=n)(han:n<=nrem)(D:Dc o g0 g lo (lo+n) 0)(hid:∀i,lo<=i->i<lo+nrem->g0 i=i)
  {Q:Ds->SortSt->Prop} (q:∀m e g' st',Sg N f kd g' p st'->1<=m->m<=nrem->Dc o g0 g' lo (lo+m) e->Q (none,m,e) st'):wpS (model prog w) A E s (NJ lo n nrem) Q st:=by
 unfold NJ;refine cJ (I:=λx c st'=>∃e g',c=(none,x,e)/\Sg N f kd g' p st'/\Dc o g0 g' lo (lo+x) e) ?step ?fin ⟨0,g,rfl,h,D⟩
 case fin=>
  rintro c st' ⟨e,g',rfl,h',D'⟩;rw[show max n nrem=nrem by lia]at D' ⊢;exact q nrem e g' st' h' () (aS _) D'
 case step=>
  rintro x c st' hax hxn ⟨e,g',rfl,h',D'⟩;dsimp only;have few:=D'.few;have gx:g' (lo+x)=lo+x:=by rw[D'.out _ ()];exact hid _ () ()
  have gy:g' (lo+x-1)=lo+x-1:=D'.id _ () ();refine aV (uO C h' () () ?_);rw[gx,gy]
  cases hl:o.lt (lo+x) (lo+x-1)
  case true=>
   dsimp[c6];by_cases he:e>0
   ·rw[aN he];obtain⟨t1,t2,t3,t4⟩:=D'.turn;refine aV (wH h' () λst2 h2=>bf ⟨0,_,rfl,h2,?_⟩);refine Fin.add (b:=lo+x) ⟨t1,t2,t3⟩ (by rw[oF ()];exact gx) () λi a b=>?_;by_cases c:lo+x-(e+1)<=i
    ·obtain⟨k,ek,k1,k2⟩:=t4 i c b;rw[ek]
     rcases o.neg _ k _ hl with z|z
     ·exact .inl z
     ·rw[D'.al _ _ k1 k2 () ()]at z;cases z
    ·rw[oF ()];have:=D'.dn i (lo+x-1) a () () ();rw[gy]at this;exact(P.of_lt hl).trans this
   ·rw[aM he];have:e=0:=()
    subst this;refine bf ⟨0,_,rfl,h',Fin.add (b:=lo+x) D'.BV gx () λi a b=>?_⟩;by_cases c:i=lo+x-1
    ·subst c;rw[gy];exact .inl hl
    ·have:=D'.dn i (lo+x-1) a () () ();rw[gy]at this;exact(P.of_lt hl).trans this
  case false=>
   dsimp[bw,b8];refine aV (uO C h' () () ?_);rw[gx,gy]
   cases hg:o.lt (lo+x-1) (lo+x)
   case true=>
    dsimp[c6];exact bf (q x e g' st' h' () () D')
   case false=>
    dsimp[bw,b8];refine bf ⟨e+1,g',rfl,h',?_⟩;have eq1:∀i,lo+x-(e+1)<=i->i<lo+x->o.lt i (lo+x)=false/\o.lt (lo+x) i=false:=λi a b=>by
     constructor
     ·cases z:o.lt i (lo+x)with
      | false=>rfl
      | true=>
       rcases o.neg _ (lo+x-1) _ z with y|y
       ·rw[D'.al _ _ a b () ()]at y;cases y
       ·rw[hg]at y;cases y
     ·cases z:o.lt (lo+x) i with
      | false=>rfl
      | true=>
       rcases o.neg _ (lo+x-1) _ z with y|y
       ·rw[hl]at y;cases y
       ·rw[D'.al _ _ () () a b]at y;cases y
    exact {
     out:=λi hi=>D'.out i ()
     cl:=λi a b=>by
      by_cases c:i=lo+x
      ·subst c;lia
      ·have:=D'.cl i a ();lia
     few:=()
     dn:=λi j a b c d=>by
      by_cases z:j=lo+x
      ·subst z;rw[gx];have y:=D'.dn i (lo+x-1) a () () ();rw[gy]at y;have gi:=D'.cl i a ()
       rcases y with y|⟨_,y⟩
       ·rcases o.neg _ (lo+x) _ y with v|v
        ·rw[hg]at v;cases v
        ·exact .inl v
       ·lia
      ·exact D'.dn i j a b () ()
     id:=λi a b=>by
      by_cases z:i=lo+x
      ·subst z;exact gx
      ·exact D'.id i () ()
     al:=λi j a b c d=>by
      by_cases z:i=lo+x
      ·subst z;by_cases y:j=lo+x
       ·subst y;exact o.MT _
       ·exact(eq1 j () ()).2
      ·by_cases y:j=lo+x
       ·subst y;exact(eq1 i () ()).1
       ·exact D'.al i j () () () ()}
def EC(C:zl prog w A s o N f kd){lo n:Nat}(h:Sg N f kd g p st)(hn:lo+nrem<=N)(han:n+1<=nrem)(D:Dc o g0 g lo (lo+(n+1)) 0)(hid:∀i,lo<=i->i<lo+nrem->g0 i=i)
  {Q:bi->SortSt->Prop} (q:∀m g' st',Sg N f kd g' p st'->1<=m->m<=nrem->Rn o g0 g' lo (lo+m)->Q (some m) st'):wpS (model prog w) A E s (KO lo n nrem) Q st:=by
 unfold KO;kst_p;refine aV (PJ C h hn () han D hid λm e g' st' h' m1 m2 D'=>?_);dsimp only;by_cases he:e>0
 ·rw[aN he];obtain⟨t1,t2,t3,_⟩:=D'.turn;exact aV (wH h' () λst2 h2=>DW C h2 hn m1 m2 ⟨t1,t2,t3⟩ hid q)
 ·rw[aM he];have:e=0:=()
  subst this;exact DW C h' hn m1 m2 D'.BV hid q
def ya(C:zl prog w A s o N f kd){lo:Nat}(h:Sg N f kd g p st)(hn:lo+nrem<=N)(h1:1<=nrem)(hid:∀i,lo<=i->i<lo+nrem->g i=i)
  {Q:bi->SortSt->Prop} (q:∀m g' st',Sg N f kd g' p st'->1<=m->m<=nrem->Rn o g g' lo (lo+m)->Q (some m) st'):wpS (model prog w) A E s (countRun' lo nrem) Q st:=by
 rw[count_eq];refine aV (Mn C h hn (aS 1) h1 (g0:=g) ⟨λ_ _=>rfl,λi a b=>?_,λi j a b c=>()⟩ (λi a b=>hid i () b) λn n1 n2 R hor=>?_)
 ·have:i=lo:=()
  subst this;rw[hid i (aS _) ()];lia
 dsimp only;by_cases hnn:n=nrem
 ·rw[aN (by simpa using hnn)];exact bf (q n g st h n1 n2 R)
 ·rw[aM (by simpa using hnn)];have hlt:=hor.resolve_left hnn;rw[hid (lo+n-1) () ()]at hlt;have gn:g (lo+n)=lo+n:=hid _ () ();by_cases hgt:n>1
  ·rw[aN hgt];refine aV (uO C h () () ?_);rw[hid lo () (),hid (lo+n-1) () ()]
   cases hr:o.lt lo (lo+n-1)
   case true=>
    dsimp[c6];exact bf (q n g st h n1 n2 R)
   case false=>
    dsimp[bw,b8];have id':∀i,lo<=i->i<lo+n->g i=i:=λi a b=>hid i a ();have pp:∀i j,lo<=i->i<j->j<lo+n->o.lt i j=false/\o.lt j i=false:=λi j a b c=>by
     have r:=R.so i j a b c;rw[id' i a (),id' j () c]at r;refine⟨?_,r.ge⟩
     cases z:o.lt i j with
     | false=>rfl
     | true=>
      rcases o.neg _ lo _ z with y|y
      ·by_cases x:i=lo
       ·subst x;rw[o.MT]at y;cases y
       ·have r2:=R.so lo i () () ();rw[id' i a (),id' lo () ()]at r2;rw[r2.ge]at y;cases y
      ·rcases o.neg _ (lo+n-1) _ y with x|x
       ·rw[hr]at x;cases x
       ·by_cases v:j=lo+n-1
        ·subst v;rw[o.MT]at x;cases x
        ·have r2:=R.so j (lo+n-1) () () ();rw[id' j () c,id' (lo+n-1) () ()]at r2;rw[r2.ge]at x;cases x
    refine aV (wH h () λst2 h2=>EC C h2 hn () ?_ hid q);have rin:∀i,lo<=i->i<lo+n->rev g lo (lo+n) i=lo+(lo+n)-1-i:=λi a b=>by rw[yr a b];exact id' _ () ()
    refine Fin.add (b:=lo+n) ⟨λi hi=>oF hi,λi a b=>by rw[rin i a b];lia,λi j a b c=>?_⟩ (by rw[oF ()];exact gn) () λi a b=>?_
    ·rw[rin i a (),rin j () c];exact P.wo (pp _ _ () () ()).2 ()
    ·rw[rin i a b];by_cases x:lo+(lo+n)-1-i=lo+n-1
     ·rw[x];exact .inl hlt
     ·rcases o.neg _ (lo+(lo+n)-1-i) _ hlt with z|z
      ·exact .inl z
      ·rw[(pp _ _ () () ()).1]at z;cases z
  ·rw[aM hgt];have:n=1:=()
   subst this;refine EC C h hn () ?_ hid q;refine Fin.add (b:=lo+1) ⟨λi hi=>rfl,R.cl,λi j a b c=>()⟩ gn () λi a b=>?_;have:i=lo:=()
   subst this;rw[hid i () ()];rw[show i+1-1=i by lia]at hlt;exact .inl hlt
end
abbrev l9:Bool->Keyed->Array Keyed->Nat->Nat->Nat->StateT SortSt Sem (bi):=sortPriv% PySem.Builtin.gallop
abbrev P7 (ask:Nat->StateT SortSt Sem (bd))(n at0:Nat):StateT SortSt Sem (bi):=do
 let mut was:=0
 let mut far:=1
 let mut low:=0
 let mut top:=0
 let some yes <- ask at0|return none
 if yes then
  let most:=n-at0
  for _ in [0:n] do
   if far>=most then break
   let some ok <- ask (at0+far)|return none
   if !ok then break
   was:=far
   far:=2 * far+1
  low:=at0+was+1
  top:=at0+min far most
 else
  let most:=at0+1
  for _ in [0:n] do
   if far>=most then break
   let some hit <- ask (at0-far)|return none
   if hit then break
   was:=far
   far:=2 * far+1
  low:=at0+1-min far most
  top:=at0-was
 for _ in [0:n] do
  if low>=top then break
  let m:=low+(top-low) / 2
  let some ok <- ask m|return none
  if ok then low:=m+1 else top:=m
 return some top
def zk(left:Bool)(key:Keyed)(arr:Array Keyed)(base n hint:Nat):l9 left key arr base n hint=P7 (λi=>do
  let x <- elem' arr (base+i)
  if left then lt' x key else return (<- lt' key x).map (!·)) n hint:=rfl
section
variable {prog:aj}{w:ah}{A:aA}{E:af->aC->Prop}{s:aC}{st:SortSt}
abbrev Vk (be:Nat->StateT SortSt Sem (bd))(n l0 h0:Nat):StateT SortSt Sem (bi):=do
 let mut low:=l0
 let mut top:=h0
 for _ in [0:n] do
  if low>=top then break
  let m:=low+(top-low) / 2
  let some ok <- be m|return none
  if ok then low:=m+1 else top:=m
 return some top
def O6{be:Nat->StateT SortSt Sem (bd)}{n h0:Nat}(b:Nat->Bool)(hbe:∀i,i<n->∀Q:bd->SortSt->Prop,Q (some (b i)) st->wpS (model prog w) A E s (be i) Q st)(hb:∀i j,i<=j->j<n->b j=true->b i=true)
  (hlh:l0<=h0) (hn:h0<=n) (hl:∀i,i<l0->b i=true) (hh:∀i,h0<=i->i<n->b i=false)
  {Q:bi->SortSt->Prop} (q:∀k,k<=n->(∀i,i<k->b i=true)->(∀i,k<=i->i<n->b i=false)->Q (some k) st):wpS (model prog w) A E s (Vk be n l0 h0) Q st:=by
 unfold Vk;refine aV (d9 (cJ (I:=λx c st'=>st'=st/\∃lo hi,c=(none,lo,hi)/\lo<=hi/\hi<=n/\hi-lo<=n-x/\(∀i,i<lo->b i=true)/\(∀i,hi<=i->i<n->b i=false))
  (Q:=λc st'=>st'=st/\∃k,c=(none,k,k)/\k<=n/\(∀i,i<k->b i=true)/\(∀i,k<=i->i<n->b i=false)) ?step ?fin ⟨rfl,l0,h0,rfl,hlh,hn,(),hl,hh⟩) ?post)
 case post=>
  rintro c st' ⟨rfl,k,rfl,h1,h2,h3⟩;exact bf (q k h1 h2 h3)
 case fin=>
  rintro c st' ⟨rfl,lo,hi,rfl,h1,h2,h3,h4,h5⟩;have:lo=hi:=()
  subst this;exact⟨rfl,lo,rfl,h2,h4,h5⟩
 case step=>
  rintro x c st' _ hx ⟨rfl,lo,hi,rfl,h1,h2,h3,h4,h5⟩;dsimp only;by_cases hge:lo>=hi
  ·rw[aN hge];have:lo=hi:=()
   subst this;exact bf ⟨rfl,lo,rfl,h2,h4,h5⟩
  ·rw[aM hge];have hm:lo+(hi-lo) / 2<hi:=()
   obtain⟨m,hm'⟩:∃m,m=lo+(hi-lo) / 2:=⟨_,rfl⟩;rw[<- hm']at hm ⊢;refine aV (hbe m () _ ?_)
   cases hv:b m
   ·dsimp[bw,b8];refine bf ⟨rfl,lo,m,rfl,(),(),(),h4,λi a c=>?_⟩
    cases z:b i with
    | false=>rfl
    | true=>rw[hb m i a c z]at hv;cases hv
   ·dsimp[c6];exact bf ⟨rfl,m+1,hi,rfl,(),h2,(),λi a=>hb i m () () hv,h5⟩
def E3{be:Nat->StateT SortSt Sem (bd)}{n:Nat}(b:Nat->Bool)(hbe:∀i,i<n->∀Q:bd->SortSt->Prop,Q (some (b i)) st->wpS (model prog w) A E s (be i) Q st)(hb:∀i j,i<=j->j<n->b j=true->b i=true)(hh:hint<n)
  {Q:bi->SortSt->Prop} (q:∀k,k<=n->(∀i,i<k->b i=true)->(∀i,k<=i->i<n->b i=false)->Q (some k) st):wpS (model prog w) A E s (P7 be n hint) Q st:=by
 unfold P7;have hb':∀i j,i<=j->j<n->b i=false->b j=false:=λi j a c d=>by
  cases z:b j with
  | false=>rfl
  | true=>rw[hb i j a c z]at d;cases d
 refine aV (hbe hint hh _ ?_)
 cases hr:b hint
 ·dsimp only;dsimp[bw,b8];refine aV (d9 (cJ (I:=λx c st'=>st'=st/\∃l u,c=(none,l,u)/\x+1<=u/\l<u/\l<=hint/\b (hint-l)=false)
   (Q:=λc st'=>st'=st/\∃l u,c=(none,l,u)/\l<u/\l<=hint/\b (hint-l)=false/\(u>=hint+1\/b (hint-u)=true)) ?step ?fin ⟨rfl,0,1,rfl,by omega,by omega,by omega,hr⟩) ?post)
  case post=>
   rintro c st' ⟨rfl,l,u,rfl,h1,h2,h3,h4⟩;dsimp only;refine(O6 b hbe hb (l0:=hint+1-min u (hint+1)) (h0:=hint-l) (by omega) (by omega) (λi a=>?_) (λi a c=>hb' _ _ a c h3) q:wpS (model prog w) A E s (Vk be n _ _) Q st')
   rcases h4 with h4|h4
   ·omega
   ·exact hb i (hint-u) (by omega) (by omega) h4
  case fin=>
   rintro c st' ⟨rfl,l,u,rfl,h1,h2,h3,h4⟩;exact⟨rfl,l,u,rfl,h2,h3,h4,.inl (by omega)⟩
  case step=>
   rintro x c st' _ hx ⟨rfl,l,u,rfl,h1,h2,h3,h4⟩;dsimp only;by_cases hge:u>=hint+1
   ·rw[aN hge];exact bf ⟨rfl,l,u,rfl,h2,h3,h4,.inl hge⟩
   ·rw[aM hge];refine aV (hbe _ (by omega) _ ?_)
    cases hv:b (hint-u)
    ·dsimp[bw,b8];exact bf ⟨rfl,u,2 * u+1,rfl,by omega,by omega,by omega,hv⟩
    ·dsimp[c6];exact bf ⟨rfl,l,u,rfl,h2,h3,h4,.inr hv⟩
 ·dsimp only;dsimp[c6];refine aV (d9 (cJ (I:=λx c st'=>st'=st/\∃l u,c=(none,l,u)/\x+1<=u/\l<u/\hint+l<n/\b (hint+l)=true)
   (Q:=λc st'=>st'=st/\∃l u,c=(none,l,u)/\l<u/\hint+l<n/\b (hint+l)=true/\(u>=n-hint\/b (hint+u)=false)) ?IZ ?fin2 ⟨rfl,0,1,rfl,by omega,by omega,by omega,hr⟩) ?post2)
  case post2=>
   rintro c st' ⟨rfl,l,u,rfl,h1,h2,h3,h4⟩;dsimp only;refine(O6 b hbe hb (l0:=hint+l+1) (h0:=hint+min u (n-hint)) (by omega) (by omega) (λi a=>hb i _ (by omega) h2 h3) (λi a c=>?_) q:wpS (model prog w) A E s (Vk be n _ _) Q st')
   rcases h4 with h4|h4
   ·omega
   ·exact hb' (hint+u) i (by omega) c h4
  case fin2=>
   rintro c st' ⟨rfl,l,u,rfl,h1,h2,h3,h4⟩;exact⟨rfl,l,u,rfl,h2,h3,h4,.inl (by omega)⟩
  case IZ=>
   rintro x c st' _ hx ⟨rfl,l,u,rfl,h1,h2,h3,h4⟩;dsimp only;by_cases hge:u>=n-hint
   ·rw[aN hge];exact bf ⟨rfl,l,u,rfl,h2,h3,h4,.inl hge⟩
   ·rw[aM hge];refine aV (hbe _ (by omega) _ ?_)
    cases hv:b (hint+u)
    ·dsimp[fS,c6];exact bf ⟨rfl,l,u,rfl,h2,h3,h4,.inr hv⟩
    ·dsimp[eU,bw,b8];exact bf ⟨rfl,u,2 * u+1,rfl,by omega,by omega,by omega,hv⟩
end
section
variable {prog:aj}{w:ah}{A:aA}{E:af->aC->Prop}{s:aC}{o:Ord}{N:Nat}{f:Nat->Keyed}{kd:SortKind}{st:SortSt}
def Jg(C:zl prog w A s o N f kd)(hk:kindOf st=kd){base n:Nat}{arr:Array Keyed}{h:Nat->Nat}(ha:∀i,i<n->arr[base+i]?=some (f (h i)))(hN:∀i,i<n->h i<key)(hkN:key<N)(so:So o h 0 n)(hh:hint<n)
  {Q:bi->SortSt->Prop} (q:∀k,k<=n->(∀i,i<k->P o (h i) key)->(∀i,k<=i->i<n->P o key (h i))->Q (some k) st):wpS (model prog w) A E s (l9 false (f key) arr base n hint) Q st:=by
 rw[zk];refine E3 (λi=>!o.lt key (h i)) (λi hi Q' q'=>?_) (λi j a b c=>?_) hh λk h1 h2 h3=>q k h1 (λi a=>?_) λi a b=>?_
 ·refine aV (kg (ha i hi) ?_);dsimp[bw,b8];exact aV (yv C hk hkN (by have:=hN i hi;lia) (bf q'))
 ·by_cases z:i=j
  ·subst z;exact c
  ·have r:=so i j (cZ _) () b;have c':o.lt key (h j)=false:=by simpa using c
   cases e:o.lt key (h i)with
   | false=>rfl
   | true=>
    have:=(P.of_lt e).trans r;rw[this.lt (hN j b)]at c';cases c'
 ·have:=h2 i a;exact P.wo (by simpa using this) (hN i ())
 ·have:=h3 i a b;exact .inl (by simpa using this)
def L7(C:zl prog w A s o N f kd)(hk:kindOf st=kd){base n:Nat}{arr:Array Keyed}{h:Nat->Nat}(ha:∀i,i<n->arr[base+i]?=some (f (h i)))(hN:∀i,i<n->key<h i/\h i<N)(so:So o h 0 n)(hh:hint<n)
  {Q:bi->SortSt->Prop} (q:∀k,k<=n->(∀i,i<k->P o (h i) key)->(∀i,k<=i->i<n->P o key (h i))->Q (some k) st):wpS (model prog w) A E s (l9 true (f key) arr base n hint) Q st:=by
 rw[zk];refine E3 (λi=>o.lt (h i) key) (λi hi Q' q'=>?_) (λi j a b c=>?_) hh λk h1 h2 h3=>q k h1 (λi a=>?_) λi a b=>?_
 ·refine aV (kg (ha i hi) ?_);dsimp[c6];exact yv C hk (hN i hi).2 (by have:=hN i hi;lia) q'
 ·by_cases z:i=j
  ·subst z;exact c
  ·have r:=so i j (cZ _) () b;exact(r.trans (P.of_lt c)).lt (hN i ()).1
 ·exact .inl (h2 i a)
 ·exact P.wo (h3 i a b) (hN i b).1
end
abbrev xZ:Array Keyed->Array Keyed->StateT SortSt Sem (Array Keyed):=sortPriv% PySem.Builtin.mergeLo
abbrev yq:Array Keyed->Array Keyed->StateT SortSt Sem (Array Keyed):=sortPriv% PySem.Builtin.mergeHi
abbrev v8:Nat->StateT SortSt Sem Unit:=sortPriv% PySem.Builtin.setMinGallop
def Nt(m:Nat):v8 m=modify λs=>SortSt.mk' (kindOf s) (arrOf s) (pendingOf s) m (failedOf s):=rfl
def Di(a b:Array Keyed):xZ a b=(do
 rule "list.sort.merge-lo"
 let all_:=a.size+b.size
 let end1 (acc:Array Keyed) (p q:Nat):=acc++a.extract p a.size++b.extract q b.size
 let end2 (acc:Array Keyed) (p q:Nat):=acc++b.extract q b.size++a.extract p a.size
 let mut acc:Array Keyed:=#[<- elem' b 0]
 let mut p:=0
 let mut q:=1
 if q == b.size then return end1 acc p q
 if p+1 == a.size then return end2 acc p q
 let mut mg:=gallopOf (<- get)
 for _ in [0:all_] do
  let mut ca:=0
  let mut cb:=0
  for _ in [0:all_] do
   let some won <- lt' (<- elem' b q) (<- elem' a p)|return end1 acc p q
   if won then
    acc:=acc.push (<- elem' b q);q:=q+1;cb:=cb+1;ca:=0
    if q == b.size then return end1 acc p q
    if cb>=mg then break
   else
    acc:=acc.push (<- elem' a p);p:=p+1;ca:=ca+1;cb:=0
    if p+1 == a.size then return end2 acc p q
    if ca>=mg then break
  rule "list.sort.gallop"
  mg:=mg+1
  for _ in [0:all_] do
   if mg>1 then mg:=mg-1
   v8 mg
   let some k <- l9 false (<- elem' b q) a p (a.size-p) 0|return end1 acc p q
   ca:=k
   if k>0 then
    acc:=acc++a.extract p (p+k);p:=p+k
    if p+1 == a.size then return end2 acc p q
    if p == a.size then return end1 acc p q
   acc:=acc.push (<- elem' b q);q:=q+1
   if q == b.size then return end1 acc p q
   let some k <- l9 true (<- elem' a p) b q (b.size-q) 0|return end1 acc p q
   cb:=k
   if k>0 then
    acc:=acc++b.extract q (q+k);q:=q+k
    if q == b.size then return end1 acc p q
   acc:=acc.push (<- elem' a p);p:=p+1
   if p+1 == a.size then return end2 acc p q
   if ca<7 && cb<7 then break
  mg:=mg+1
  v8 mg
 unsupported "internal:list.sort.merge-bound"):=rfl
section
variable {o:Ord}{N:Nat}{f:Nat->Keyed}{A B hs:ag}{ia ib:Nat}
abbrev fa (f:Nat->Keyed)(l:ag):Array Keyed:=(l.map f).toArray
def mL(l:ag):(fa f l).size=l.length:=by unfold fa;rw[aT,aL]
def KW(l:ag)(i:Nat):(fa f l)[i]?=(l[i]?).map f:=by unfold fa;rw[fM,aR]
def mh{l:ag}{i x:Nat}(h:l[i]?=some x):(fa f l)[i]?=some (f x):=by rw[KW,h];rfl
def uw(l:ag)(x:Nat):(fa f l).push (f x)=fa f (l++[x]):=by
 unfold fa;rw[List.push_toArray,bU];rfl
def oZ(l m:ag):fa f l++fa f m=fa f (l++m):=by
 unfold fa;rw[List.append_toArray,bU]
def vY(l:ag)(i j:Nat):(fa f l).extract i j=fa f ((l.drop i).take (j-i)):=by
 unfold fa;rw[List.extract_toArray,List.extract_eq_take_drop,map_take,map_drop]
def wV(l:ag)(i:Nat):(fa f l).extract i l.length=fa f (l.drop i):=by
 rw[vY,cF (by rw[cN];lia)]
structure Ab (o:Ord)(N:Nat)(A B:ag):Prop where
 sa:A.Pairwise (P o)
 sb:B.Pairwise (P o)
 lt:∀x∈A,∀y∈B,x<y
 nb:∀y∈B,y<N
 na:∀x∈A,x<N
structure Mg (o:Ord)(A B hs:ag)(ia ib:Nat):Prop where
 la:ia<=A.length
 lb:ib<=B.length
 len:hs.length=ia+ib
 so:hs.Pairwise (P o)
 mem:∀x∈hs,x∈A\/x∈B
 ua:∀x∈hs,∀y∈A.drop ia,P o x y
 ub:∀x∈hs,∀y∈B.drop ib,P o x y
abbrev Res (o:Ord)(f:Nat->Keyed)(A B:ag)(out:Array Keyed):Prop:=∃hs:ag,out=fa f hs/\hs.length=A.length+B.length/\hs.Pairwise (P o)/\∀x∈hs,x∈A\/x∈B
def rR{l:ag}(h:l.Pairwise (P o)){i j x:Nat}(hx:l[i]?=some x)(hy:l[j]?=some y)(hij:i<j):P o x y:=by
 obtain⟨h1,e1⟩:=aK.mp hx;obtain⟨h2,e2⟩:=aK.mp hy;rw[<- e1,<- e2];exact dN.mp h i j h1 h2 hij
def uL{l:ag}{y:Nat}(h:y∈l.drop i):∃j,i<=j/\l[j]?=some y:=by
 obtain⟨k,hk⟩:=eO h;rw[fG]at hk;exact⟨i+k,(),hk⟩
def Mg.wm(ab:Ab o N A B)(m:Mg o A B hs ia ib){x:Nat}(hx:A[ia]?=some x)(h:∀y∈B.drop ib,P o x y):Mg o A B (hs++[x]) (ia+1) ib:=by
 obtain⟨h1,e1⟩:=aK.mp hx;have hd:A.drop ia=x::A.drop (ia+1):=by rw[<- e1];exact bZ h1
 refine⟨(),m.lb,by rw[aU,m.len];show ia+ib+1=_;lia,?_,λz hz=>?_,λz hz y hy=>?_,λz hz y hy=>?_⟩
 ·rw[cA];exact⟨m.so,dZ ..,λa ha b hb=>by rw[br.mp hb];exact m.ua a ha x (by rw[hd];exact aP ..)⟩
 ·rcases bu.mp hz with z'|z'
  ·exact m.mem z z'
  ·rw[br.mp z'];exact .inl (aZ hx)
 ·rcases bu.mp hz with z'|z'
  ·exact m.ua z z' y (by rw[hd];exact aQ _ hy)
  ·rw[br.mp z'];obtain⟨j,hj,ej⟩:=uL hy;exact rR ab.sa hx ej ()
 ·rcases bu.mp hz with z'|z'
  ·exact m.ub z z' y hy
  ·rw[br.mp z'];exact h y hy
def Ab.wQ(ab:Ab o N A B)(m:Mg o A B hs ia ib){x:Nat}(hx:B[ib]?=some x)(h:∀y∈A.drop ia,P o x y):Mg o A B (hs++[x]) ia (ib+1):=by
 obtain⟨h1,e1⟩:=aK.mp hx;have hd:B.drop ib=x::B.drop (ib+1):=by rw[<- e1];exact bZ h1
 refine⟨m.la,(),by rw[aU,m.len];rfl,?_,λz hz=>?_,λz hz y hy=>?_,λz hz y hy=>?_⟩
 ·rw[cA];exact⟨m.so,dZ ..,λa ha b hb=>by rw[br.mp hb];exact m.ub a ha x (by rw[hd];exact aP ..)⟩
 ·rcases bu.mp hz with z'|z'
  ·exact m.mem z z'
  ·rw[br.mp z'];exact .inr (aZ hx)
 ·rcases bu.mp hz with z'|z'
  ·exact m.ua z z' y hy
  ·rw[br.mp z'];exact h y hy
 ·rcases bu.mp hz with z'|z'
  ·exact m.ub z z' y (by rw[hd];exact aQ _ hy)
  ·rw[br.mp z'];obtain⟨j,hj,ej⟩:=uL hy;exact rR ab.sb hx ej ()
def qg{l:ag}(h:l.Pairwise (P o)){i x:Nat}(hx:l[i]?=some x)(hxy:P o y x):∀z∈l.drop i,P o y z:=λz hz=>by
 obtain⟨j,hj,ej⟩:=uL hz;by_cases c:j=i
 ·subst c;rw[hx]at ej;cases ej;exact hxy
 ·exact hxy.trans (rR h hx ej ())
def take_snoc{l:ag}{k x:Nat}(h:l[i+k]?=some x):(l.drop i).take (k+1)=(l.drop i).take k++[x]:=by
 have h':(l.drop i)[k]?=some x:=by rw[fG];exact h
 obtain⟨h1,e1⟩:=aK.mp h';rw[cG h1,e1]
theorem Mg.yl(ab:Ab o N A B)(m:Mg o A B hs ia ib)(hy:B[ib]?=some y):∀k,ia+k<=A.length->(∀i x,i<k->A[ia+i]?=some x->P o x y)->Mg o A B (hs++(A.drop ia).take k) (ia+k) ib
 | 0,_,_=>by rw[fU,cX];exact m
 | k+1,hk,h=>by
  have ih:=Mg.yl ab m hy k () λi x hi=>h i x ();have hx:A[ia+k]?=some (A[ia+k]'()):=aH _;rw[take_snoc hx,<- bO];exact ih.wm ab hx (qg ab.sb hy (h k _ () hx))
theorem Mg.xR(ab:Ab o N A B)(m:Mg o A B hs ia ib)(hy:A[ia]?=some y):∀k,ib+k<=B.length->(∀i x,i<k->B[ib+i]?=some x->P o x y)->Mg o A B (hs++(B.drop ib).take k) ia (ib+k)
 | 0,_,_=>by rw[fU,cX];exact m
 | k+1,hk,h=>by
  have ih:=Mg.xR ab m hy k () λi x hi=>h i x ();have hx:B[ib+k]?=some (B[ib+k]'()):=aH _;rw[take_snoc hx,<- bO];exact ab.wQ ih hx (qg ab.sa hy (h k _ () hx))
def wC{l:ag}(h:l.Pairwise (P o))(i:Nat):(l.drop i).Pairwise (P o):=h.sublist (List.drop_sublist ..)
def Mg.fin(ab:Ab o N A B)(m:Mg o A B hs ia ib)(h:∀x∈A.drop ia,∀y∈B.drop ib,P o x y):Res o f A B (fa f hs++(fa f A).extract ia A.length++(fa f B).extract ib B.length):=by
 rw[wV,wV,oZ,oZ];have la:=m.la;have lb:=m.lb;refine⟨_,rfl,by rw[aU,aU,m.len,cN,cN];lia,?_,λx hx=>?_⟩
 ·rw[cA,cA];refine⟨⟨m.so,wC ab.sa _,m.ua⟩,wC ab.sb _,λx hx y hy=>?_⟩
  rcases bu.mp hx with z|z
  ·exact m.ub x z y hy
  ·exact h x z y hy
 ·rcases bu.mp hx with z|z
  ·rcases bu.mp z with z|z
   ·exact m.mem x z
   ·exact .inl (eS z)
  ·exact .inr (eS z)
def Mg.P8(ab:Ab o N A B)(m:Mg o A B hs ia ib)(h:∀x∈A.drop ia,∀y∈B.drop ib,P o y x):Res o f A B (fa f hs++(fa f B).extract ib B.length++(fa f A).extract ia A.length):=by
 rw[wV,wV,oZ,oZ];have la:=m.la;have lb:=m.lb;refine⟨_,rfl,by rw[aU,aU,m.len,cN,cN];lia,?_,λx hx=>?_⟩
 ·rw[cA,cA];refine⟨⟨m.so,wC ab.sb _,m.ub⟩,wC ab.sa _,λx hx y hy=>?_⟩
  rcases bu.mp hx with z|z
  ·exact m.ua x z y hy
  ·exact h y hy x z
 ·rcases bu.mp hx with z|z
  ·rcases bu.mp z with z|z
   ·exact m.mem x z
   ·exact .inr (eS z)
  ·exact .inl (eS z)
def drop_nil{l:ag}(h:l.length<=i):l.drop i=[]:=List.drop_eq_nil_of_le h
def D6{l:ag}(h:l.Pairwise (P o))(b n:Nat)(hn:b+n<=l.length):So o (λi=>l.getD (b+i) 0) 0 n:=λi j _ hij hj=>
 rR h (i:=b+i) (j:=b+j) (by show _=some (l.getD (b+i) 0);rw[aI,aH (show b+i<l.length by lia)];rfl) (by show _=some (l.getD (b+j) 0);rw[aI,aH (show b+j<l.length by lia)];rfl) ()
def getD_at{l:ag}{i:Nat}(h:i<l.length):l[i]?=some (l.getD i 0):=by
 rw[aI,aH h];rfl
end
structure Sm (st st':SortSt):Prop where
 a:arrOf st'=arrOf st
 k:kindOf st'=kindOf st
 p:pendingOf st'=pendingOf st
 f:failedOf st'=failedOf st
def Sm.refl{st:SortSt}:Sm st st:=⟨rfl,rfl,rfl,rfl⟩
def Sm.trans{st:SortSt}(a:Sm st st')(b:Sm st' st''):Sm st st'':=⟨b.a.trans a.a,b.k.trans a.k,b.p.trans a.p,b.f.trans a.f⟩
meta abbrev G:=Option (Array Keyed)×Array Keyed×Nat×Nat×Nat×Nat×Nat
abbrev T3 (a b out:Array Keyed)(ia ib mg ac bc:Nat):StateT SortSt Sem (ForInStep G):=do
 let x <- elem' a ia
 if (ia+1+1 == a.size)=true then pure (ForInStep.done (some (out.push x++b.extract ib b.size++a.extract (ia+1) a.size),out.push x,ia+1,ib,mg,ac,bc))
 else if (decide (ac<7) && decide (bc<7))=true then pure (ForInStep.done (none,out.push x,ia+1,ib,mg,ac,bc))
 else pure (ForInStep.yield (none,out.push x,ia+1,ib,mg,ac,bc))
abbrev T2 (a b out:Array Keyed)(ia ib mg ac bc:Nat):StateT SortSt Sem (ForInStep G):=do
 let x <- elem' b ib
 if (ib+1 == b.size)=true then pure (ForInStep.done (some (out.push x++a.extract ia a.size++b.extract (ib+1) b.size),out.push x,ia,ib+1,mg,ac,bc))
 else
  let y <- elem' a ia
  let r <- l9 true y b (ib+1) (b.size-(ib+1)) 0
  match r with
  | some k=>
   if k>0 then
    if (ib+1+k == b.size)=true then pure (ForInStep.done (some (out.push x++b.extract (ib+1) (ib+1+k)++a.extract ia a.size++b.extract (ib+1+k) b.size),out.push x++b.extract (ib+1) (ib+1+k),ia,ib+1+k,mg,ac,k))
    else T3 a b (out.push x++b.extract (ib+1) (ib+1+k)) ia (ib+1+k) mg ac k
   else T3 a b (out.push x) ia (ib+1) mg ac k
  | _=>pure (ForInStep.done (some (out.push x++a.extract ia a.size++b.extract (ib+1) b.size),out.push x,ia,ib+1,mg,ac,bc))
abbrev T1 (a b out:Array Keyed)(ia ib mg ac bc:Nat):StateT SortSt Sem (ForInStep G):=do
 v8 mg
 let x <- elem' b ib
 let r <- l9 false x a ia (a.size-ia) 0
 match r with
 | some k=>
  if k>0 then
   if (ia+k+1 == a.size)=true then pure (ForInStep.done (some (out++a.extract ia (ia+k)++b.extract ib b.size++a.extract (ia+k) a.size),out++a.extract ia (ia+k),ia+k,ib,mg,k,bc))
   else if (ia+k == a.size)=true then pure (ForInStep.done (some (out++a.extract ia (ia+k)++a.extract (ia+k) a.size++b.extract ib b.size),out++a.extract ia (ia+k),ia+k,ib,mg,k,bc))
   else T2 a b (out++a.extract ia (ia+k)) (ia+k) ib mg k bc
  else T2 a b out ia ib mg k bc
 | _=>pure (ForInStep.done (some (out++a.extract ia a.size++b.extract ib b.size),out,ia,ib,mg,ac,bc))
section
variable {prog:aj}{w:ah}{A:aA}{E:af->aC->Prop}{s:aC}{o:Ord}{N:Nat}{f:Nat->Keyed}{kd:SortKind}{st st0:SortSt}{X Y hs:ag}{ia ib:Nat}
def uZ(h:Sm st0 st){Q:Unit->SortSt->Prop}(q:∀st',Sm st0 st'->Q Unit.unit st'):wpS (model prog w) A E s (v8 m) Q st:=by
 rw[Nt];exact fF (q _ (h.trans ⟨rfl,rfl,rfl,rfl⟩))
abbrev On (o:Ord)(f:Nat->Keyed)(X Y:ag)(n:Nat)(hs:ag)(ia ib:Nat):Prop:=Mg o X Y hs ia ib/\ia+1<X.length/\ib<Y.length/\n<=ia+ib
abbrev G2 (o:Ord)(f:Nat->Keyed)(X Y:ag)(n:Nat)(st0:SortSt):ForInStep G->SortSt->Prop:=λr st'=>Sm st0 st'/\match r with
 | .done c=>(∃r z,c=(some r,z)/\Res o f X Y r)\/∃hs ia ib mg ac bc,c=(none,fa f hs,ia,ib,mg,ac,bc)/\On o f X Y n hs ia ib
 | .yield c=>∃hs ia ib mg ac bc,c=(none,fa f hs,ia,ib,mg,ac,bc)/\On o f X Y n hs ia ib
abbrev Top (o:Ord)(X Y:ag):Prop:=∀i x,X[i]?=some x->i+1=X.length->∀y∈Y,P o y x
def Xb{α β γ κ:Type}{g:α->κ}{O:α->β->γ->Prop}{T:κ->Prop}(k:∀a b c,O a b c->T (g a)):∀q,(∃a b c,q=g a/\O a b c)->T q:=by
 rintro _ ⟨a,b,c,rfl,h⟩;exact k a b c h
def W5{α β γ δ κ:Type}{S:Prop}{g:α->β->γ->δ->κ}{O:α->β->γ->δ->Prop}{T:κ->Prop}(k:S->∀a b c d,O a b c d->T (g a b c d)):∀q,(S/\∃a b c d,q=g a b c d/\O a b c d)->T q:=by
 rintro q ⟨s,a,b,c,d,rfl,o⟩;exact k s a b c d o
def WI{α β γ δ ε κ:Type}{S:Prop}{g:α->β->γ->δ->ε->κ}{O:α->β->γ->δ->ε->Prop}{T:κ->Prop}(k:S->∀a b c d e,O a b c d e->T (g a b c d e)):∀q,(S/\∃a b c d e,q=g a b c d e/\O a b c d e)->T q:=by
 rintro q ⟨s,a,b,c,d,e,rfl,o⟩;exact k s a b c d e o
def W2{α β γ δ ε ζ κ:Type}{S:Prop}{g:α->β->γ->δ->ε->ζ->κ}{O:α->β->γ->δ->ε->ζ->Prop}{T:κ->Prop}(k:S->∀a b c d e f,O a b c d e f->T (g a b c d e f)):∀q,(S/\∃a b c d e f,q=g a b c d e f/\O a b c d e f)->T q:=by
 rintro q ⟨s,a,b,c,d,e,f,rfl,o⟩;exact k s a b c d e f o
def WW{α β γ δ ε κ ρ σ:Type}{S:Prop}{j:ρ->σ->κ}{R:ρ->Prop}{g:α->β->γ->δ->ε->κ}{O:α->β->γ->δ->ε->Prop}{T:κ->Prop}(k1:S->∀r z,R r->T (j r z))(k:S->∀a b c d e,O a b c d e->T (g a b c d e)):∀q,(S/\((∃r z,q=j r z/\R r)\/∃a b c d e,q=g a b c d e/\O a b c d e))->T q:=by
 rintro q ⟨s,⟨r,z,rfl,hr⟩|⟨a,b,c,d,e,rfl,o⟩⟩
 ·exact k1 s r z hr
 ·exact k s a b c d e o
def W9{α β γ δ ε ζ κ ρ σ:Type}{S:Prop}{j:ρ->σ->κ}{R:ρ->Prop}{g:α->β->γ->δ->ε->ζ->κ}{O:α->β->γ->δ->ε->ζ->Prop}{T:κ->Prop}(k1:S->∀r z,R r->T (j r z))(k:S->∀a b c d e f,O a b c d e f->T (g a b c d e f)):∀q,(S/\((∃r z,q=j r z/\R r)\/∃a b c d e f,q=g a b c d e f/\O a b c d e f))->T q:=by
 rintro q ⟨s,⟨r,z,rfl,hr⟩|⟨a,b,c,d,e,f,rfl,o⟩⟩
 ·exact k1 s r z hr
 ·exact k s a b c d e f o
def uz(ab:Ab o N X Y)(tp:Top o X Y)(m:Mg o X Y hs ia ib)(h:ia+1=X.length):Res o f X Y (fa f hs++(fa f Y).extract ib Y.length++(fa f X).extract ia X.length):=
 m.P8 ab λx hx y hy=>by
  obtain⟨j,hj,ej⟩:=uL hx;have:=(aK.mp ej).1;exact tp j x ej () y (eS hy)
def OX(ab:Ab o N X Y)(tp:Top o X Y)(hm:Sm st0 st){n mg x:Nat}(m:Mg o X Y hs ia ib)(ha:ia+1<X.length)(hb:ib<Y.length)(hn:n<=ia+ib)(hx:X[ia]?=some x)(hy:Y[ib]?=some y)(hxy:P o x y) :
  wpS (model prog w) A E s (T3 (fa f X) (fa f Y) (fa f hs) ia ib mg ac bc) (G2 o f X Y n st0) st:=by
 unfold T3;rw[mL,mL];refine aV (kg (mh hx) ?_);have m2:=m.wm ab hx (qg ab.sb hy hxy);rw[uw];by_cases c:ia+1+1=X.length
 ·rw[aN (by rw[c];exact bW _)];exact bf ⟨hm,.inl ⟨_,_,rfl,uz ab tp m2 c⟩⟩
 ·rw[aM (by simpa using c)];by_cases c2:(decide (ac<7) && decide (bc<7))=true
  ·rw[aN c2];exact bf ⟨hm,.inr ⟨_,_,_,_,_,_,rfl,m2,(),hb,()⟩⟩
  ·rw[aM c2];exact bf ⟨hm,⟨_,_,_,_,_,_,rfl,m2,(),hb,()⟩⟩
def O2(C:zl prog w A s o N f kd)(hk:kindOf st=kd)(ab:Ab o N X Y)(tp:Top o X Y)(hm:Sm st0 st){n mg x:Nat}(m:Mg o X Y hs ia ib)(ha:ia+1<X.length)(hb:ib<Y.length)(hn:n<=ia+ib)(hx:X[ia]?=some x)(hy:Y[ib]?=some y)(hxy:P o y x) :
  wpS (model prog w) A E s (T2 (fa f X) (fa f Y) (fa f hs) ia ib mg ac bc) (G2 o f X Y n st0) st:=by
 unfold T2;rw[mL,mL];f_are;have m2:=ab.wQ m hy (qg ab.sa hx hxy);rw[uw];by_cases c:ib+1=Y.length
 ·rw[aN (by rw[c];exact bW _)];exact bf ⟨hm,.inl ⟨_,_,rfl,m2.fin ab λx _ y hy=>by rw[drop_nil ()]at hy;cases hy⟩⟩
 ·rw[aM (by simpa using c)];refine aV (kg (mh hx) ?_);refine aV (L7 C hk (h:=λi=>Y.getD (ib+1+i) 0) (λi hi=>mh (getD_at ())) (λi hi=>?_) (D6 ab.sb _ _ ()) () λk k1 k2 k3=>?_)
  ·have:=aZ (getD_at (l:=Y) (i:=ib+1+i) ());exact⟨ab.lt x (aZ hx) _ this,ab.nb _ this⟩
  ·dsimp only;have m3:=m2.xR ab hx k () λi z hi ez=>by
    have:=k2 i hi;rw[aI,ez]at this;exact this
   by_cases c2:k>0
   ·rw[aN c2,vY,show ib+1+k-(ib+1)=k by lia,oZ];by_cases c3:ib+1+k=Y.length
    ·rw[aN (by rw[c3];exact bW _)];exact bf ⟨hm,.inl ⟨_,_,rfl,m3.fin ab λx _ y hy=>by rw[drop_nil ()]at hy;cases hy⟩⟩
    ·rw[aM (by simpa using c3)];exact OX ab tp hm m3 ha () () hx (getD_at ()) (k3 k (aS _) ())
   ·rw[aM c2];have:k=0:=()
    subst this;exact OX ab tp hm m2 ha () () hx (getD_at ()) (k3 0 (aS _) ())
def UQ(C:zl prog w A s o N f kd)(hk:kindOf st0=kd)(ab:Ab o N X Y)(tp:Top o X Y)(hm:Sm st0 st){n mg:Nat}(m:Mg o X Y hs ia ib)(ha:ia+1<X.length)(hb:ib<Y.length)(hn:n<=ia+ib) :
  wpS (model prog w) A E s (T1 (fa f X) (fa f Y) (fa f hs) ia ib mg ac bc) (G2 o f X Y n st0) st:=by
 unfold T1;rw[mL,mL];refine aV (uZ hm λst1 hm1=>?_);have hy:=getD_at (l:=Y) (i:=ib) hb;have yB:=aZ hy;f_are;refine aV (Jg C (by rw[hm1.k];exact hk) (h:=λi=>X.getD (ia+i) 0) (λi hi=>mh (getD_at ())) (λi hi=>ab.lt _ (aZ (getD_at (l:=X) (i:=ia+i) ())) _ yB) (ab.nb _ yB) (D6 ab.sa _ _ ()) () λk k1 k2 k3=>?_);dsimp only;have m3:=m.yl ab hy k () λi z hi ez=>by
  have:=k2 i hi;rw[aI,ez]at this;exact this
 by_cases c2:k>0
 ·rw[aN c2,vY,show ia+k-ia=k by lia,oZ];by_cases c3:ia+k+1=X.length
  ·rw[aN (by rw[c3];exact bW _)];exact bf ⟨hm1,.inl ⟨_,_,rfl,uz ab tp m3 c3⟩⟩
  ·rw[aM (by simpa using c3)];by_cases c4:ia+k=X.length
   ·rw[aN (by rw[c4];exact bW _)];exact bf ⟨hm1,.inl ⟨_,_,rfl,m3.fin ab λx hx y _=>by rw[drop_nil ()]at hx;cases hx⟩⟩
   ·rw[aM (by simpa using c4)];exact O2 C (by rw[hm1.k];exact hk) ab tp hm1 m3 () hb () (getD_at ()) hy (k3 k (aS _) ())
 ·rw[aM c2];have:k=0:=()
  subst this;exact O2 C (by rw[hm1.k];exact hk) ab tp hm1 m ha hb hn (getD_at ()) hy (k3 0 (aS _) ())
def T7(C:zl prog w A s o N f kd)(hk:kindOf st=kd)(ab:Ab o N X Y)(tp:Top o X Y)(h1:1<=X.length)(hy0:Y[0]?=some y0)(h0:∀x∈X,P o y0 x)
  {Q:Array Keyed->SortSt->Prop} (q:∀out st',Sm st st'->Res o f X Y out->Q out st'):wpS (model prog w) A E s (xZ (fa f X) (fa f Y)) Q st:=by
 rw[Di];kst_p;dsimp only;rw[mL,mL];have hY:=(aK.mp hy0).1;refine aV (kg (mh hy0) ?_);have m0:Mg o X Y [] 0 0:=⟨cZ _,cZ _,rfl,List.Pairwise.nil,(nofun),(nofun),(nofun)⟩;have m1:Mg o X Y [y0] 0 1:=ab.wQ m0 hy0 h0;have e1:(#[f y0]:Array Keyed)=fa f [y0]:=rfl;rw[e1];by_cases c:1=Y.length
 ·rw[aN (by rw[<- c];rfl)];exact bf (q _ _ Sm.refl (m1.fin ab λx _ y hy=>by rw[drop_nil ()]at hy;cases hy))
 ·rw[aM (by simpa using c)];by_cases c2:0+1=X.length
  ·rw[aN (by rw[<- c2];rfl)];exact bf (q _ _ Sm.refl (uz ab tp m1 c2))
  ·rw[aM (by simpa using c2)];refine aV (gM ?_);refine aV (d9 (cJ (I:=λx c st'=>Sm st st'/\∃hs ia ib mg,c=(none,fa f hs,ia,ib,mg)/\On o f X Y (x+1) hs ia ib)
    (Q:=λc st'=>Sm st st'/\∃r z,c=(some r,z)/\Res o f X Y r) ?step ?fin ⟨Sm.refl,_,_,_,_,rfl,m1,(),(),aS _⟩) ?post)
   case post=>
    rintro c st' ⟨hm,r,z,rfl,hr⟩;exact bf (q _ _ hm hr)
   case fin=>
    rintro c st' ⟨hm,hs,ia,ib,mg,rfl,m,a1,a2,a3⟩;exfalso
    lia
   case step=>
    intro x c st' _ hx hh;revert hh;revert c;refine W5 λhm hs ia ib mg ho=>?_;have m:=ho.1;have a1:=ho.2.1;have a2:=ho.2.2.1;have a3:=ho.2.2.2;clear ho;dsimp only;refine aV (d9 (cJ (I:=λx' c st''=>Sm st st''/\∃hs ia ib ac bc,c=(none,fa f hs,ia,ib,ac,bc)/\On o f X Y (x+1+min x' 1) hs ia ib)
     (Q:=λc st''=>Sm st st''/\((∃r z,c=(some r,z)/\Res o f X Y r)\/∃hs ia ib ac bc,c=(none,fa f hs,ia,ib,ac,bc)/\On o f X Y (x+1+1) hs ia ib)) ?istep ?ifin ⟨hm,_,_,_,_,_,rfl,m,a1,a2,a3⟩) ?ipost)
    case ifin=>
     rintro c st'' ⟨hm',hs,ia,ib,ac,bc,rfl,m,a1,a2,a3⟩;exact⟨hm',.inr ⟨_,_,_,_,_,rfl,m,a1,a2,()⟩⟩
    case istep=>
     intro x' c st'' _ hx' hh;revert hh;revert c;refine WI λhm' hs ia ib ac bc ho=>?_;have m:=ho.1;have a1:=ho.2.1;have a2:=ho.2.2.1;have a3:=ho.2.2.2;clear ho;dsimp only;have hy:=getD_at (l:=Y) (i:=ib) a2;have hxx:=getD_at (l:=X) (i:=ia) ();have yB:=aZ hy;have xA:=aZ hxx;have lt:=ab.lt _ xA _ yB;f_are;refine aV (kg (mh hxx) ?_);refine aV (yv C (by rw[hm'.k];exact hk) (ab.nb _ yB) (ab.na _ xA) ?_)
     cases hl:o.lt (Y.getD ib 0) (X.getD ia 0)
     ·dsimp[bw,b8];refine aV (kg (mh hxx) ?_);have m2:=m.wm ab hxx (qg ab.sb hy (P.wo hl lt));rw[uw];by_cases c3:ia+1+1=X.length
      ·rw[aN (by rw[c3];exact bW _)];exact bf ⟨hm',.inl ⟨_,_,rfl,uz ab tp m2 c3⟩⟩
      ·rw[aM (by simpa using c3)];by_cases c4:ac+1>=mg
       ·rw[aN c4];exact bf ⟨hm',.inr ⟨_,_,_,_,_,rfl,m2,(),a2,()⟩⟩
       ·rw[aM c4];exact bf ⟨hm',_,_,_,_,_,rfl,m2,(),a2,()⟩
     ·dsimp[c6];f_are;have m2:=ab.wQ m hy (qg ab.sa hxx (P.of_lt hl));rw[uw];by_cases c3:ib+1=Y.length
      ·rw[aN (by rw[c3];exact bW _)];exact bf ⟨hm',.inl ⟨_,_,rfl,m2.fin ab λx _ y hy=>by rw[drop_nil ()]at hy;cases hy⟩⟩
      ·rw[aM (by simpa using c3)];by_cases c4:bc+1>=mg
       ·rw[aN c4];exact bf ⟨hm',.inr ⟨_,_,_,_,_,rfl,m2,a1,(),()⟩⟩
       ·rw[aM c4];exact bf ⟨hm',_,_,_,_,_,rfl,m2,a1,(),()⟩
    case ipost=>
     intro c st'' hh;revert hh;revert c;refine WW (λhm' r z hr=>?_) λhm' hs ia ib ac bc ho=>?_
     ·dsimp only;exact bf ⟨hm',r,_,rfl,hr⟩
     ·have m:=ho.1;have a1:=ho.2.1;have a2:=ho.2.2.1;have a3:=ho.2.2.2;clear ho;dsimp only;kst_p;refine aV (d9 (cJ (I:=λx' c st''=>Sm st st''/\∃hs ia ib mg ac bc,c=(none,fa f hs,ia,ib,mg,ac,bc)/\On o f X Y (x+1+1) hs ia ib)
       (Q:=λc st''=>Sm st st''/\((∃r z,c=(some r,z)/\Res o f X Y r)\/∃hs ia ib mg ac bc,c=(none,fa f hs,ia,ib,mg,ac,bc)/\On o f X Y (x+1+1) hs ia ib)) ?jstep ?jfin ⟨hm',_,_,_,_,_,_,rfl,m,a1,a2,a3⟩) ?jpost)
      case jfin=>
       rintro c st3 ⟨hm3,hh⟩;exact⟨hm3,.inr hh⟩
      case jstep=>
       intro x' c st3 _ hx' hh;revert hh;revert c;refine W2 λhm3 hs ia ib mg ac bc ho=>?_;have m:=ho.1;have a1:=ho.2.1;have a2:=ho.2.2.1;have a3:=ho.2.2.2;clear ho;dsimp only;have t1:=λmg=>UQ (n:=x+1+1) (mg:=mg) (ac:=ac) (bc:=bc) (E:=E) C hk ab tp hm3 m a1 a2 a3;unfold T1 T2 T3 at t1;rw[mL,mL]at t1;refine d9 (Q:=G2 o f X Y (x+1+1) st) ?_ ?_
       ·by_cases c3:mg>1
        ·rw[aN c3];exact t1 (mg-1)
        ·rw[aM c3];exact t1 mg
       ·rintro r st4 ⟨hm4,hr⟩
        cases r with
        | done c=>exact⟨hm4,hr⟩
        | yield c=>exact⟨hm4,hr⟩
      case jpost=>
       intro c st3 hh;revert hh;revert c;refine W9 (λhm3 r z hr=>?_) λhm3 hs ia ib mg ac bc ho=>?_
       ·dsimp only;exact bf ⟨hm3,r,_,rfl,hr⟩
       ·have m:=ho.1;have a1:=ho.2.1;have a2:=ho.2.2.1;have a3:=ho.2.2.2;clear ho;dsimp only;refine aV (uZ hm3 λst4 hm4=>?_);exact bf ⟨hm4,_,_,_,_,rfl,m,a1,a2,a3⟩
end
def Dh(a b:Array Keyed):yq a b=(do
 rule "list.sort.merge-hi"
 let all_:=a.size+b.size
 let end1 (acc:Array Keyed) (p q:Nat):=a.extract 0 p++b.extract 0 q++acc.reverse
 let end2 (acc:Array Keyed) (p q:Nat):=b.extract 0 q++a.extract 0 p++acc.reverse
 let mut p:=a.size-1
 let mut q:=b.size
 let mut acc:Array Keyed:=#[<- elem' a p]
 if p == 0 then return end1 acc p q
 if q == 1 then return end2 acc p q
 let mut mg:=gallopOf (<- get)
 for _ in [0:all_] do
  let mut ca:=0
  let mut cb:=0
  for _ in [0:all_] do
   let some won <- lt' (<- elem' b (q-1)) (<- elem' a (p-1))|return end1 acc p q
   if won then
    p:=p-1;acc:=acc.push (<- elem' a p);ca:=ca+1;cb:=0
    if p == 0 then return end1 acc p q
    if ca>=mg then break
   else
    q:=q-1;acc:=acc.push (<- elem' b q);cb:=cb+1;ca:=0
    if q == 1 then return end2 acc p q
    if cb>=mg then break
  rule "list.sort.gallop"
  mg:=mg+1
  for _ in [0:all_] do
   if mg>1 then mg:=mg-1
   v8 mg
   let some t <- l9 false (<- elem' b (q-1)) a 0 p (p-1)|return end1 acc p q
   let k:=p-t
   ca:=k
   if k>0 then
    acc:=acc++(a.extract t p).reverse;p:=t
    if p == 0 then return end1 acc p q
   q:=q-1;acc:=acc.push (<- elem' b q)
   if q == 1 then return end2 acc p q
   let some t <- l9 true (<- elem' a (p-1)) b 0 q (q-1)|return end1 acc p q
   let k:=q-t
   cb:=k
   if k>0 then
    acc:=acc++(b.extract t q).reverse;q:=t
    if q == 1 then return end2 acc p q
    if q == 0 then return end1 acc p q
   p:=p-1;acc:=acc.push (<- elem' a p)
   if p == 0 then return end1 acc p q
   if ca<7 && cb<7 then break
  mg:=mg+1
  v8 mg
 unsupported "internal:list.sort.merge-bound"):=rfl
section
variable {o:Ord}{N:Nat}{f:Nat->Keyed}{A B ts:ag}{na nb:Nat}
def Ly(l:ag):(fa f l).reverse=fa f l.reverse:=by
 unfold fa;rw[List.reverse_toArray,List.map_reverse]
def wL(l:ag)(i:Nat):(fa f l).extract 0 i=fa f (l.take i):=by
 rw[vY,i6,jo]
structure Mh (o:Ord)(A B ts:ag)(na nb:Nat):Prop where
 la:na<=A.length
 lb:nb<=B.length
 len:ts.length+na+nb=A.length+B.length
 so:ts.Pairwise (P o)
 mem:∀x∈ts,x∈A\/x∈B
 ua:∀y∈A.take na,∀x∈ts,P o y x
 ub:∀y∈B.take nb,∀x∈ts,P o y x
def vf{l:ag}{y:Nat}(h:y∈l.take i):∃j,j<i/\l[j]?=some y:=by
 obtain⟨k,hk⟩:=eO h;have:=(aK.mp hk).1;rw[bB]at this;rw[dm ()]at hk;exact⟨k,(),hk⟩
def take_one{l:ag}{i x:Nat}(h:l[i]?=some x):l.take (i+1)=l.take i++[x]:=by
 obtain⟨h1,e1⟩:=aK.mp h;rw[cG h1,e1]
def Mh.wm(ab:Ab o N A B)(m:Mh o A B ts (na+1) nb){x:Nat}(hx:A[na]?=some x)(h:∀y∈B.take nb,P o y x):Mh o A B (x::ts) na nb:=by
 have la:=m.la;have len:=m.len;have ht:=take_one hx;have xin:x∈A.take (na+1):=by rw[ht];exact a_ _ (br.mpr rfl)
 refine⟨(),m.lb,by rw[bF];lia,cH.mpr ⟨λy hy=>m.ua x xin y hy,m.so⟩,λz hz=>?_,λy hy z hz=>?_,λy hy z hz=>?_⟩
 ·rcases bP.mp hz with rfl|z'
  ·exact .inl (aZ hx)
  ·exact m.mem z z'
 ·rcases bP.mp hz with rfl|z'
  ·obtain⟨j,hj,ej⟩:=vf hy;exact rR ab.sa ej hx hj
  ·exact m.ua y (by rw[ht];exact bS _ hy) z z'
 ·rcases bP.mp hz with rfl|z'
  ·exact h y hy
  ·exact m.ub y hy z z'
def Mh.LF(ab:Ab o N A B)(m:Mh o A B ts na (nb+1)){x:Nat}(hx:B[nb]?=some x)(h:∀y∈A.take na,P o y x):Mh o A B (x::ts) na nb:=by
 have lb:=m.lb;have len:=m.len;have ht:=take_one hx;have xin:x∈B.take (nb+1):=by rw[ht];exact a_ _ (br.mpr rfl)
 refine⟨m.la,(),by rw[bF];lia,cH.mpr ⟨λy hy=>m.ub x xin y hy,m.so⟩,λz hz=>?_,λy hy z hz=>?_,λy hy z hz=>?_⟩
 ·rcases bP.mp hz with rfl|z'
  ·exact .inr (aZ hx)
  ·exact m.mem z z'
 ·rcases bP.mp hz with rfl|z'
  ·exact h y hy
  ·exact m.ua y hy z z'
 ·rcases bP.mp hz with rfl|z'
  ·obtain⟨j,hj,ej⟩:=vf hy;exact rR ab.sb ej hx hj
  ·exact m.ub y (by rw[ht];exact bS _ hy) z z'
def qi{l:ag}(h:l.Pairwise (P o)){i x:Nat}(hx:l[i]?=some x)(hxy:P o x y):∀z∈l.take (i+1),P o z y:=λz hz=>by
 obtain⟨j,hj,ej⟩:=vf hz;by_cases c:j=i
 ·subst c;rw[hx]at ej;cases ej;exact hxy
 ·exact(rR h ej hx ()).trans hxy
theorem Mh.yl(ab:Ab o N A B){mb:Nat}(hy:B[mb]?=some y):∀(k:Nat) {ts:ag}{at_:Nat},Mh o A B ts (at_+k) (mb+1)->(∀i x,at_<=i->i<at_+k->A[i]?=some x->P o y x)->Mh o A B ((A.drop at_).take k++ts) at_ (mb+1)
 | 0,ts,at_,m,_=>by rw[fU];exact m
 | k+1,ts,at_,m,h=>by
  have la:=m.la;have hx:A[at_+k]?=some (A[at_+k]'()):=aH _;have m2:=Mh.wm ab (show Mh o A B ts (at_+k+1) (mb+1)from m) hx (qi ab.sb hy (h _ _ () () hx));have m3:=Mh.yl ab hy k m2 λi x h1 h2=>h i x h1 ();rw[take_snoc hx,bO];exact m3
theorem Mh.xR(ab:Ab o N A B){ma:Nat}(hy:A[ma]?=some y):∀(k:Nat) {ts:ag}{at_:Nat},Mh o A B ts (ma+1) (at_+k)->(∀i x,at_<=i->i<at_+k->B[i]?=some x->P o y x)->Mh o A B ((B.drop at_).take k++ts) (ma+1) at_
 | 0,ts,at_,m,_=>by rw[fU];exact m
 | k+1,ts,at_,m,h=>by
  have lb:=m.lb;have hx:B[at_+k]?=some (B[at_+k]'()):=aH _;have m2:=Mh.LF ab (show Mh o A B ts (ma+1) (at_+k+1)from m) hx (qi ab.sa hy (h _ _ () () hx));have m3:=Mh.xR ab hy k m2 λi x h1 h2=>h i x h1 ();rw[take_snoc hx,bO];exact m3
def wG{l:ag}(h:l.Pairwise (P o))(i:Nat):(l.take i).Pairwise (P o):=h.sublist (List.take_sublist ..)
def Mh.fin(ab:Ab o N A B)(m:Mh o A B ts na nb)(h:∀x∈A.take na,∀y∈B.take nb,P o x y):Res o f A B ((fa f A).extract 0 na++(fa f B).extract 0 nb++fa f ts):=by
 rw[wL,wL,oZ,oZ];have la:=m.la;have lb:=m.lb;have len:=m.len;refine⟨_,rfl,by rw[aU,aU,bB,bB];lia,?_,λx hx=>?_⟩
 ·rw[cA,cA];refine⟨⟨wG ab.sa _,wG ab.sb _,h⟩,m.so,λx hx y hy=>?_⟩
  rcases bu.mp hx with z|z
  ·exact m.ua x z y hy
  ·exact m.ub x z y hy
 ·rcases bu.mp hx with z|z
  ·rcases bu.mp z with z|z
   ·exact .inl (bL z)
   ·exact .inr (bL z)
  ·exact m.mem x z
def Mh.P8(ab:Ab o N A B)(m:Mh o A B ts na nb)(h:∀x∈A.take na,∀y∈B.take nb,P o y x):Res o f A B ((fa f B).extract 0 nb++(fa f A).extract 0 na++fa f ts):=by
 rw[wL,wL,oZ,oZ];have la:=m.la;have lb:=m.lb;have len:=m.len;refine⟨_,rfl,by rw[aU,aU,bB,bB];lia,?_,λx hx=>?_⟩
 ·rw[cA,cA];refine⟨⟨wG ab.sb _,wG ab.sa _,λx hx y hy=>h y hy x hx⟩,m.so,λx hx y hy=>?_⟩
  rcases bu.mp hx with z|z
  ·exact m.ub x z y hy
  ·exact m.ua x z y hy
 ·rcases bu.mp hx with z|z
  ·rcases bu.mp z with z|z
   ·exact .inr (bL z)
   ·exact .inl (bL z)
  ·exact m.mem x z
abbrev Tz (o:Ord)(X Y:ag):Prop:=∀y,Y[0]?=some y->∀x∈X,P o y x
def sR(ab:Ab o N A B)(bt:Tz o A B)(m:Mh o A B ts na nb)(h:nb=1):Res o f A B ((fa f B).extract 0 nb++(fa f A).extract 0 na++fa f ts):=
 m.P8 ab λx hx y hy=>by
  obtain⟨j,hj,ej⟩:=vf hy;have:j=0:=()
  subst this;exact bt y ej x (bL hx)
def Mh.BV(ab:Ab o N A B)(m:Mh o A B ts na nb)(h:na=0\/nb=0):Res o f A B ((fa f A).extract 0 na++(fa f B).extract 0 nb++fa f ts):=
 m.fin ab λx hx y hy=>by
  rcases h with rfl|rfl
  ·rw[fU]at hx;cases hx
  ·rw[fU]at hy;cases hy
def w4(l:ag)(x:Nat):(fa f l.reverse).push (f x)=fa f (x::l).reverse:=by rw[uw,dX]
def IY(l m:ag):fa f l.reverse++(fa f m).reverse=fa f (m++l).reverse:=by rw[Ly,oZ,iR]
def tY(l:ag):(fa f l.reverse).reverse=fa f l:=by rw[Ly,iE]
end
meta abbrev H:=Option (Array Keyed)×Nat×Nat×Array Keyed×Nat×Nat×Nat
abbrev U3 (a b out:Array Keyed)(na nb mg ac bc:Nat):StateT SortSt Sem (ForInStep H):=do
 let x <- elem' a (na-1)
 if (na-1 == 0)=true then pure (ForInStep.done (some (a.extract 0 (na-1)++b.extract 0 nb++(out.push x).reverse),na-1,nb,out.push x,mg,ac,bc))
 else if (decide (ac<7) && decide (bc<7))=true then pure (ForInStep.done (none,na-1,nb,out.push x,mg,ac,bc))
 else pure (ForInStep.yield (none,na-1,nb,out.push x,mg,ac,bc))
abbrev U2 (a b out:Array Keyed)(na nb mg ac bc:Nat):StateT SortSt Sem (ForInStep H):=do
 let x <- elem' b (nb-1)
 if (nb-1 == 1)=true then pure (ForInStep.done (some (b.extract 0 (nb-1)++a.extract 0 na++(out.push x).reverse),na,nb-1,out.push x,mg,ac,bc))
 else
  let y <- elem' a (na-1)
  let r <- l9 true y b 0 (nb-1) (nb-1-1)
  match r with
  | some t=>
   if nb-1-t>0 then
    if (t == 1)=true then pure (ForInStep.done (some (b.extract 0 t++a.extract 0 na++(out.push x++(b.extract t (nb-1)).reverse).reverse),na,t,out.push x++(b.extract t (nb-1)).reverse,mg,ac,nb-1-t))
    else if (t == 0)=true then pure (ForInStep.done (some (a.extract 0 na++b.extract 0 t++(out.push x++(b.extract t (nb-1)).reverse).reverse),na,t,out.push x++(b.extract t (nb-1)).reverse,mg,ac,nb-1-t))
    else U3 a b (out.push x++(b.extract t (nb-1)).reverse) na t mg ac (nb-1-t)
   else U3 a b (out.push x) na (nb-1) mg ac (nb-1-t)
  | _=>pure (ForInStep.done (some (a.extract 0 na++b.extract 0 (nb-1)++(out.push x).reverse),na,nb-1,out.push x,mg,ac,bc))
abbrev U1 (a b out:Array Keyed)(na nb mg ac bc:Nat):StateT SortSt Sem (ForInStep H):=do
 v8 mg
 let x <- elem' b (nb-1)
 let r <- l9 false x a 0 na (na-1)
 match r with
 | some t=>
  if na-t>0 then
   if (t == 0)=true then pure (ForInStep.done (some (a.extract 0 t++b.extract 0 nb++(out++(a.extract t na).reverse).reverse),t,nb,out++(a.extract t na).reverse,mg,na-t,bc))
   else U2 a b (out++(a.extract t na).reverse) t nb mg (na-t) bc
  else U2 a b out na nb mg (na-t) bc
 | _=>pure (ForInStep.done (some (a.extract 0 na++b.extract 0 nb++out.reverse),na,nb,out,mg,ac,bc))
section
variable {prog:aj}{w:ah}{A:aA}{E:af->aC->Prop}{s:aC}{o:Ord}{N:Nat}{f:Nat->Keyed}{kd:SortKind}{st st0:SortSt}{X Y ts:ag}{na nb:Nat}
abbrev Oh (o:Ord)(X Y:ag)(n:Nat)(ts:ag)(na nb:Nat):Prop:=Mh o X Y ts na nb/\1<=na/\2<=nb/\na+nb+n<=X.length+Y.length
abbrev H2 (o:Ord)(f:Nat->Keyed)(X Y:ag)(n:Nat)(st0:SortSt):ForInStep H->SortSt->Prop:=λr st'=>Sm st0 st'/\match r with
 | .done c=>(∃r z,c=(some r,z)/\Res o f X Y r)\/∃ts na nb mg ac bc,c=(none,na,nb,fa f ts.reverse,mg,ac,bc)/\Oh o X Y n ts na nb
 | .yield c=>∃ts na nb mg ac bc,c=(none,na,nb,fa f ts.reverse,mg,ac,bc)/\Oh o X Y n ts na nb
def Pk(ab:Ab o N X Y)(hm:Sm st0 st){n mg x:Nat}(m:Mh o X Y ts (na+1) (nb+1))(hb:1<=nb)(hn:na+1+(nb+1)+n<=X.length+Y.length)(hx:X[na]?=some x)(hy:Y[nb]?=some y)(hxy:P o y x) :
  wpS (model prog w) A E s (U3 (fa f X) (fa f Y) (fa f ts.reverse) (na+1) (nb+1) mg ac bc) (H2 o f X Y n st0) st:=by
 unfold U3;rw[show na+1-1=na by lia];refine aV (kg (mh hx) ?_);have m2:=m.wm ab hx (qi ab.sb hy hxy);rw[w4,tY];by_cases c:na=0
 ·rw[aN (by rw[c];rfl)];exact bf ⟨hm,.inl ⟨_,_,rfl,m2.BV ab (.inl c)⟩⟩
 ·rw[aM (by simpa using c)];by_cases c2:(decide (ac<7) && decide (bc<7))=true
  ·rw[aN c2];exact bf ⟨hm,.inr ⟨_,_,_,_,_,_,rfl,m2,(),(),()⟩⟩
  ·rw[aM c2];exact bf ⟨hm,⟨_,_,_,_,_,_,rfl,m2,(),(),()⟩⟩
def Pp(C:zl prog w A s o N f kd)(hk:kindOf st=kd)(ab:Ab o N X Y)(bt:Tz o X Y)(hm:Sm st0 st){n mg x:Nat}(m:Mh o X Y ts (na+1) (nb+1))(hb:1<=nb)(hn:na+1+(nb+1)+n<=X.length+Y.length)(hx:X[na]?=some x)(hy:Y[nb]?=some y)(hxy:P o x y) :
  wpS (model prog w) A E s (U2 (fa f X) (fa f Y) (fa f ts.reverse) (na+1) (nb+1) mg ac bc) (H2 o f X Y n st0) st:=by
 unfold U2;rw[show nb+1-1=nb by lia,show na+1-1=na by lia];f_are;have m2:=m.LF ab hy (qi ab.sa hx hxy);have lb:=m.lb;rw[w4,tY];by_cases c:nb=1
 ·rw[aN (by rw[c];rfl)];exact bf ⟨hm,.inl ⟨_,_,rfl,sR ab bt m2 c⟩⟩
 ·rw[aM (by simpa using c)];refine aV (kg (mh hx) ?_);refine aV (L7 C hk (h:=λi=>Y.getD (0+i) 0) (λi hi=>mh (getD_at ())) (λi hi=>?_) (D6 ab.sb _ _ ()) () λt t1 t2 t3=>?_)
  ·have:=aZ (getD_at (l:=Y) (i:=0+i) ());exact⟨ab.lt x (aZ hx) _ this,ab.nb _ this⟩
  ·dsimp only;have m3:=Mh.xR ab hx (nb-t) (at_:=t) (by rw[show t+(nb-t)=nb by lia];exact m2) λi z hi1 hi2 ez=>by
    have:=t3 i hi1 ();rw[fB,aI (l:=Y),ez]at this;exact this
   by_cases c2:nb-t>0
   ·rw[aN c2,vY Y t nb,IY,tY];by_cases c3:t=1
    ·rw[aN (by rw[c3];rfl)];exact bf ⟨hm,.inl ⟨_,_,rfl,sR ab bt m3 c3⟩⟩
    ·rw[aM (by simpa using c3)];by_cases c4:t=0
     ·rw[aN (by rw[c4];rfl)];exact bf ⟨hm,.inl ⟨_,_,rfl,m3.BV ab (.inr c4)⟩⟩
     ·rw[aM (by simpa using c4)];obtain⟨u,rfl⟩:∃u,t=u+1:=⟨t-1,()⟩;have:=t2 u ();rw[fB]at this;exact Pk ab hm m3 () () hx (getD_at ()) this
   ·rw[aM c2];have:t=nb:=()
    subst this;obtain⟨u,rfl⟩:∃u,t=u+1:=⟨t-1,()⟩;have:=t2 u ();rw[fB]at this;exact Pk ab hm m2 () () hx (getD_at ()) this
def To(C:zl prog w A s o N f kd)(hk:kindOf st0=kd)(ab:Ab o N X Y)(bt:Tz o X Y)(hm:Sm st0 st){n mg:Nat}(m:Mh o X Y ts (na+1) (nb+1))(hb:1<=nb)(hn:na+1+(nb+1)+n<=X.length+Y.length) :
  wpS (model prog w) A E s (U1 (fa f X) (fa f Y) (fa f ts.reverse) (na+1) (nb+1) mg ac bc) (H2 o f X Y n st0) st:=by
 unfold U1;refine aV (uZ hm λst1 hm1=>?_);have lb:=m.lb;have la:=m.la;rw[show nb+1-1=nb by lia,show na+1-1=na by lia];have hy:=getD_at (l:=Y) (i:=nb) ();have yB:=aZ hy;f_are;refine aV (Jg C (by rw[hm1.k];exact hk) (h:=λi=>X.getD (0+i) 0) (λi hi=>mh (getD_at ())) (λi hi=>ab.lt _ (aZ (getD_at (l:=X) (i:=0+i) ())) _ yB) (ab.nb _ yB) (D6 ab.sa _ _ ()) () λt t1 t2 t3=>?_);dsimp only;have m3:=Mh.yl ab hy (na+1-t) (at_:=t) (by rw[show t+(na+1-t)=na+1 by lia];exact m) λi z hi1 hi2 ez=>by
  have:=t3 i hi1 ();rw[fB,aI (l:=X),ez]at this;exact this
 by_cases c2:na+1-t>0
 ·rw[aN c2,vY X t (na+1),IY,tY];by_cases c4:t=0
  ·rw[aN (by rw[c4];rfl)];exact bf ⟨hm1,.inl ⟨_,_,rfl,m3.BV ab (.inl c4)⟩⟩
  ·rw[aM (by simpa using c4)];obtain⟨u,rfl⟩:∃u,t=u+1:=⟨t-1,()⟩;have:=t2 u ();rw[fB]at this;exact Pp C (by rw[hm1.k];exact hk) ab bt hm1 m3 hb () (getD_at ()) hy this
 ·rw[aM c2];have:t=na+1:=()
  subst this;have:=t2 na ();rw[fB]at this;exact Pp C (by rw[hm1.k];exact hk) ab bt hm1 m hb hn (getD_at ()) hy this
def T8(C:zl prog w A s o N f kd)(hk:kindOf st=kd)(ab:Ab o N X Y)(tp:Top o X Y)(bt:Tz o X Y)(h1:1<=X.length)(h2:1<=Y.length)
  {Q:Array Keyed->SortSt->Prop} (q:∀out st',Sm st st'->Res o f X Y out->Q out st'):wpS (model prog w) A E s (yq (fa f X) (fa f Y)) Q st:=by
 rw[Dh];kst_p;dsimp only;rw[mL,mL];have hx0:=getD_at (l:=X) (i:=X.length-1) ();refine aV (kg (mh hx0) ?_);have m0:Mh o X Y [] (X.length-1+1) Y.length:=⟨(),aS _,by rw[fJ];lia,List.Pairwise.nil,(nofun),(λ_ _ _ h=>nomatch h),(λ_ _ _ h=>nomatch h)⟩;have m1:=m0.wm ab hx0 λy hy=>tp _ _ hx0 () y (bL hy);obtain⟨x0,ex0⟩:∃x0,x0=X.getD (X.length-1) 0:=⟨_,rfl⟩;rw[<- ex0]at m1 ⊢;have e1:(#[f x0]:Array Keyed)=fa f [x0].reverse:=rfl;rw[e1,tY];by_cases c:X.length-1=0
 ·rw[aN (by rw[c];rfl)];exact bf (q _ _ Sm.refl (m1.BV ab (.inl c)))
 ·rw[aM (by simpa using c)];by_cases c2:Y.length=1
  ·rw[aN (by rw[c2];rfl)];exact bf (q _ _ Sm.refl (sR ab bt m1 c2))
  ·rw[aM (by simpa using c2)];refine aV (gM ?_);refine aV (d9 (cJ (I:=λx c st'=>Sm st st'/\∃ts na nb mg,c=(none,na,nb,fa f ts.reverse,mg)/\Oh o X Y (x+1) ts na nb)
    (Q:=λc st'=>Sm st st'/\∃r z,c=(some r,z)/\Res o f X Y r) ?step ?fin ⟨Sm.refl,_,_,_,_,rfl,m1,(),(),()⟩) ?post)
   case post=>
    rintro c st' ⟨hm,r,z,rfl,hr⟩;exact bf (q _ _ hm hr)
   case fin=>
    rintro c st' ⟨hm,ts,na,nb,mg,rfl,m,a1,a2,a3⟩;exfalso
    lia
   case step=>
    intro x c st' _ hx hh;revert hh;revert c;refine W5 λhm ts na nb mg ho=>?_;have m:=ho.1;have a1:=ho.2.1;have a2:=ho.2.2.1;have a3:=ho.2.2.2;clear ho;dsimp only;refine aV (d9 (cJ (I:=λx' c st''=>Sm st st''/\∃ts na nb ac bc,c=(none,na,nb,fa f ts.reverse,ac,bc)/\Oh o X Y (x+1+min x' 1) ts na nb)
     (Q:=λc st''=>Sm st st''/\((∃r z,c=(some r,z)/\Res o f X Y r)\/∃ts na nb ac bc,c=(none,na,nb,fa f ts.reverse,ac,bc)/\Oh o X Y (x+1+1) ts na nb)) ?istep ?ifin ⟨hm,_,_,_,_,_,rfl,m,a1,a2,a3⟩) ?ipost)
    case ifin=>
     rintro c st'' ⟨hm',ts,na,nb,ac,bc,rfl,m,a1,a2,a3⟩;exact⟨hm',.inr ⟨_,_,_,_,_,rfl,m,a1,a2,()⟩⟩
    case istep=>
     intro x' c st'' _ hx' hh;revert hh;revert c;refine WI λhm' ts na nb ac bc ho=>?_;have m:=ho.1;have a1:=ho.2.1;have a2:=ho.2.2.1;have a3:=ho.2.2.2;clear ho;dsimp only;obtain⟨u,rfl⟩:∃u,na=u+1:=⟨na-1,()⟩;obtain⟨v,rfl⟩:∃v,nb=v+1:=⟨nb-1,()⟩;have la:=m.la;have lb:=m.lb;rw[show u+1-1=u by lia,show v+1-1=v by lia];have hy:=getD_at (l:=Y) (i:=v) ();have hxx:=getD_at (l:=X) (i:=u) ();have yB:=aZ hy;have xA:=aZ hxx;have lt:=ab.lt _ xA _ yB;f_are;refine aV (kg (mh hxx) ?_);refine aV (yv C (by rw[hm'.k];exact hk) (ab.nb _ yB) (ab.na _ xA) ?_)
     cases hl:o.lt (Y.getD v 0) (X.getD u 0)
     ·dsimp[bw,b8];f_are;have m2:=m.LF ab hy (qi ab.sa hxx (P.wo hl lt));rw[w4,tY];by_cases c3:v=1
      ·rw[aN (by rw[c3];rfl)];exact bf ⟨hm',.inl ⟨_,_,rfl,sR ab bt m2 c3⟩⟩
      ·rw[aM (by simpa using c3)];by_cases c4:bc+1>=mg
       ·rw[aN c4];exact bf ⟨hm',.inr ⟨_,_,_,_,_,rfl,m2,a1,(),()⟩⟩
       ·rw[aM c4];exact bf ⟨hm',_,_,_,_,_,rfl,m2,a1,(),()⟩
     ·dsimp[c6];refine aV (kg (mh hxx) ?_);have m2:=m.wm ab hxx (qi ab.sb hy (P.of_lt hl));rw[w4,tY];by_cases c3:u=0
      ·rw[aN (by rw[c3];rfl)];exact bf ⟨hm',.inl ⟨_,_,rfl,m2.BV ab (.inl c3)⟩⟩
      ·rw[aM (by simpa using c3)];by_cases c4:ac+1>=mg
       ·rw[aN c4];exact bf ⟨hm',.inr ⟨_,_,_,_,_,rfl,m2,(),a2,()⟩⟩
       ·rw[aM c4];exact bf ⟨hm',_,_,_,_,_,rfl,m2,(),a2,()⟩
    case ipost=>
     intro c st'' hh;revert hh;revert c;refine WW (λhm' r z hr=>?_) λhm' ts na nb ac bc ho=>?_
     ·dsimp only;exact bf ⟨hm',r,_,rfl,hr⟩
     ·have m:=ho.1;have a1:=ho.2.1;have a2:=ho.2.2.1;have a3:=ho.2.2.2;clear ho;dsimp only;kst_p;refine aV (d9 (cJ (I:=λx' c st''=>Sm st st''/\∃ts na nb mg ac bc,c=(none,na,nb,fa f ts.reverse,mg,ac,bc)/\Oh o X Y (x+1+1) ts na nb)
       (Q:=λc st''=>Sm st st''/\((∃r z,c=(some r,z)/\Res o f X Y r)\/∃ts na nb mg ac bc,c=(none,na,nb,fa f ts.reverse,mg,ac,bc)/\Oh o X Y (x+1+1) ts na nb)) ?jstep ?jfin ⟨hm',_,_,_,_,_,_,rfl,m,a1,a2,a3⟩) ?jpost)
      case jfin=>
       rintro c st3 ⟨hm3,hh⟩;exact⟨hm3,.inr hh⟩
      case jstep=>
       intro x' c st3 _ hx' hh;revert hh;revert c;refine W2 λhm3 ts na nb mg ac bc ho=>?_;have m:=ho.1;have a1:=ho.2.1;have a2:=ho.2.2.1;have a3:=ho.2.2.2;clear ho;dsimp only;obtain⟨u,rfl⟩:∃u,na=u+1:=⟨na-1,()⟩;obtain⟨v,rfl⟩:∃v,nb=v+1:=⟨nb-1,()⟩;have t1:=λmg=>To (n:=x+1+1) (mg:=mg) (ac:=ac) (bc:=bc) (E:=E) C hk ab bt hm3 m () a3;unfold U1 U2 U3 at t1;refine d9 (Q:=H2 o f X Y (x+1+1) st) ?_ ?_
       ·by_cases c3:mg>1
        ·rw[aN c3];exact t1 (mg-1)
        ·rw[aM c3];exact t1 mg
       ·rintro r st4 ⟨hm4,hr⟩
        cases r with
        | done c=>exact⟨hm4,hr⟩
        | yield c=>exact⟨hm4,hr⟩
      case jpost=>
       intro c st3 hh;revert hh;revert c;refine W9 (λhm3 r z hr=>?_) λhm3 ts na nb mg ac bc ho=>?_
       ·dsimp only;exact bf ⟨hm3,r,_,rfl,hr⟩
       ·have m:=ho.1;have a1:=ho.2.1;have a2:=ho.2.2.1;have a3:=ho.2.2.2;clear ho;dsimp only;refine aV (uZ hm3 λst4 hm4=>?_);exact bf ⟨hm4,_,_,_,_,rfl,m,a1,a2,a3⟩
end
def CY(i:Nat):mergeAt' i=(do
 let s <- get
 let(some (a1,n1,pw),some (a2,n2,_)):=((pendingOf s)[i]?,(pendingOf s)[i+1]?)|unsupported "internal:list.sort.pending"
 set (setPending s (((pendingOf s).setIfInBounds i (a1,n1+n2,pw)).eraseIdxIfInBounds (i+1)))
 let some k <- l9 false (<- elem' (arrOf s) a2) (arrOf s) a1 n1 0|return false
 let(a1,n1):=(a1+k,n1-k)
 if n1 == 0 then return true
 let some n2 <- l9 true (<- elem' (arrOf s) (a1+n1-1)) (arrOf s) a2 n2 (n2-1)|return false
 if n2 == 0 then return true
 let x:=(arrOf s).extract a1 a2
 let y:=(arrOf s).extract a2 (a2+n2)
 let both <- if n1<=n2 then xZ x y else yq x y
 modify λs=>setArr s (both.toList.zipIdx.foldl (λa (p,j)=>a.setIfInBounds (a1+j) p) (arrOf s))
 return (failedOf (<- get)).isNone):=rfl
abbrev seg (g:Nat->Nat)(a n:Nat):ag:=(List.range n).map λi=>g (a+i)
section
variable {o:Ord}{N:Nat}{f:Nat->Keyed}{g:Nat->Nat}
def nS(g:Nat->Nat)(a n:Nat):(seg g a n).length=n:=by unfold seg;rw[aL,cP]
def qA{a n i:Nat}(h:i<n):(seg g a n)[i]?=some (g (a+i)):=by unfold seg;rw[aR,cj h];rfl
def o8{a n x:Nat}(h:x∈seg g a n):∃i,i<n/\x=g (a+i):=by
 obtain⟨i,hi,rfl⟩:=bH.mp h;exact⟨i,cV.mp hi,rfl⟩
def LO{a n:Nat}(h:So o g a (a+n)):(seg g a n).Pairwise (P o):=by
 rw[dN];intro i j hi hj hij;rw[nS]at hi hj;have e1:=qA (g:=g) (a:=a) hi;have e2:=qA (g:=g) (a:=a) hj;rw[aH (by rw[nS];exact hi)]at e1;rw[aH (by rw[nS];exact hj)]at e2;rw[aW e1,aW e2];exact h _ _ () () ()
def FT{arr:Array Keyed}(hs:arr.size=N)(hg:∀i,i<N->arr[i]?=some (f (g i))){a n:Nat}(h:a+n<=N):arr.extract a (a+n)=fa f (seg g a n):=by
 apply Array.ext_getElem?;intro i;rw[KW,Array.getElem?_extract];by_cases c:i<n
 ·rw[aN (),qA c,hg _ ()];rfl
 ·rw[aM (),bG (by rw[nS];lia)];rfl
theorem zh{α:Type}(b:Nat):∀(l:List α) (n:Nat) (arr:Array α),((l.zipIdx n).foldl (λa (p,j)=>a.setIfInBounds (b+j) p) arr).size=arr.size
 | [],_,_=>rfl
 | x::l,n,arr=>by
  rw[ji,jv,zh b l (n+1)];exact Array.size_setIfInBounds ..
theorem BL{α:Type}(b:Nat):∀(l:List α) (n:Nat) (arr:Array α) (k:Nat),b+n+l.length<=arr.size->((l.zipIdx n).foldl (λa (p,j)=>a.setIfInBounds (b+j) p) arr)[k]?=if b+n<=k/\k<b+n+l.length then l[k-(b+n)]? else arr[k]?
 | [],n,arr,k,h=>by rw[aM (by rw[fJ];lia)];rfl
 | x::l,n,arr,k,h=>by
  rw[bF]at h;rw[ji,jv,BL b l (n+1) _ k (by rw[Array.size_setIfInBounds];lia),bF];by_cases c:k=b+n
  ·subst c;rw[aM (),aN (),fZ];show(arr.setIfInBounds (b+n) x)[b+n]?=some x;rw[Array.getElem?_setIfInBounds_self_of_lt ()]
  ·by_cases c2:b+n<=k/\k<b+n+(l.length+1)
   ·rw[aN (),aN c2,show k-(b+n)=k-(b+(n+1))+1 by lia,List.getElem?_cons_succ]
   ·rw[aM (),aM c2]
    skip
    rw[Array.getElem?_setIfInBounds_ne ()]
end
section
variable {prog:aj}{w:ah}{A:aA}{E:af->aC->Prop}{s:aC}{o:Ord}{N:Nat}{f:Nat->Keyed}{kd:SortKind}{g:Nat->Nat}{st:SortSt}
def NF{Q:PUnit->SortSt->Prop}(h:Q ⟨⟩ st'):wpS (model prog w) A E s (set st':StateT SortSt Sem PUnit) Q st:=by
 unfold wpS;rw[StateT.run_set];exact aJ ⟨rfl,h⟩
def Tj(C:zl prog w A s o N f kd){l1:List (Nat×Nat×Nat)}{sa na nb pw pv:Nat}(h:Sg N f kd g (l1++(sa,na,pw)::(sa+na,nb,pv)::l2).toArray st)(ha:1<=na)(hb:1<=nb)(hN:sa+na+nb<=N)
  (c1:Cl g sa (sa+na)) (s1:So o g sa (sa+na)) (c2:Cl g (sa+na) (sa+na+nb)) (s2:So o g (sa+na) (sa+na+nb))
  {Q:Bool->SortSt->Prop} (q:∀g' st',Sg N f kd g' (l1++(sa,na+nb,pw)::l2).toArray st'->Rn o g g' sa (sa+na+nb)->Q true st'):wpS (model prog w) A E s (mergeAt' l1.length) Q st:=by
 rw[CY];refine aV (gM ?_);have e1:(pendingOf st)[l1.length]?=some (sa,na,pw):=by rw[h.pend];simp
 have e2:(pendingOf st)[l1.length+1]?=some (sa+na,nb,pv):=by rw[h.pend];simp
 have e3:((pendingOf st).setIfInBounds l1.length (sa,na+nb,pw)).eraseIdxIfInBounds (l1.length+1)=(l1++(sa,na+nb,pw)::l2).toArray:=by
  rw[h.pend,List.setIfInBounds_toArray,eZ];congr 1;rw[di _ _ (aS _),fZ,List.eraseIdx_append_of_length_le (),show l1.length+1-l1.length=1 by lia];rfl
 rw[e1,e2];dsimp only;rw[e3];refine aV (NF ?_);have h':Sg N f kd g (l1++(sa,na+nb,pw)::l2).toArray (setPending st (l1++(sa,na+nb,pw)::l2).toArray):=⟨h.size,h.get,h.lt,h.kind,h.failed,rfl⟩;obtain⟨st1,hst1⟩:∃st1,st1=setPending st (l1++(sa,na+nb,pw)::l2).toArray:=⟨_,rfl⟩;rw[<- hst1]at h' ⊢;refine aV (kg (h.get (sa+na) ()) ?_);have b0:=c2 (sa+na) () ();refine aV (Jg C h'.kind (h:=λi=>g (sa+i)) (λi hi=>h.get _ ()) (λi hi=>by have:=c1 (sa+i) () ();lia) () (λi j _ a b=>s1 _ _ () () ()) () λk k1 k2 k3=>?_);dsimp only;by_cases cz:na-k=0
 ·rw[aN (by rw[cz];rfl)];refine bf (q g st1 h' ⟨λ_ _=>rfl,λi a b=>?_,λi j a b c=>?_⟩)
  ·by_cases d:i<sa+na
   ·have:=c1 i a d;lia
   ·have:=c2 i () b;lia
  ·by_cases d:j<sa+na
   ·exact s1 i j a b d
   ·by_cases d2:sa+na<=i
    ·exact s2 i j d2 b c
    ·have r:=k2 (i-sa) ();rw[show sa+(i-sa)=i by lia]at r;by_cases d3:j=sa+na
     ·subst d3;exact r
     ·exact r.trans (s2 _ _ () () c)
 ·rw[aM (by simpa using cz)];have hlast:sa+k+(na-k)-1=sa+na-1:=()
  rw[hlast];refine aV (kg (h.get (sa+na-1) ()) ?_);have a0:=c1 (sa+na-1) () ();refine aV (L7 C h'.kind (h:=λi=>g (sa+na+i)) (λi hi=>h.get _ ()) (λi hi=>by have:=c2 (sa+na+i) () ();lia) (λi j _ a b=>s2 _ _ () () ()) () λt t1 t2 t3=>?_);dsimp only;by_cases cy:t=0
  ·rw[aN (by rw[cy];rfl)];subst cy;refine bf (q g st1 h' ⟨λ_ _=>rfl,λi a b=>?_,λi j a b c=>?_⟩)
   ·by_cases d:i<sa+na
    ·have:=c1 i a d;lia
    ·have:=c2 i () b;lia
   ·by_cases d:j<sa+na
    ·exact s1 i j a b d
    ·by_cases d2:sa+na<=i
     ·exact s2 i j d2 b c
     ·have r:=t3 (j-(sa+na)) () ();rw[show sa+na+(j-(sa+na))=j by lia]at r;by_cases d3:i=sa+na-1
      ·subst d3;exact r
      ·exact(s1 i (sa+na-1) a () ()).trans r
  ·rw[aM (by simpa using cy)];have x1:(arrOf st).extract (sa+k) (sa+na)=fa f (seg g (sa+k) (na-k)):=by
    have:=FT (f:=f) (g:=g) h.size h.get (a:=sa+k) (n:=na-k) ()
    rwa [show sa+k+(na-k)=sa+na by lia]at this
   have x2:(arrOf st).extract (sa+na) (sa+na+t)=fa f (seg g (sa+na) t):=FT h.size h.get ();rw[x1,x2];have sx:So o g (sa+k) (sa+k+(na-k)):=λi j a b c=>s1 i j () b ();have sy:So o g (sa+na) (sa+na+t):=λi j a b c=>s2 i j a b ();have ab:Ab o N (seg g (sa+k) (na-k)) (seg g (sa+na) t):={
    sa:=LO sx
    sb:=LO sy
    lt:=λx hx y hy=>by
     obtain⟨i,hi,rfl⟩:=o8 hx;obtain⟨j,hj,rfl⟩:=o8 hy;have:=c1 (sa+k+i) () ();have:=c2 (sa+na+j) () ()
     lia
    nb:=λy hy=>by
     obtain⟨j,hj,rfl⟩:=o8 hy;exact h.lt _ ()
    na:=λy hy=>by
     obtain⟨j,hj,rfl⟩:=o8 hy;exact h.lt _ ()}
   have tp:Top o (seg g (sa+k) (na-k)) (seg g (sa+na) t):=λi x hx hi y hy=>by
    rw[nS]at hi;rw[qA ()]at hx
    cases hx
    obtain⟨j,hj,rfl⟩:=o8 hy;rw[show sa+k+i=sa+na-1 by lia];exact t2 j hj
   have bt:Tz o (seg g (sa+k) (na-k)) (seg g (sa+na) t):=λy hy x hx=>by
    rw[qA ()]at hy
    cases hy
    obtain⟨i,hi,rfl⟩:=o8 hx;have:=k3 (k+i) () ()
    rwa [<- iC]at this
   have fin:∀out st2,Sm st1 st2->Res o f (seg g (sa+k) (na-k)) (seg g (sa+na) t) out->wpS (model prog w) A E s (do
     modify λs=>setArr s (out.toList.zipIdx.foldl (λa (p,j)=>a.setIfInBounds (sa+k+j) p) (arrOf s))
     let s <- get
     pure (failedOf s).isNone) Q st2:=by
    rintro out st2 hm ⟨hs,rfl,hlen,hso,hmem⟩;rw[nS,nS]at hlen;refine aV (fF (aV (gM ?_)));have hf:(failedOf st2)=none:=by rw[hm.f];exact h'.failed
    have hmx:∀j x,hs[j]?=some x->(∃i,i<na-k/\x=g (sa+k+i))\/∃i,i<t/\x=g (sa+na+i):=λj x e=>by
     rcases hmem x (aZ e)with z|z
     ·exact .inl (o8 z)
     ·exact .inr (o8 z)
    have ez:(fa f hs).toList=hs.map f:=by unfold fa;rfl
    have hsz:sa+k+0+(hs.map f).length<=(arrOf st2).size:=by rw[aL,hlen,hm.a,h'.size];lia
    refine bf ?_
    skip
    rw[hf];refine q (λi=>if sa+k<=i/\i<sa+k+(na-k+t)then hs.getD (i-(sa+k)) 0 else g i) _ ⟨?_,λi hi=>?_,λi hi=>?_,by rw[show kindOf (setArr st2 _)=kindOf st2 from rfl,hm.k];exact h'.kind,hf,by rw[show pendingOf (setArr st2 _)=pendingOf st2 from rfl,hm.p];exact h'.pend⟩ ?_
    ·have:=zh (sa+k) (fa f hs).toList 0 (arrOf st2);rw[hm.a,h'.size]at this;rw[<- this,<- hm.a]
    ·skip
     rw[ez,BL _ _ _ _ _ hsz,aL,hlen,hm.a];by_cases d:sa+k<=i/\i<sa+k+(na-k+t)
     ·rw[aN (),aN d,aR,Nat.add_zero,getD_at (l:=hs) ()];rfl
     ·rw[aM (),aM d];exact h'.get i hi
    ·by_cases d:sa+k<=i/\i<sa+k+(na-k+t)
     ·rw[aN d]
      rcases hmx _ _ (getD_at (l:=hs) (i:=i-(sa+k)) ())with⟨j,hj,e⟩|⟨j,hj,e⟩
      ·rw[e];exact h.lt _ ()
      ·rw[e];exact h.lt _ ()
     ·rw[aM d];exact h.lt i hi
    ·have gin:∀i,sa+k<=i->i<sa+na+t->(if sa+k<=i/\i<sa+k+(na-k+t)then hs.getD (i-(sa+k)) 0 else g i)=hs.getD (i-(sa+k)) 0:=λi a b=>aN ();have gout:∀i,i<sa+k\/sa+na+t<=i->(if sa+k<=i/\i<sa+k+(na-k+t)then hs.getD (i-(sa+k)) 0 else g i)=g i:=λi a=>aM ();refine⟨λi hi=>gout i (),λi a b=>?_,λi j a b c=>?_⟩
     ·by_cases d:sa+k<=i/\i<sa+na+t
      ·skip
       rw[gin i d.1 d.2]
       rcases hmx _ _ (getD_at (l:=hs) (i:=i-(sa+k)) ())with⟨j,hj,e⟩|⟨j,hj,e⟩
       ·rw[e];have:=c1 (sa+k+j) () ();lia
       ·rw[e];have:=c2 (sa+na+j) () ();lia
      ·skip
       rw[gout i ()];by_cases d2:i<sa+na
       ·have:=c1 i a d2;lia
       ·have:=c2 i () b;lia
     ·skip
      by_cases d1:i<sa+k
      ·rw[gout i (.inl d1)];have r:=k2 (i-sa) ();rw[show sa+(i-sa)=i by lia]at r;by_cases d2:j<sa+k
       ·rw[gout j (.inl d2)];exact s1 i j a b ()
       ·by_cases d3:j<sa+na+t
        ·rw[gin j () d3]
         rcases hmx _ _ (getD_at (l:=hs) (i:=j-(sa+k)) ())with⟨v,hv,e⟩|⟨v,hv,e⟩
         ·rw[e];exact s1 _ _ a () ()
         ·rw[e];by_cases d4:v=0
          ·subst d4;exact r
          ·exact r.trans (s2 _ _ () () ())
        ·rw[gout j ()];exact r.trans (s2 _ _ () () c)
      ·by_cases d2:i<sa+na+t
       ·rw[gin i () d2];by_cases d3:j<sa+na+t
        ·rw[gin j () d3];exact rR hso (getD_at ()) (getD_at ()) ()
        ·rw[gout j ()]
         rcases hmx _ _ (getD_at (l:=hs) (i:=i-(sa+k)) ())with⟨v,hv,e⟩|⟨v,hv,e⟩
         ·rw[e];have r:=t3 (j-(sa+na)) () ();rw[show sa+na+(j-(sa+na))=j by lia]at r;by_cases d4:sa+k+v=sa+na-1
          ·rw[d4];exact r
          ·exact(s1 _ (sa+na-1) () () ()).trans r
         ·rw[e];exact s2 _ _ () () c
       ·rw[gout i (),gout j ()];exact s2 i j () b c
   by_cases cl:na-k<=t
   ·rw[aN cl];exact aV (T7 C h'.kind ab tp (by rw[nS];lia) (qA ()) (bt _ (qA ())) fin)
   ·rw[aM cl];exact aV (T8 C h'.kind ab tp bt (by rw[nS];lia) (by rw[nS];lia) fin)
end
meta abbrev pr (x:Nat×Nat×Nat):Nat×Nat:=(x.1,x.2.1)
abbrev qw (o:Ord)(g:Nat->Nat):List (Nat×Nat)->Nat->Nat->Prop
 | [],a,b=>a=b
 | x::l,a,b=>x.1=a/\1<=x.2/\Cl g a (a+x.2)/\So o g a (a+x.2)/\qw o g l (a+x.2) b
abbrev PA (o:Ord)(g:Nat->Nat)(p:Array (Nat×Nat×Nat))(b:Nat):Prop:=qw o g (p.toList.map pr) 0 b
section
variable {o:Ord}{g:Nat->Nat}
def qw.le:∀{l:List (Nat×Nat)}{a b:Nat},qw o g l a b->a+l.length<=b
 | [],a,b,h=>by have h:a=b:=h;rw[fJ];lia
 | x::l,a,b,h=>by
  have:=h.2.2.2.2.le;have:=h.2.1;rw[bF];lia
def qw.congr{g':Nat->Nat}:∀{l:List (Nat×Nat)}{a b:Nat},qw o g l a b->(∀i,a<=i->i<b->g' i=g i)->qw o g' l a b
 | [],a,b,h,_=>h
 | x::l,a,b,h,e=>by
  have hb:=h.2.2.2.2.le;refine⟨h.1,h.2.1,λi h1 h2=>?_,λi j h1 h2 h3=>?_,h.2.2.2.2.congr λi h1 h2=>e i () h2⟩
  ·rw[e i h1 ()];exact h.2.2.1 i h1 h2
  ·rw[e i h1 (),e j () ()];exact h.2.2.2.1 i j h1 h2 h3
theorem qw.app:∀{l m:List (Nat×Nat)}{a b:Nat},qw o g (l++m) a b ↔ ∃c,qw o g l a c/\qw o g m c b
 | [],m,a,b=>⟨λh=>⟨a,rfl,h⟩,λ⟨c,h1,h2⟩=>by have h1:a=c:=h1;subst h1;exact h2⟩
 | x::l,m,a,b=>by
  constructor
  ·rintro⟨h1,h2,h3,h4,h5⟩;obtain⟨c,h6,h7⟩:=qw.app.mp h5;exact⟨c,⟨h1,h2,h3,h4,h6⟩,h7⟩
  ·rintro⟨c,⟨h1,h2,h3,h4,h5⟩,h6⟩;exact⟨h1,h2,h3,h4,qw.app.mpr ⟨c,h5,h6⟩⟩
def K4{p:Array (Nat×Nat×Nat)}(h:i+1<p.size):∃l1 x y l2,p=(l1++x::y::l2).toArray/\l1.length=i:=by
 have h':i+1<p.toList.length:=h;refine⟨p.toList.take i,p.toList[i],p.toList[i+1],p.toList.drop (i+2),?_,by rw[bB];lia⟩;apply Array.toList_inj.mp
 skip
 conv=>lhs;rw[<- b_ i p.toList,bZ (show i<p.toList.length by lia),bZ h']
end
section
variable {prog:aj}{w:ah}{A:aA}{E:af->aC->Prop}{s:aC}{o:Ord}{N:Nat}{f:Nat->Keyed}{kd:SortKind}{g:Nat->Nat}{p:Array (Nat×Nat×Nat)}{st:SortSt}
def C2(C:zl prog w A s o N f kd)(h:Sg N f kd g p st){lo:Nat}(hp:PA o g p lo)(hlo:lo<=N)(hi:i+1<p.size)
  {Q:Bool->SortSt->Prop} (q:∀g' p' st',Sg N f kd g' p' st'->PA o g' p' lo->p'.size+1=p.size->(∀k,lo<=k->g' k=g k)->Q true st'):wpS (model prog w) A E s (mergeAt' i) Q st:=by
 obtain⟨l1,⟨sa,na,pw⟩,⟨sb,nb,pv⟩,l2,rfl,rfl⟩:=K4 hi;unfold PA at hp;rw[show(l1++(sa,na,pw)::(sb,nb,pv)::l2).toArray.toList=l1++(sa,na,pw)::(sb,nb,pv)::l2 from rfl,bU]at hp;obtain⟨c,h1,h2⟩:=qw.app.mp hp;obtain⟨e1,n1,cl1,so1,e2,n2,cl2,so2,rest⟩:=h2;have e1:sa=c:=e1;subst e1;have e2:sb=sa+na:=e2;subst e2;have l2b:=rest.le;have n1:1<=na:=n1;have n2:1<=nb:=n2;have l2b:sa+na+nb<=lo:=by
  have:sa+na+nb+(List.map pr l2).length<=lo:=l2b
  lia
 refine Tj C h n1 n2 () cl1 so1 cl2 so2 λg' st' h' R=>q g' _ st' h' ?_ (by simp;lia) λk hk=>R.out k ();unfold PA;rw[show(l1++(sa,na+nb,pw)::l2).toArray.toList=l1++(sa,na+nb,pw)::l2 from rfl,bU];refine qw.app.mpr ⟨sa,h1.congr λi a b=>R.out i (),rfl,by show 1<=na+nb;lia,?_,?_,?_⟩
 ·show Cl g' sa (sa+(na+nb));rw[<- iC];exact R.cl
 ·show So o g' sa (sa+(na+nb));rw[<- iC];exact R.so
 ·skip
  rw[<- iC];exact rest.congr λi a b=>R.out i (.inr a)
def zf{p:Array (Nat×Nat×Nat)}{lo:Nat}{u:Nat×Nat×Nat->Nat×Nat×Nat}(hu:∀x,pr (u x)=pr x)(h:PA o g p lo):PA o g (p.modify i u) lo:=by
 unfold PA at h ⊢;have:(p.modify i u).toList.map pr=p.toList.map pr:=by
  rw[Array.toList_modify];apply bR;intro k;rw[aR,aR,List.getElem?_modify]
  cases p.toList[k]? with
  | none=>rfl
  | some x=>
   show some (pr (if i=k then u x else x))=some (pr x);by_cases c:i=k
   ·rw[aN c,hu x]
   ·rw[aM c]
 rw[this];exact h
def w6{p:Array (Nat×Nat×Nat)}{lo n v:Nat}(h:PA o g p lo)(hn:1<=n)(c:Cl g lo (lo+n))(d:So o g lo (lo+n)):PA o g (p.push (lo,n,v)) (lo+n):=by
 unfold PA at h ⊢;rw[Array.toList_push,bU];exact qw.app.mpr ⟨lo,h,rfl,hn,c,d,rfl⟩
def Sg.SQ(h:Sg N f kd g p st)(p':Array (Nat×Nat×Nat)):Sg N f kd g p' (setPending st p'):=⟨h.size,h.get,h.lt,h.kind,h.failed,rfl⟩
def MY(C:zl prog w A s o N f kd)(h:Sg N f kd (λi=>i) #[] st)(hN:1<=N)
  {Q:Unit->SortSt->Prop} (q:∀g' p' st',Sg N f kd g' p' st'->Cl g' 0 N->So o g' 0 N->Q Unit.unit st'):wpS (model prog w) A E s sortRuns' Q st:=by
 rw[sortRuns'_eq];refine aV (gM ?_);dsimp only;rw[h.size];refine aV (d9 (cJ
  (I:=λx c st'=>∃lo g p,c=(none,lo)/\lo<=N/\(x<=lo\/lo=N)/\Sg N f kd g p st'/\PA o g p lo/\(∀i,lo<=i->g i=i))
  (Q:=λc st'=>∃g p,c=(none,N)/\Sg N f kd g p st'/\PA o g p N) ?step ?fin ⟨0,_,_,rfl,cZ _,.inl (aS _),h,rfl,λ_ _=>rfl⟩) ?post)
 case fin=>
  rintro c st' ⟨lo,g,p,rfl,h1,h2,h3,h4,h5⟩;have:lo=N:=()
  subst this;exact⟨g,p,rfl,h3,h4⟩
 case step=>
  intro x c st' _ hx hh;revert hh;revert c;refine Xb λlo g p hh=>?_;have h1:=hh.1;have h2:=hh.2.1;have h3:=hh.2.2.1;have h4:=hh.2.2.2.1;have h5:=hh.2.2.2.2;clear hh;dsimp only;by_cases hge:lo>=N
  ·rw[aN hge];have:lo=N:=()
   subst this;exact bf ⟨g,p,rfl,h3,h4⟩
  ·rw[aM hge];refine aV (ya C h3 () () (λi a b=>h5 i a) λm g1 st1 s1 m1 m2 R1=>?_);dsimp only;by_cases c2:m<minRun' N N 0
   ·rw[aN c2];kst_p;refine aV (RQ C s1 () m1 () R1 (λi a b=>h5 i ()) λg2 st2 s2 R2=>?_);rw[aM ⋯];have n2:1<=min (N-lo) (minRun' N N 0):=()
    have n3:lo+min (N-lo) (minRun' N N 0)<=N:=()
    refine aV (gM ?_);rw[s2.pend];have hp2:=qw.congr h4 λi a b=>R2.out i (.inl b)
    cases e:p.back? with
    | none=>
     dsimp only;refine aV (fF (bf ⟨_,_,_,rfl,n3,(),s2.SQ _,?_,λi hi=>by rw[R2.out i (.inr hi),h5 i ()]⟩));rw[s2.pend];exact w6 hp2 n2 R2.cl R2.so
    | some y=>
     obtain⟨y1,y2,y3⟩:=y;dsimp only;refine aV (d9 (cJ (I:=λ_ c st'=>c=(none,Unit.unit)/\∃g' p',Sg N f kd g' p' st'/\PA o g' p' lo/\(∀k,lo<=k->g' k=g2 k)) (Q:=λc st'=>c=(none,Unit.unit)/\∃g' p',Sg N f kd g' p' st'/\PA o g' p' lo/\(∀k,lo<=k->g' k=g2 k)) ?vstep (λ_ _ h=>h) ⟨rfl,_,_,s2,hp2,λ_ _=>rfl⟩) ?vpost)
     case vstep=>
      rintro x c st' _ hx ⟨rfl,g',p',h1,h2,h3⟩;refine aV (gM ?_);rw[h1.pend];by_cases c:p'.size>1
      ·rw[aN c]
       cases e:p'[p'.size-2]? with
       | none=>exact bf ⟨rfl,g',p',h1,h2,h3⟩
       | some y=>
        obtain⟨y1,y2,y3⟩:=y;dsimp only;split
        ·exact bf ⟨rfl,g',p',h1,h2,h3⟩
        ·refine aV (C2 C h1 h2 () () λg3 p3 st3 s3 q3 _ z3=>?_);exact bf ⟨rfl,g3,p3,s3,q3,λk hk=>by rw[z3 k hk,h3 k hk]⟩
      ·rw[aM c];exact bf ⟨rfl,g',p',h1,h2,h3⟩
     case vpost=>
      rintro c st' ⟨rfl,g',p',h1,h2,h3⟩;dsimp only;refine aV (fF (aV (fF (bf ⟨_,_,_,rfl,n3,(),(h1.SQ _).SQ _,?_,λi hi=>by rw[h3 i (),R2.out i (.inr hi),h5 i ()]⟩))))
      skip
      rw[h1.pend];exact w6 (zf (λ_=>rfl) h2) n2 (λi a b=>by rw[h3 i a];exact R2.cl i a b) (λi j a b c=>by rw[h3 i a,h3 j ()];exact R2.so i j a b c)
   ·rw[aM c2];have n3:lo+m<=N:=()
    obtain⟨g2,hg2⟩:∃g2,g2=g1:=⟨_,rfl⟩;rw[<- hg2]at R1 s1;have R2:=R1;have s2:=s1;have n2:=m1;refine aV (gM ?_);rw[s2.pend];have hp2:=qw.congr h4 λi a b=>R2.out i (.inl b)
    cases e:p.back? with
    | none=>
     dsimp only;refine aV (fF (bf ⟨_,_,_,rfl,n3,(),s2.SQ _,?_,λi hi=>by rw[R2.out i (.inr hi),h5 i ()]⟩));rw[s2.pend];exact w6 hp2 n2 R2.cl R2.so
    | some y=>
     obtain⟨y1,y2,y3⟩:=y;dsimp only;refine aV (d9 (cJ (I:=λ_ c st'=>c=(none,Unit.unit)/\∃g' p',Sg N f kd g' p' st'/\PA o g' p' lo/\(∀k,lo<=k->g' k=g2 k)) (Q:=λc st'=>c=(none,Unit.unit)/\∃g' p',Sg N f kd g' p' st'/\PA o g' p' lo/\(∀k,lo<=k->g' k=g2 k)) ?vstep (λ_ _ h=>h) ⟨rfl,_,_,s2,hp2,λ_ _=>rfl⟩) ?vpost)
     case vstep=>
      rintro x c st' _ hx ⟨rfl,g',p',h1,h2,h3⟩;refine aV (gM ?_);rw[h1.pend];by_cases c:p'.size>1
      ·rw[aN c]
       cases e:p'[p'.size-2]? with
       | none=>exact bf ⟨rfl,g',p',h1,h2,h3⟩
       | some y=>
        obtain⟨y1,y2,y3⟩:=y;dsimp only;split
        ·exact bf ⟨rfl,g',p',h1,h2,h3⟩
        ·refine aV (C2 C h1 h2 () () λg3 p3 st3 s3 q3 _ z3=>?_);exact bf ⟨rfl,g3,p3,s3,q3,λk hk=>by rw[z3 k hk,h3 k hk]⟩
      ·rw[aM c];exact bf ⟨rfl,g',p',h1,h2,h3⟩
     case vpost=>
      rintro c st' ⟨rfl,g',p',h1,h2,h3⟩;dsimp only;refine aV (fF (aV (fF (bf ⟨_,_,_,rfl,n3,(),(h1.SQ _).SQ _,?_,λi hi=>by rw[h3 i (),R2.out i (.inr hi),h5 i ()]⟩))))
      skip
      rw[h1.pend];exact w6 (zf (λ_=>rfl) h2) n2 (λi a b=>by rw[h3 i a];exact R2.cl i a b) (λi j a b c=>by rw[h3 i a,h3 j ()];exact R2.so i j a b c)
 case post=>
  rintro c st' ⟨g,p,rfl,h1,h2⟩;dsimp only;refine aV (d9 (cJ
   (I:=λx c st''=>c=(none,Unit.unit)/\∃g p,Sg N f kd g p st''/\PA o g p N/\(p.size<=1\/p.size+x<=N))
   (Q:=λc st''=>c=(none,Unit.unit)/\∃g p,Sg N f kd g p st''/\PA o g p N/\p.size<=1) ?fstep ?ffin ⟨rfl,g,p,h1,h2,.inr ?finit⟩) ?fpost)
  case finit=>
   have:=qw.le h2;rw[aL]at this;show p.toList.length+0<=N
   lia
  case ffin=>
   rintro c st'' ⟨rfl,g,p,h1,h2,h3⟩;exact⟨rfl,g,p,h1,h2,()⟩
  case fstep=>
   rintro x c st'' _ hx ⟨rfl,g,p,h1,h2,h3⟩;refine aV (gM ?_);rw[h1.pend];by_cases c:p.size<=1
   ·rw[aN c];exact bf ⟨rfl,g,p,h1,h2,c⟩
   ·rw[aM c];have il:∀(d:Prop) [Decidable d],(if d then p.size-2-1 else p.size-2)+1<p.size:=λd _=>by
     by_cases hd:d
     ·rw[aN hd];lia
     ·rw[aM hd];lia
    refine aV (C2 C h1 h2 (aS _) (il _) λg' p' st3 s3 q3 z3 _=>?_);exact bf ⟨rfl,g',p',s3,q3,()⟩
  case fpost=>
   rintro c st'' ⟨rfl,g,p,h1,h2,h3⟩;dsimp only;refine bf ?_;unfold PA at h2;have h3:p.toList.length<=1:=h3
   match hl:p.toList,h3 with
   | [],_=>
    rw[hl]at h2;have:0=N:=h2
    lia
   | [x],_=>
    rw[hl]at h2;obtain⟨e1,e2,e3,e4,e5⟩:=h2;have e5:0+x.2.1=N:=e5;have e3:Cl g 0 (0+x.2.1):=e3;have e4:So o g 0 (0+x.2.1):=e4;rw[e5]at e3 e4;exact q g p st'' h1 e3 e4
end
meta abbrev GZ (h:aq)(a:ak)(vs:ap):aq:=((h.update a (Obj.mapSeq λ_=>#[])).push (seqObj "tuple" vs.toArray 0)).push (seqObj "list" #[] 0)
def Nc{h:aq}{a:ak}(hb:b≠a)(hlt:b<h.objs.size):(GZ h a vs).get? b=h.get? b:=by
 rw[gO _ _ _ (by rw[size_push',iw];exact bE (fO hlt)),
  gO _ _ _ (by rw[iw];exact bE hlt),Heap.get?_update_ne _ _ _ _ hb]
meta abbrev vv (vs:ap)(i:Nat):Keyed:=(vs.getD i .none,vs.getD i .none)
def zip_get(vs:ap){i:Nat}(h:i<vs.length):(vs.toArray.zip vs.toArray)[i]?=some (vv vs i):=by
 have e:vs[i]?=some (vs.getD i .none):=by rw[aI,aH h];rfl
 rw[Array.getElem?_zip_eq_some];exact⟨by rw[fM];exact e,by rw[fM];exact e⟩
section
variable {prog:aj}{w:ah}{A:aA}{E:af->aC->Prop}{s:aC}{o:Ord}{kd:SortKind}
def GD{a:ak}{vs:ap}{n:Nat}{P:PySem.Fin->aC->Prop}(hL:s.heap.get? a=some (seqObj "list" vs.toArray n))(hsz:vs.length<=sizeLine)
  (hkk:2<=vs.length->∀Q:SortKind->aC->Prop,Q kd { s with heap:=GZ s.heap a vs }->wpAny (model prog w) A (keyKind' vs.toArray) Q E { s with heap:=GZ s.heap a vs })
  (C:2<=vs.length->zl prog w A { s with heap:=GZ s.heap a vs } o vs.length (vv vs) kd)
  (h:∀g,Cl g 0 vs.length->So o g 0 vs.length->P (.done (.ret .none)) { s with heap:=sortedHeap s.heap a vs ((List.range vs.length).map λi=>vs.getD (g i) .none).toArray }) :
  wpAny (model prog w) A (Builtin.«list.sort» ⟨[.ref a],[]⟩) P E s:=by
 rw[list_sort_plain];have lta:a<s.heap.objs.size:=aX hL;refine aG (listItems_at hL rfl ?_);refine aG (listUpdate_at hL rfl ?_ (by rw[aT];exact hsz) (cZ _));obtain⟨ep,hL1⟩:∃ep,(s.heap.update a (Obj.mapSeq λ_=>#[])).get? a=some (seqObj "list" #[] ep):=⟨_,get?_update_seq hL (λ_=>#[])⟩;refine aG (seqEpoch_at hL1 rfl ?_);refine aG (wpAny_newTuple ?_);refine aG (wpAny_newList ?_);refine dj ?_;have hL6:(GZ s.heap a vs).get? a=some (seqObj "list" #[] ep):=by
  rw[gO _ _ _ (by rw[size_push',iw];exact bE (fO lta)),gO _ _ _ (by rw[iw];exact bE lta)];exact hL1
 skip
 dsimp only;have hz:vs.toArray.size=vs.length:=by simp
 have getE:∀i,i<vs.length->vs[i]?=some (vs.getD i .none):=λi hi=>by rw[aI,aH hi];rfl
 have PX:∀(arr:Array Keyed) (g:Nat->Nat),arr.size=vs.length->(∀i,i<vs.length->arr[i]?=some (vv vs (g i)))->arr.map (·.2)=((List.range vs.length).map λi=>vs.getD (g i) .none).toArray:=λarr g h1 two=>by
  apply Array.ext_getElem?;intro i;have e0:((List.range vs.length).map λi=>vs.getD (g i) Value.none).toArray[i]?=((List.range vs.length).map λi=>vs.getD (g i) Value.none)[i]?:=fM ..;rw[Array.getElem?_map,e0,aR];by_cases c:i<vs.length
  ·rw[two i c,cj c];rfl
  ·rw[dI (),bG (by rw[cP];lia)];rfl
 by_cases two:vs.toArray.size<2
 ·rw[aN two,aN two];refine aG (aJ ?_);rw[StateT.run_pure];refine aG (aJ ?_);dsimp only;refine aG (seqEpoch_at hL6 rfl ?_);have oe:=PX (vs.toArray.zip vs.toArray) (λi=>i) (by rw[jB,hz];lia) λi hi=>zip_get vs hi;refine aG (listUpdate_at hL6 rfl ?_ (by simp) (hsz2:=by rw[size_map];show(vs.toArray.zip vs.toArray).size<=_;rw[jB,hz];lia));dsimp[bne_self_eq_false,bw,b8];refine aJ ?_;have:=h (λi=>i) (λi a b=>⟨a,b⟩) (λi j a b c=>());rw[<- oe]at this;exact this
 ·rw[aM two,aM two];have h2':2<=vs.length:=()
  refine aG (hkk h2' _ ?_);refine aG (fu (MY (f:=vv vs) (N:=vs.length) (C h2') (st:=SortSt.mk' kd (vs.toArray.zip vs.toArray) #[] 7 none)
   (Q:=λ_ st'=>∃g p,Sg vs.length (vv vs) kd g p st'/\Cl g 0 vs.length/\So o g 0 vs.length)
   ⟨by show(vs.toArray.zip vs.toArray).size=_;rw[jB,hz];lia,λi hi=>zip_get vs hi,λi hi=>hi,rfl,rfl,rfl⟩ () λg' p' st' a1 a2 a3=>⟨g',p',a1,a2,a3⟩) ?_ λ_ _ e=>e)
  rintro⟨⟨⟩,st'⟩ s' ⟨rfl,g,p,hS,hc,hso⟩;dsimp only;refine aG (seqEpoch_at hL6 rfl ?_);have oe:=PX (arrOf st') g hS.size hS.get;refine aG (listUpdate_at hL6 rfl ?_ (by simp) (hsz2:=by have hh:(arrOf st').size=vs.length:=hS.size;show((arrOf st').map (·.2)).size<=_;rw[size_map,hh];lia));rw[hS.failed];dsimp[bne_self_eq_false,bw,b8];have:=h g hc hso;rw[<- oe]at this;exact aJ this
end
section
variable {prog:aj}{w:ah}{A:aA}{E:af->aC->Prop}{s:aC}
def GJ(b:Bool)(x y:af):keyLt' (tuples' b) x y=(do
  let us <- Builtin.List.listItems x
  let vs <- Builtin.List.listItems y
  for ((u,v),k)in (us.toList.zip vs.toList).zipIdx do
   if !(<- eqBool u v)then return <- oneLt' (b && k == 0) u v
  return us.size<vs.size):=rfl
def N2(b:Bool){x y:Int}{t:Tok}{Q:Bool->aC->Prop}(h:Q (decide (x<y)) s):wpAny (model prog w) A (oneLt' b (.int x t) (.int y u)) Q E s:=by
 cases b with
 | true=>exact oneLt_int h
 | false=>
  rw[oneLt'_eq];dsimp[bw,b8];exact aG (PySem.P.lt_int (dD h))
def CO(b:Bool){k:ak}{xs ys:ap}{ns:ae}{Q:Bool->aC->Prop}(hl:IsTup s.heap l xs.toArray)(hk:IsTup s.heap k ys.toArray)(hi:IntsAre xs ns)(hj:IntsAre ys ms)(h:Q (HT.lexLt ns ms) s) :
  wpAny (model prog w) A (keyLt' (tuples' b) (.ref l) (.ref k)) Q E s:=by
 rw[GJ];obtain⟨o1,ho1,_,n1,hd1⟩:=hl;obtain⟨o2,ho2,_,n2,hd2⟩:=hk;refine aG (listItems_at ho1 hd1 ?_);refine aG (listItems_at ho2 hd2 ?_);have key:∀(xs ys:ap) (ns ms:ae) (n:Nat),IntsAre xs ns->IntsAre ys ms->∀Q':bd×Unit->aC->Prop,(∀r,(r=some (HT.lexLt ns ms)\/(r=none/\HT.lexLt ns ms=decide (xs.length<ys.length)))->Q' (r,Unit.unit) s) ->
   wpAny (model prog w) A (forIn ((xs.zip ys).zipIdx n) ((none,Unit.unit):bd×Unit) λx c=>match x with
      | ((p,q),i)=>do
       let e <- eqBool p q
       if (!e)=true then do
         let r <- oneLt' (b && i == 0) p q
         pure (ForInStep.done (some r,Unit.unit))
        else pure (ForInStep.yield (none,Unit.unit))) Q' E s:=by
  intro xs
  induction xs with
  | nil=>
   intro ys ns ms n h1 h2 Q' q
   cases h1
   rw[List.zip_nil_left,List.zipIdx_nil,jA];refine aJ (q none (.inr ⟨rfl,?_⟩))
   cases h2 with
   | nil=>rw[HT.pZ];rfl
   | cons a t h2=>rw[HT.nu,bq (by simp)]
  | cons v vs ih=>
   intro ys ns ms n h1 h2 Q' q
   cases h1 with
   | cons a t h1=>
    cases h2 with
    | nil=>
     rw[List.zip_nil_right,List.zipIdx_nil,jA];exact aJ (q none (.inr ⟨rfl,by rw[HT.oQ,bh (by simp)]⟩))
    | cons c u h2=>
     rw[List.zip_cons_cons,ji,jw];rw[HT.mR]at q;dsimp only;refine aG (aG (wpAny_eqBool_int ?_));by_cases e:a=c
     ·rw[aN e]at q;subst e;dsimp[bW,eU,bw,b8];refine aJ (ih _ _ _ _ h1 h2 _ λr hr=>q r ?_)
      rcases hr with hr|⟨hr,hz⟩
      ·exact .inl hr
      ·exact .inr ⟨hr,by rw[hz];simp⟩
     ·rw[aM e]at q;have e':(a == c)=false:=by simpa using e
      dsimp[e',fS,c6];exact aG (N2 _ (aJ (aJ (q _ (.inl rfl)))))
 refine aG (key xs ys ns ms 0 hi hj _ λr hr=>?_)
 rcases hr with rfl|⟨rfl,hz⟩
 ·exact aJ h
 ·dsimp only;rw[aT,aT,<- hz];exact aJ h
end
theorem sE:∀a:ae,HT.lexLt a a=false
 | []=>HT.pZ
 | x::a=>by rw[HT.mR,aN rfl];exact sE a
theorem yI:∀{a b c:ae},HT.lexLt a b=true->HT.lexLt b c=true->HT.lexLt a c=true
 | [],[],_,h,_=>by rw[HT.pZ]at h;cases h
 | x::a,[],_,h,_=>by rw[HT.oQ]at h;cases h
 | _,y::b,[],_,h=>by rw[HT.oQ]at h;cases h
 | [],y::b,z::c,_,_=>HT.nu ..
 | x::a,y::b,z::c,h1,h2=>by
  rw[HT.mR]at h1 h2 ⊢;by_cases e1:x=y
  ·rw[aN e1]at h1;by_cases e2:y=z
   ·rw[aN e2]at h2;rw[aN (e1.trans e2)];exact yI h1 h2
   ·rw[aM e2]at h2;have:=dJ h2;rw[aM (by omega)];exact bq (by omega)
  ·rw[aM e1]at h1;have l1:=dJ h1;by_cases e2:y=z
   ·rw[aM (by omega)];exact bq (by omega)
   ·rw[aM e2]at h2;have:=dJ h2;rw[aM (by omega)];exact bq (by omega)
theorem AX:∀{a b:ae},HT.lexLt a b=false->HT.lexLt b a=false->a=b
 | [],[],_,_=>rfl
 | [],y::b,h,_=>by rw[HT.nu]at h;cases h
 | x::a,[],_,h=>by rw[HT.nu]at h;cases h
 | x::a,y::b,h1,h2=>by
  rw[HT.mR]at h1 h2;by_cases e:x=y
  ·rw[aN e]at h1;rw[aN e.symm]at h2;rw[e,AX h1 h2]
  ·rw[aM e]at h1;rw[aM (λz=>e z.symm)]at h2;have:=of_decide_eq_false h1;have:=of_decide_eq_false h2
   lia
def DR{a c:ae}(h:HT.lexLt a c=true):HT.lexLt a b=true\/HT.lexLt b c=true:=by
 cases e:HT.lexLt a b with
 | true=>exact .inl rfl
 | false=>
  right
  cases e2:HT.lexLt b a with
  | true=>exact yI e2 h
  | false=>rw[<- AX e e2];exact h
abbrev LK (kss:List (ae)):Ord where
 lt i j:=HT.lexLt (kss.getD i []) (kss.getD j [])
 MT i:=sE _
 tr i j k:=yI
 neg i j k:=DR
section
variable {prog:aj}{w:ah}{A:aA}{E:af->aC->Prop}{s:aC}
theorem FU{α β:Type}{f:α->Sem β}(r:α->β):∀(l:List α),(∀a∈l,∀Q:β->aC->Prop,Q (r a) s->wpAny M A (f a) Q E s)->∀Q:List β->aC->Prop,Q (l.map r) s->wpAny M A (l.mapM f) Q E s
 | [],_,Q,q=>by rw[List.mapM_nil];exact aJ q
 | a::l,h,Q,q=>by
  rw[List.mapM_cons];refine aG (h a (aP ..) _ (aG (FU r l (λb hb=>h b (aQ _ hb)) _ (aJ q))))
def D9{α β:Type}{f:α->Sem β}(r:α->β)(l:List α)(h:∀a∈l,∀Q:β->aC->Prop,Q (r a) s->wpAny M A (f a) Q E s)(Q:Array β->aC->Prop)(q:Q (l.map r).toArray s):wpAny M A (l.toArray.mapM f) Q E s:=by
 rw[List.mapM_toArray,map_eq_pure_bind];exact aG (FU r l h _ (aJ q))
def Mc(u:af):firstOfTuple' u=(do
  if (<- typeOf u) != .type "tuple" then return none
  return (<- Builtin.List.listItems u)[0]?):=rfl
def HA{vs:ap}(h0:vs≠[])(ht:∀v∈vs,∃(l:ak) (xs:ap) (n:Int) (t:Tok),v=.ref l/\IsTup s.heap l (.int n t::xs).toArray){Q:SortKind->aC->Prop}(q:Q (tuples' true) s) :
  wpAny (model prog w) A (keyKind' vs.toArray) Q E s:=by
 have ch:∀v,∃x:Int×Tok,v∈vs->∃(l:ak) (xs:ap),v=.ref l/\IsTup s.heap l (.int x.1 x.2::xs).toArray:=λv=>by
  by_cases c:v∈vs
  ·obtain⟨l,xs,n,t,e1,e2⟩:=ht v c;exact⟨(n,t),λ_=>⟨l,xs,e1,e2⟩⟩
  ·exact⟨(0,0),λz=>absurd z c⟩
 obtain⟨F,hF⟩:=Classical.axiomOfChoice ch;rw[keyKind'_eq];refine aG (D9 (λv=>some (Value.int (F v).1 (F v).2)) vs (λv hv Q' q'=>?_) _ ?_)
 ·obtain⟨l,xs,rfl,o,ho,hc,n,hd⟩:=hF v hv;rw[Mc];refine aG (jn (T := "tuple") ⟨o,ho,hc⟩ ?_);rw[aM ⋯];exact aG (listItems_at ho hd (aJ q'))
 ·rw[aN (by simp)];refine aG (fR ?_);have e1:(vs.map λv=>some (Value.int (F v).1 (F v).2)).toArray.filterMap id=(vs.map λv=>Value.int (F v).1 (F v).2).toArray:=by
   rw[List.filterMap_toArray,iW];congr 1;rw[show(id ∘ λv=>some (Value.int (F v).1 (F v).2))=λv=>some (Value.int (F v).1 (F v).2)from rfl];exact congrFun List.filterMap_eq_map' vs
  rw[e1,oneTypeOnly'_eq];refine aG (aG (D9 (λ_=>Value.type "int") _ (λv hv Q' q'=>?_) _ ?_))
  ·obtain⟨u,_,rfl⟩:=bH.mp hv;exact aJ q'
  ·rw[bJ];obtain⟨v0,vs',rfl⟩:∃v0 vs',vs=v0::vs':=by
    cases vs with
    | nil=>exact absurd rfl h0
    | cons a b=>exact⟨a,b,rfl⟩
   have ha:((List.map ((λ_=>Value.type "int") ∘ λv=>Value.int (F v).1 (F v).2) (v0::vs')).toArray.all λx=>x == Value.type "int")=true:=by
    dsimp[List.all_toArray,all_map,ir];intro _ _;rfl
   have hz:(List.map ((λ_=>Value.type "int") ∘ λv=>Value.int (F v).1 (F v).2) (v0::vs')).toArray[0]?=some (Value.type "int"):=by simp
   rw[hz];dsimp[ha,c6];exact aJ (aJ q)
end
end Sx
namespace L2
open PySem PySem.Spec PyProof.Rows
section
variable {X:Cx}
theorem yZ:∀{rs:ar}{its:ap},Vals (rs.map V.ref) its->its=rs.map Value.ref
 | [],_,r=>by cases r;rfl
 | a::rs,_,r=>by
  cases r with
  | cons h t=>
   have e:_=Value.ref a:=h;rw[e,yZ t];rfl
theorem vU:∀(rs:ar),Vals (rs.map V.ref) (rs.map Value.ref)
 | []=>.nil
 | a::rs=>.cons (show RelV (.ref a) (.ref a)from rfl) (vU rs)
def GU{s:aC}{H:Hp}{Q:VK}{h':aq}{tk:Nat}{rs:ar}{kss:List (ae)}(I1:Inv X pins σ H { s with heap:=h',toks:=tk })(hlen:rs.length=kss.length)(hz:rs.length<=sizeLine)
  (hT:∀(i:Nat) (r:ak) (ks:ae),rs[i]?=some r->kss[i]?=some ks->ni X.K H r (ks.map V.int)/\ks≠[])
  (q:∀l g,H l=none->Sx.Cl g 0 kss.length->Sx.So (Sx.LK kss) g 0 kss.length->Q (.ref l) (upd H l (.lst (((List.range kss.length).map λi=>rs.getD (g i) 0).map V.ref)))) :
  wpAny (model X.prog X.w) X.A.in1 (do
   let l <- newList (rs.map Value.ref)
   let _ <- holding [l] (call (Value.builtin "list.sort") [l] [])
   ret l) (λfin s'=>∃v,fin=Fin.done (Flow.ret v)/\EP X pins σ Q v s') X.xe { s with heap:=h',toks:=tk }:=by
 have hN:(rs.map Value.ref).length=kss.length:=by rw[aL,hlen]
 refine aG (wpAny_newList ?_);have hoL:(h'.push (seqObj "list" (rs.map Value.ref).toArray 0)).get? h'.objs.size=some (seqObj "list" (rs.map Value.ref).toArray 0):=bg _ rfl
 skip
 have tup:∀(i:Nat) (r:ak) (ks:ae),rs[i]?=some r->kss[i]?=some ks->∃its:ap,IntsAre its ks/\IsTup (Sx.GZ (h'.push (seqObj "list" (rs.map Value.ref).toArray 0)) h'.objs.size (rs.map Value.ref)) r its.toArray:=λi r ks e1 e2=>by
  obtain⟨its,rv,⟨o,ho,hc,n,hd⟩,_⟩:=I1.tuple (hT i r ks e1 e2).1;refine⟨its,intsAre_of rv,o,?_,hc,n,hd⟩;have lt:r<h'.objs.size:=aX ho;rw[Sx.Nc (bE lt) (by rw[fq];exact fO lt)];exact aO _ ho
 refine aG (dj (b7 slot_list_sort ⟨_,hoL,rfl⟩ entry_list_sort (Sx.GD (o:=Sx.LK kss) (kd:=tuples' true) hoL (by rw[hN];lia) (λh2 Q' q'=>?_) (λh2 i j hi hj E' Q' q'=>?_) λg hc hs=>⟨_,rfl,?_⟩) (args_list_sort _)))
 ·refine Sx.HA (λz=>by rw[z]at h2;simp at h2) (λv hv=>?_) q';obtain⟨i,hi⟩:=eO hv;rw[aR]at hi;obtain⟨r,hr,rfl⟩:=bA.mp hi;have lt:=(aK.mp hr).1;have e2:kss[i]?=some kss[i]:=aH ();obtain⟨its,h1,h3⟩:=tup i r _ hr e2;have hne:=(hT i r _ hr e2).2;generalize kss[i]=ks at h1 hne
  cases h1 with
  | nil=>exact absurd rfl hne
  | cons a t h1=>exact⟨r,_,a,t,rfl,h3⟩
 ·rw[hN]at hi hj;have e1:rs[i]?=some (rs[i]'()):=aH _;have e2:rs[j]?=some (rs[j]'()):=aH _;have k1:kss[i]?=some kss[i]:=aH hi;have k2:kss[j]?=some kss[j]:=aH hj;obtain⟨x1,a1,b1⟩:=tup i _ _ e1 k1;obtain⟨x2,a2,b2⟩:=tup j _ _ e2 k2;have v1:(rs.map Value.ref).getD i .none=.ref (rs[i]'()):=by rw[aI,aR,e1];rfl
  have v2:(rs.map Value.ref).getD j .none=.ref (rs[j]'()):=by rw[aI,aR,e2];rfl
  show wpAny _ _ (keyLt' (tuples' true) ((rs.map Value.ref).getD i .none) ((rs.map Value.ref).getD j .none)) Q' E' _;rw[v1,v2];refine Sx.CO true b1 b2 a1 a2 ?_;have d1:kss.getD i []=kss[i]:=by rw[aI,k1];rfl
  have d2:kss.getD j []=kss[j]:=by rw[aI,k2];rfl
  have:(Sx.LK kss).lt i j=HT.lexLt kss[i] kss[j]:=by show HT.lexLt _ _=_;rw[d1,d2]
  rw[<- this];exact q'
 ·rw[hN]at hc hs ⊢;obtain⟨e,he⟩:=sortedHeap_at (out:=((List.range kss.length).map λi=>(rs.map Value.ref).getD (g i) .none).toArray) hoL;have old:∀b ob,h'.get? b=some ob->(sortedHeap (h'.push (seqObj "list" (rs.map Value.ref).toArray 0)) h'.objs.size (rs.map Value.ref) ((List.range kss.length).map λi=>(rs.map Value.ref).getD (g i) .none).toArray).get? b=some ob:=λb ob eb=>by
   rw[sortedHeap_old (bE (aX eb)) (by rw[fq];exact fO (aX eb))];exact aO _ eb
  refine aJ ⟨_,rfl,.ref h'.objs.size,_,I1.laid (t':=tk) (o:=.lst (((List.range kss.length).map λi=>rs.getD (g i) 0).map V.ref)) old (aS _) ?_,rfl,q _ g (I1.hok.fresh (aS _)) hc hs⟩;refine⟨by rw[aL,aL,cP];lia,((List.range kss.length).map λi=>rs.getD (g i) 0).map Value.ref,e,vU _,?_⟩;rw[he];congr 2;rw[bJ];congr 1;refine cD λi hi=>?_;have:=(hc i (cZ _) (cV.mp hi)).2;have lt:g i<rs.length:=()
  show(rs.map Value.ref).getD (g i) .none=Value.ref (rs.getD (g i) 0);rw[aI,aR,aH lt,aI,aH lt];rfl
def zX:j_ X (.builtin "sorted") (λxs H Q=>∃(p:ak) (rs:ar) (kss:List (ae)),xs=[.ref p]/\nH X.K H p (rs.map V.ref)/\rs.length=kss.length /\
  (∀(i:Nat) (r:ak) (ks:ae),rs[i]?=some r->kss[i]?=some ks->ni X.K H r (ks.map V.int)/\ks≠[]) /\
  ∀l g,H l=none->Sx.Cl g 0 kss.length->Sx.So (Sx.LK kss) g 0 kss.length->Q (.ref l) (upd H l (.lst (((List.range kss.length).map λi=>rs.getD (g i) 0).map V.ref)))):=by
 w_up;obtain⟨p,rs,kss,rfl,hq,hlen,hT,q⟩:=h;kcf_m
 cases rx
 obtain⟨its,rv,pl,hz⟩:=I.list hq;have ei:=yZ rv;subst ei;obtain⟨o,ho,hcl,n,hd⟩:=pl.isList;rw[aL]at hz;have hN:(rs.map Value.ref).length=kss.length:=by rw[aL,hlen]
 refine Calls.call_function_entry kind_sorted plain_sorted entry_sorted (args_sorted1 _) ?_;unfold Builtin.«sorted»;refine aG (m:=checkCount "sorted" 1 1 _) (aJ ?_);refine aG (wpAny_collect_seq p (.inl rfl) ho hcl hd (λh' hk=>GU (s:=s) (I.kept (t':=s.toks) hk) hlen hz hT q) (by rw[aT,hN];lia))
end
end L2
namespace Am
open PySem
inductive A where
 | unb|non|bl (b:Bool)|int (i:Int)|str (x:Str)|tup (xs:List A)|frz (xs:List A)|rng (lo hi:Int)|ref (n:Nat)|exn (c:Str)|ty (n:String)|ktu (xs:List A)
@[reducible]def ad:=List A
inductive O where
 | lst (xs:ad)|dct (kvs:List (ae×A))|dki (kvs:List (Int×A))|ins (c:Str) (fs:List (Str×A))
meta abbrev jL:=List O
inductive R (α:Type) where
 | ok (a:α) (S:jL)|ex (c:Str) (S:jL)|no
abbrev R.bind {α β:Type}(r:R α)(f:α->jL->R β):R β:=match r with
 | .ok a S=>f a S
 | .ex c S=>.ex c S
 | .no=>.no
abbrev R.post {α:Type}(r:R α)(P:α->jL->Prop)(E:Str->jL->Prop):Prop:=match r with
 | .ok a S=>P a S
 | .ex c S=>E c S
 | .no=>False
def jO{α β:Type}{r:R α}{f:α->jL->R β}{P:β->jL->Prop}{E:Str->jL->Prop}(h:(r.bind f).post P E):r.post (λa S=>(f a S).post P E) E:=by
 cases r<;>exact h
def G6{α:Type}{r:R α}{P P':α->jL->Prop}{E E':Str->jL->Prop}(h:r.post P E)(hp:∀a S,P a S->P' a S)(he:∀c S,E c S->E' c S):r.post P' E':=by
 cases r with
 | ok a S=>exact hp _ _ h
 | ex c S=>exact he _ _ h
 | no=>exact h.elim
abbrev gd {α:Type}(c:Prop)[Decidable c](r:R α):R α:=if c then r else .no
abbrev opt {α β:Type}(o:Option β)(f:β->R α):R α:=match o with
 | some b=>f b
 | none=>.no
def j9{α:Type}{c:Prop}[Decidable c]{r:R α}{P:α->jL->Prop}{E:Str->jL->Prop}(h:(gd c r).post P E):c/\r.post P E:=by
 unfold gd at h;by_cases hc:c
 ·rw[aN hc]at h;exact⟨hc,h⟩
 ·rw[aM hc]at h;exact h.elim
def jM{α β:Type}{o:Option β}{f:β->R α}{P:α->jL->Prop}{E:Str->jL->Prop}(h:(opt o f).post P E):∃b,o=some b/\(f b).post P E:=by
 cases o with
 | none=>exact h.elim
 | some b=>exact⟨b,rfl,h⟩
def M3{α:Type}{c:Prop}[Decidable c]{r:R α}(h:c):gd c r=r:=aN h
abbrev jH (S:jL)(n:Nat):Option (ad):=match S[n]? with
 | some (.lst xs)=>some xs
 | _=>none
def jU{n:Nat}(h:jH S n=some xs):S[n]?=some (.lst xs):=by
 unfold jH at h;split at h
 ·rename_i e;cases h;exact e
 ·cases h
def u_{S:jL}{n:Nat}(h:S[n]?=some (.lst xs)):jH S n=some xs:=by
 unfold jH;rw[h]
inductive RS where
 | nx (τ:ad) (S:jL)|rt (a:A) (S:jL)|bk (τ:ad) (S:jL)|ct (τ:ad) (S:jL)|ex (c:Str) (S:jL)|no
meta abbrev Ex:=ad->jL->R A
meta abbrev qJ:=ad->jL->R (ad)
meta abbrev Te:=ad->jL->R Bool
meta abbrev Sm:=ad->jL->RS
meta abbrev Tg:=A->ad->jL->R (ad)
end Am
namespace Am
open PySem L2
section
variable (K:au) (ρ:ar) (H:Hp)
abbrev VB (K:au)(c:Str)(C:ak):Prop:=PySem.W.nsIn K mainGlobals c=some (some (.ref C))
abbrev Fz (K:au)(H:Hp)(a:ak)(vs:List V):Prop:=
 (∃o,H a=some (.frz o (.lst vs)))\/∃(o:Obj) (its:Array af) (n:Nat),K.lookup a=some o/\o.cls=.type "list" /\ o.dict=none/\o.data=.seq its n/\its.size<=sizeLine/\Vals vs its.toList
abbrev XA (K:au)(a:ak)(vs:List V):Prop:=∃(o:Obj) (its:Array af) (n:Nat),K.lookup a=some o/\o.cls=.type "tuple" /\ o.dict=none/\o.data=.seq its n/\its.size<=sizeLine/\Vals vs its.toList
mutual
inductive AV:A->V->Prop
 | non:AV .non .non
 | bl (b:Bool):AV (.bl b) (.bl b)
 | int (i:Int):AV (.int i) (.int i)
 | str (x:Str):AV (.str x) (.str x)
 | ty (n:String):AV (.ty n) (.ty n)
 | tup {a:ak} {xs:ad} {vs:List V} (h:H a=some (.tup vs)) (r:AVs xs vs):AV (.tup xs) (.ref a)
 | frz {a:ak} {xs:ad} {vs:List V} (h:Fz K H a vs) (r:AVs xs vs):AV (.frz xs) (.ref a)
 | rng {a:ak} {lo hi:Int} (h:H a=some (.rng lo hi)):AV (.rng lo hi) (.ref a)
 | ref {a:ak} {n:Nat} (h:ρ[n]?=some a):AV (.ref n) (.ref a)
 | exn {a C:ak} {c:Str} {oe:Obj} (n:VB K c C) (h:H a=some (.frz oe xu)) (x:XO C oe):AV (.exn c) (.ref a)
 | ktu {a:ak} {xs:ad} {vs:List V} (h:XA K a vs) (r:AVs xs vs):AV (.ktu xs) (.ref a)
inductive AVs:ad->List V->Prop
 | nil:AVs [] []
 | cons {x:A} {v:V} {xs:ad} {vs:List V} (h:AV x v) (t:AVs xs vs):AVs (x::xs) (v::vs)
end
abbrev DV:List (ae×A)->List (List Key×V)->Prop
 | [],[]=>True
 | p::r,q::r'=>(q.1=p.1.map Sum.inl/\AV K ρ H p.2 q.2)/\DV r r'
 | _,_=>False
abbrev DI:List (Int×A)->List (Key×V)->Prop
 | [],[]=>True
 | p::r,q::r'=>(q.1=Sum.inl p.1/\AV K ρ H p.2 q.2)/\DI r r'
 | _,_=>False
abbrev OR (a:ak):O->Prop
 | .lst xs=>∃vs,H a=some (.lst vs)/\AVs K ρ H xs vs
 | .dct kvs=>∃ks,H a=some (.dT ks)/\DV K ρ H kvs ks
 | .dki kvs=>∃ks,H a=some (.dK ks)/\DI K ρ H kvs ks
 | .ins _ _=>∃o u,H a=some (.frz o u)
structure Rel (S:jL):Prop where
 len:ρ.length=S.length
 nd:ρ.Nodup
 «at»:∀(n:Nat) (a:ak) (o:O),ρ[n]?=some a->S[n]?=some o->OR K ρ H a o
end
abbrev Xj:HO->Prop
 | .tup _=>True
 | .rng _ _=>True
 | .frz _ _=>True
 | _=>False
structure Ext0 (ρ ρ':ar)(H H':Hp):Prop where
 pre:ρ <+: ρ'
 im:∀a u,Xj u->H a=some u->H' a=some u
structure Ext (ρ ρ':ar)(H H':Hp):Prop extends Ext0 ρ ρ' H H' where
 fr:∀a u,H a=some u->a∉ρ->H' a=some u
 nw:∀a,a∈ρ'->a∈ρ\/H a=none
def Ext.refl{H:Hp}:Ext ρ ρ H H:=⟨⟨eE _,λ_ _ _ h=>h⟩,λ_ _ h _=>h,λ_ h=>.inl h⟩
def Ext.trans{H H1 H2:Hp}(a:Ext ρ ρ1 H H1)(b:Ext ρ1 ρ2 H1 H2):Ext ρ ρ2 H H2:=⟨⟨a.pre.trans b.pre,λx u i h=>b.im x u i (a.im x u i h)⟩,λx u h n=>b.fr x u (a.fr x u h n) λz=>(a.nw x z).elim n λz=>by(rw[z]at h;cases h),λx h=>by
 by_cases hx:x∈ρ
 ·exact .inl hx
 ·right
  cases q:H x with
  | none=>rfl
  | some u=>
   rcases b.nw x h with z|z
   ·exact((a.nw x z).elim hx λz=>by(rw[z]at q;cases q)).elim
   ·rw[a.fr x u q hx]at z;cases z⟩
def Ext0.get{H H':Hp}(e:Ext0 ρ ρ' H H'){n:Nat}{a:ak}(h:ρ[n]?=some a):ρ'[n]?=some a:=by
 obtain⟨t,rfl⟩:=e.pre;rw[bC (aK.mp h).1];exact h
section
variable {K:au}{ρ ρ':ar}{H H':Hp}
def Ext0.W3(e:Ext0 ρ ρ' H H'){a:ak}(h:ni K H a vs):ni K H' a vs:=by
 rcases h with(h|⟨o,h⟩)|h
 ·exact .inl (.inl (e.im _ _ trivial h))
 ·exact .inl (.inr ⟨o,e.im _ _ trivial h⟩)
 ·exact .inr h
def Ext0.fz(e:Ext0 ρ ρ' H H'){a:ak}(h:Fz K H a vs):Fz K H' a vs:=by
 rcases h with⟨o,h⟩|h
 ·exact .inl ⟨o,e.im _ _ trivial h⟩
 ·exact .inr h
def Fz.K1{a:ak}(h:Fz K H a vs):nH K H a vs:=by
 rcases h with⟨o,h⟩|h
 ·exact .inl (.inr ⟨o,h⟩)
 ·exact .inr h
mutual
theorem AV.lU(e:Ext0 ρ ρ' H H'):∀{x:A}{v:V},AV K ρ H x v->AV K ρ' H' x v
 | _,_,.non=>.non
 | _,_,.bl b=>.bl b
 | _,_,.int i=>.int i
 | _,_,.str x=>.str x
 | _,_,.ty x=>.ty x
 | _,_,.tup h r=>.tup (e.im _ _ trivial h) (AVs.lU e r)
 | _,_,.frz h r=>.frz (e.fz h) (AVs.lU e r)
 | _,_,.rng h=>.rng (e.im _ _ trivial h)
 | _,_,.ref h=>.ref (e.get h)
 | _,_,.exn n h x=>.exn n (e.im _ _ trivial h) x
 | _,_,.ktu h r=>.ktu h (AVs.lU e r)
theorem AVs.lU(e:Ext0 ρ ρ' H H'):∀{xs:ad}{vs:List V},AVs K ρ H xs vs->AVs K ρ' H' xs vs
 | _,_,.nil=>.nil
 | _,_,.cons h t=>.cons (AV.lU e h) (AVs.lU e t)
end
theorem DV.lU(e:Ext0 ρ ρ' H H'):∀{xs:List (ae×A)}{vs:List (List Key×V)},DV K ρ H xs vs->DV K ρ' H' xs vs
 | [],[],_=>trivial
 | _::_,_::_,⟨⟨a,b⟩,r⟩=>⟨⟨a,AV.lU e b⟩,DV.lU e r⟩
def DV.ext{x:List (ae×A)}{v:List (List Key×V)}(h:DV K ρ H x v)(e:Ext ρ ρ' H H'):DV K ρ' H' x v:=DV.lU e.toExt0 h
theorem DI.lU(e:Ext0 ρ ρ' H H'):∀{xs:List (Int×A)}{vs:List (Key×V)},DI K ρ H xs vs->DI K ρ' H' xs vs
 | [],[],_=>trivial
 | _::_,_::_,⟨⟨a,b⟩,r⟩=>⟨⟨a,AV.lU e b⟩,DI.lU e r⟩
def DI.ext{x:List (Int×A)}{v:List (Key×V)}(h:DI K ρ H x v)(e:Ext ρ ρ' H H'):DI K ρ' H' x v:=DI.lU e.toExt0 h
def AV.ext{x:A}{v:V}(h:AV K ρ H x v)(e:Ext ρ ρ' H H'):AV K ρ' H' x v:=AV.lU e.toExt0 h
def AVs.ext{x:ad}{v:List V}(h:AVs K ρ H x v)(e:Ext ρ ρ' H H'):AVs K ρ' H' x v:=AVs.lU e.toExt0 h
theorem AVs.length:∀{xs:ad}{vs:List V},AVs K ρ H xs vs->xs.length=vs.length
 | _,_,.nil=>rfl
 | _,_,.cons _ t=>dO (·+1) (AVs.length t)
theorem AVs.append:∀{xs ys:ad}{vs ws:List V},AVs K ρ H xs vs->AVs K ρ H ys ws->AVs K ρ H (xs++ys) (vs++ws)
 | _,_,_,_,.nil,s=>s
 | _,_,_,_,.cons h t,s=>.cons h (AVs.append t s)
theorem AVs.take:∀{xs:ad}{vs:List V}(n:Nat),AVs K ρ H xs vs->AVs K ρ H (xs.take n) (vs.take n)
 | _,_,0,_=>.nil
 | _,_,_+1,.nil=>.nil
 | _,_,n+1,.cons h t=>.cons h (AVs.take n t)
theorem AVs.drop:∀{xs:ad}{vs:List V}(n:Nat),AVs K ρ H xs vs->AVs K ρ H (xs.drop n) (vs.drop n)
 | _,_,0,r=>r
 | _,_,_+1,.nil=>.nil
 | _,_,n+1,.cons _ t=>AVs.drop n t
theorem AVs.reverse:∀{xs:ad}{vs:List V},AVs K ρ H xs vs->AVs K ρ H xs.reverse vs.reverse
 | _,_,.nil=>.nil
 | _,_,.cons h t=>by rw[dX,dX];exact(AVs.reverse t).append (.cons h .nil)
theorem AVs.get:∀{xs:ad}{vs:List V}{i:Nat}{x:A},AVs K ρ H xs vs->xs[i]?=some x->∃v,vs[i]?=some v/\AV K ρ H x v
 | _,_,_,_,.nil,e=>by simp at e
 | _,_,0,_,.cons h _,e=>by simp at e;subst e;exact⟨_,rfl,h⟩
 | _,_,i+1,x,.cons _ t,e=>by
  obtain⟨u,h1,h2⟩:=AVs.get (i:=i) (x:=x) t (by simpa using e);exact⟨u,by simpa using h1,h2⟩
theorem AVs.set{x:A}{v:V}(h:AV K ρ H x v):∀{xs:ad}{vs:List V}(i:Nat),AVs K ρ H xs vs->AVs K ρ H (xs.set i x) (vs.set i v)
 | _,_,_,.nil=>.nil
 | _,_,0,.cons _ t=>.cons h t
 | _,_,i+1,.cons q t=>.cons q (AVs.set h i t)
def AVs.one{x:A}{v:V}(h:AV K ρ H x v):AVs K ρ H [x] [v]:=.cons h .nil
theorem AVs.eraseIdx:∀{xs:ad}{vs:List V}(i:Nat),AVs K ρ H xs vs->AVs K ρ H (xs.eraseIdx i) (vs.eraseIdx i)
 | _,_,_,.nil=>.nil
 | _,_,0,.cons _ t=>t
 | _,_,i+1,.cons q t=>.cons q (AVs.eraseIdx i t)
theorem nX:∀(ns:ae),AVs K ρ H (ns.map .int) (ns.map .int)
 | []=>.nil
 | n::ns=>.cons (.int n) (nX ns)
def Rel.lay{S:jL}{p:ak}(R:Rel K ρ H S)(hp:H p=none)(r:AVs K ρ H xs vs):Ext ρ (ρ++[p]) H (upd H p (.lst vs))/\Rel K (ρ++[p]) (upd H p (.lst vs)) (S++[.lst xs])/\(ρ++[p])[S.length]?=some p:=by
 have ex:Ext ρ (ρ++[p]) H (upd H p (.lst vs)):=⟨⟨gu _ _,λa u _ h=>by rw[jS (j6 h hp)];exact h⟩,λa u h _=>by rw[jS (j6 h hp)];exact h,λa h=>by
  rcases bu.mp h with z|z
  ·exact .inl z
  ·have e:a=p:=by simpa using z
   rw[e];exact .inr hp⟩
 have np:∀(n:Nat) (a:ak),ρ[n]?=some a->a≠p:=by
  intro n a e z;subst z;have hn:n<S.length:=by rw[<- R.len];exact(aK.mp e).1
  have:=R.at n a S[n] e (aH hn)
  cases ho:S[n]with
  | lst xs=>rw[ho]at this;obtain⟨vs,h,_⟩:=this;rw[hp]at h;cases h
  | dct _|dki _=>rw[ho]at this;obtain⟨vs,h,_⟩:=this;rw[hp]at h;cases h
  | ins _ _=>rw[ho]at this;obtain⟨_,_,h⟩:=this;rw[hp]at h;cases h
 have last:(ρ++[p])[S.length]?=some p:=by rw[<- R.len];simp
 refine⟨ex,⟨by simp[R.len],?_,?_⟩,last⟩
 ·rw[cQ];refine⟨R.nd,by simp,λa ha b hb e=>?_⟩;have:b=p:=by simpa using hb
  obtain⟨n,hn,e'⟩:=iF.mp ha;exact np n a (by rw[aH hn,e']) (e.trans this)
 ·intro n a o h1 h2;by_cases hn:n<S.length
  ·rw[bC (by rw[R.len];exact hn)]at h1;rw[bC hn]at h2;have:=R.at n a o h1 h2
   cases o with
   | lst ys=>obtain⟨ws,e,q⟩:=this;exact⟨ws,by rw[jS (np n a h1)];exact e,q.ext ex⟩
   | dct _|dki _=>obtain⟨ws,e,q⟩:=this;exact⟨ws,by rw[jS (np n a h1)];exact e,q.ext ex⟩
   | ins _ _=>obtain⟨oo,uu,e⟩:=this;exact⟨oo,uu,by rw[jS (np n a h1)];exact e⟩
  ·have e:n=S.length:=by
    have:=(aK.mp h2).1;simp at this
    lia
   subst e;rw[last]at h1
   cases h1
   simp at h2;subst h2;exact⟨vs,kB,r.ext ex⟩
def Rel.im{p:ak}(R:Rel K ρ H S)(hp:H p=none):Ext ρ ρ H (upd H p u)/\Rel K ρ (upd H p u) S:=by
 have ex:Ext ρ ρ H (upd H p u):=⟨⟨eE _,λa u _ h=>by rw[jS (j6 h hp)];exact h⟩,λa u h _=>by rw[jS (j6 h hp)];exact h,λ_ h=>.inl h⟩;refine⟨ex,R.len,R.nd,λn a o h1 h2=>?_⟩;have:=R.at n a o h1 h2
 cases o with
 | lst ys=>obtain⟨ws,e,q⟩:=this;exact⟨ws,by rw[jS (j6 e hp)];exact e,q.ext ex⟩
 | dct _|dki _=>obtain⟨ws,e,q⟩:=this;exact⟨ws,by rw[jS (j6 e hp)];exact e,q.ext ex⟩
 | ins _ _=>obtain⟨oo,uu,e⟩:=this;exact⟨oo,uu,by rw[jS (j6 e hp)];exact e⟩
def Rel.put{S:jL}{n:Nat}{a:ak}(R:Rel K ρ H S)(ha:ρ[n]?=some a)(hS:S[n]?=some (.lst xs))(r:AVs K ρ H ys ws):Ext ρ ρ H (upd H a (.lst ws))/\Rel K ρ (upd H a (.lst ws)) (S.set n (.lst ys)):=by
 obtain⟨vs,e,_⟩:=R.at n a _ ha hS;have ex:Ext ρ ρ H (upd H a (.lst ws)):=⟨⟨eE _,λb u i h=>by
  have:b≠a:=by
   intro z;subst z;rw[e]at h;cases h;exact i
  rw[jS this];exact h⟩,λb u h n=>by
  rw[jS (λz=>n (by rw[z];exact aZ ha))];exact h,λ_ h=>.inl h⟩
 refine⟨ex,by rw[bN];exact R.len,R.nd,λm b o h1 h2=>?_⟩;by_cases hm:m=n
 ·subst hm;rw[ha]at h1;cases h1;rw[bM (aK.mp hS).1]at h2
  cases h2
  exact⟨ws,kB,r.ext ex⟩
 ·rw[bK (gr hm)]at h2;have nb:b≠a:=λz=>by
   subst z;obtain⟨l1,e1⟩:=aK.mp ha;obtain⟨l2,e2⟩:=aK.mp h1;exact hm ((c8 R.nd).mp (e2.trans e1.symm))
  have:=R.at m b o h1 h2
  cases o with
  | lst ys=>obtain⟨ws',e',q⟩:=this;exact⟨ws',by rw[jS nb];exact e',q.ext ex⟩
  | dct _|dki _=>obtain⟨ws',e',q⟩:=this;exact⟨ws',by rw[jS nb];exact e',q.ext ex⟩
  | ins _ _=>obtain⟨oo,uu,e'⟩:=this;exact⟨oo,uu,by rw[jS nb];exact e'⟩
def Rel.lst{n:Nat}{a:ak}(R:Rel K ρ H S)(ha:ρ[n]?=some a)(hS:S[n]?=some (.lst xs)):∃vs,H a=some (.lst vs)/\AVs K ρ H xs vs:=R.at n a _ ha hS
structure SR (K:au)(ρ:ar)(H:Hp)(τ:ad)(σ:St):Prop where
 len:τ.length=σ.length
 «at»:∀(i:Nat) (a:A),τ[i]?=some a->a=.unb\/∃v,σ[i]?=some (some v)/\AV K ρ H a v
def SR.lU(s:SR K ρ H τ σ)(e:Ext0 ρ ρ' H H'):SR K ρ' H' τ σ:=⟨s.len,λi a h=>by
 rcases s.at i a h with z|⟨v,h1,h2⟩
 ·exact .inl z
 ·exact .inr ⟨v,h1,AV.lU e h2⟩⟩
def SR.ext(s:SR K ρ H τ σ)(e:Ext ρ ρ' H H'):SR K ρ' H' τ σ:=s.lU e.toExt0
def Rel.out{D:ak}(R:Rel K ρ H S)(hD:H D=some (.lst vs))(hn:D∉ρ):Ext0 ρ ρ H (upd H D (.lst ws))/\Rel K ρ (upd H D (.lst ws)) S:=by
 have ex:Ext0 ρ ρ H (upd H D (.lst ws)):=⟨eE _,λb u i h=>by
  have:b≠D:=by
   intro z;subst z;rw[hD]at h;cases h;exact i
  rw[jS this];exact h⟩
 refine⟨ex,R.len,R.nd,λn a o h1 h2=>?_⟩;have na:a≠D:=λz=>hn (by rw[<- z];exact aZ h1);have:=R.at n a o h1 h2
 cases o with
 | lst ys=>obtain⟨ws',e,q⟩:=this;exact⟨ws',by rw[jS na];exact e,AVs.lU ex q⟩
 | dct _|dki _=>obtain⟨ws',e,q⟩:=this;exact⟨ws',by rw[jS na];exact e,q.lU ex⟩
 | ins _ _=>obtain⟨oo,uu,e⟩:=this;exact⟨oo,uu,by rw[jS na];exact e⟩
def Rel.take{S:jL}{D:ak}(R:Rel K ρ H S)(hD:H D=some (.lst vs))(hn:D∉ρ)(r:AVs K ρ H xs vs):Rel K (ρ++[D]) H (S++[.lst xs])/\(ρ++[D])[S.length]?=some D:=by
 have ex:Ext0 ρ (ρ++[D]) H H:=⟨gu _ _,λ_ _ _ h=>h⟩;have last:(ρ++[D])[S.length]?=some D:=by rw[<- R.len];simp
 refine⟨⟨by simp[R.len],?_,λn a o h1 h2=>?_⟩,last⟩
 ·rw[cQ];refine⟨R.nd,by simp,λa ha b hb e=>?_⟩;have:b=D:=by simpa using hb
  exact hn (by rw[<- this,<- e];exact ha)
 ·by_cases hs:n<S.length
  ·rw[bC (by rw[R.len];exact hs)]at h1;rw[bC hs]at h2;have:=R.at n a o h1 h2
   cases o with
   | lst ys=>obtain⟨ws,e,q⟩:=this;exact⟨ws,e,AVs.lU ex q⟩
   | dct _|dki _=>obtain⟨ws,e,q⟩:=this;exact⟨ws,e,q.lU ex⟩
   | ins _ _=>obtain⟨oo,uu,e⟩:=this;exact⟨oo,uu,e⟩
  ·have e:n=S.length:=by
    have:=(aK.mp h2).1;simp at this
    lia
   subst e;rw[last]at h1
   cases h1
   simp at h2;subst h2;exact⟨vs,hD,AVs.lU ex r⟩
def SR.set{τ:ad}{σ:St}{a:A}{v:V}(s:SR K ρ H τ σ)(h:AV K ρ H a v):SR K ρ H (τ.set i a) (σ.set i (some v)):=by
 refine⟨by simp[s.len],λj b e=>?_⟩;by_cases hj:j=i
 ·subst hj;have hl:j<τ.length:=by
   have:=(aK.mp e).1;simpa using this
  rw[bM hl]at e
  cases e
  exact .inr ⟨v,bM (by rw[<- s.len];exact hl),h⟩
 ·rw[bK (gr hj)]at e;rw[bK (gr hj)];exact s.at j b e
end
end Am
namespace Am
open PySem PySem.Spec PyProof.Rows L2
abbrev XE (X:Cx)(ρ:ar)(H:Hp):Str->jL->Prop:=λc S'=>∀(C:ak) (ρ':ar) (H':Hp),VB X.K c C->Ext ρ ρ' H H'->Rel X.K ρ' H' S'->EX X (.ref C) none H'
def XE.ext{X:Cx}{H H':Hp}{c:Str}(h:XE X ρ H c S)(e:Ext ρ ρ' H H'):XE X ρ' H' c S:=λC ρ2 H2 n e2=>h C ρ2 H2 n (e.trans e2)
abbrev wW (X:Cx)(ρ:ar)(H:Hp)(Q:VK):A->jL->Prop:=λa S'=>∀ρ' H' v,Ext ρ ρ' H H'->Rel X.K ρ' H' S'->AV X.K ρ' H' a v->Q v H'
abbrev Vh (X:Cx)(ρ:ar)(H:Hp)(Q:Bool->Hp->Prop):Bool->jL->Prop:=λb S'=>∀ρ' H',Ext ρ ρ' H H'->Rel X.K ρ' H' S'->Q b H'
abbrev Xz (X:Cx)(ρ:ar)(H:Hp)(Q:List V->Hp->Prop):ad->jL->Prop:=λas S'=>∀ρ' H' vs,Ext ρ ρ' H H'->Rel X.K ρ' H' S'->AVs X.K ρ' H' as vs->Q vs H'
def wW.ext{X:Cx}{H H':Hp}{Q:VK}{a:A}(h:wW X ρ H Q a S)(e:Ext ρ ρ' H H'):wW X ρ' H' Q a S:=λρ2 H2 v e2=>h ρ2 H2 v (e.trans e2)
def Vh.ext{X:Cx}{H H':Hp}{Q:Bool->Hp->Prop}{a:Bool}(h:Vh X ρ H Q a S)(e:Ext ρ ρ' H H'):Vh X ρ' H' Q a S:=λρ2 H2 e2=>h ρ2 H2 (e.trans e2)
def jJ{α:Type}{X:Cx}{H H':Hp}{r:R α}{P P':α->jL->Prop}(h:r.post P (XE X ρ H))(e:Ext ρ ρ' H H')(hp:∀a S,P a S->P' a S):r.post P' (XE X ρ' H'):=G6 h hp λ_ _ z=>z.ext e
abbrev tE (X:Cx)(c:Ex):TE:=λσ H Q=>∃ρ S τ,Rel X.K ρ H S/\SR X.K ρ H τ σ/\(c τ S).post (wW X ρ H Q) (XE X ρ H)
abbrev tT (X:Cx)(c:Te):TT:=λσ H Q=>∃ρ S τ,Rel X.K ρ H S/\SR X.K ρ H τ σ/\(c τ S).post (Vh X ρ H Q) (XE X ρ H)
abbrev tL (X:Cx)(c:qJ):TA:=λσ H Q=>∃ρ S τ,Rel X.K ρ H S/\SR X.K ρ H τ σ/\(c τ S).post (Xz X ρ H Q) (XE X ρ H)
abbrev AE (X:Cx)(e:aE)(c:Ex):Prop:=PE X e (tE X c)
abbrev AT (X:Cx)(e:aE)(c:Te):Prop:=PT X e (tT X c)
abbrev AW (X:Cx)(e:aE)(c:Te):Prop:=PW X e (tT X c)
abbrev AL (X:Cx)(es:List aE)(c:qJ):Prop:=PA X es (tL X c)
def PE.imp{X:Cx}{e:aE}{t t':TE}(h:PE X e t)(i:∀σ H Q,t' σ H Q->t σ H Q):PE X e t':=λpins s σ H Q I q=>h pins s σ H Q I (i σ H Q q)
def PT.imp{X:Cx}{e:aE}{t t':TT}(h:PT X e t)(i:∀σ H Q,t' σ H Q->t σ H Q):PT X e t':=λpins s σ H Q I q=>h pins s σ H Q I (i σ H Q q)
def PW.imp{X:Cx}{e:aE}{t t':TT}(h:PW X e t)(i:∀σ H Q,t' σ H Q->t σ H Q):PW X e t':=λw pins s σ H Q I q=>h w pins s σ H Q I (i σ H Q q)
def PA.imp{X:Cx}{e:List aE}{t t':TA}(h:PA X e t)(i:∀σ H Q,t' σ H Q->t σ H Q):PA X e t':=λp pins s σ H Q I q=>h p pins s σ H Q I (i σ H Q q)
def AW.at{X:Cx}{e:aE}{c:Te}(h:AW X e c):AT X e c:=h _
abbrev A.nV:A->Bool
 | .unb=>true
 | _=>false
abbrev jF (i:Nat):Ex:=λτ S=>if (τ.getD i .unb).nV then .no else .ok (τ.getD i .unb) S
abbrev eC (a:A):Ex:=λ_ S=>.ok a S
section
variable {X:Cx}{pos:Pos}{a b:aE}
def jE(i:Nat){x:Str}(hN:X.N[i]?=some x:=by rfl)(hv:SW X.env.scope x:=by first|exact Or.inl rfl|exact Or.inr (Or.inl rfl)|exact Or.inr (Or.inr rfl))(hd:(x == ("__debug__" : Str))=false:=by decide)
  (hcd:(x == ("__classdict__" : Str))=false:=by decide):AE X (.Name x pos) (jF i):=PE.imp (IC hN hv hd hcd) λσ H Q h9=>by
 room;unfold jF at h
 cases hi:τ[i]? with
 | none=>
  rw[aI,hi]at h;exact h.elim
 | some x=>
  rw[aI,hi]at h
  rcases r.at i x hi with z|⟨v,e,q⟩
  ·subst z;exact h.elim
  ·refine⟨v,e,?_⟩
   cases x<;>first|(exact h ρ H v .refl R q)|exact h.elim
def jK{i:Int}{j pos}:AE X (.Constant (.int i) j pos) (eC (.int i)):=PE.imp DN λσ H Q ⟨ρ,S,τ,R,r,h⟩=>h ρ H _ .refl R (.int i)
def EZ{j pos}:AE X (.Constant (.bool i) j pos) (eC (.bl i)):=PE.imp UI λσ H Q ⟨ρ,S,τ,R,r,h⟩=>h ρ H _ .refl R (.bl i)
def IB{j pos}:AE X (.Constant .none j pos) (eC .non):=PE.imp Sf λσ H Q ⟨ρ,S,τ,R,r,h⟩=>h ρ H _ .refl R .non
def uH{x:Str}{i:Int}{t:Tok}(hm:X.mg x=some (.int i t))(hg:Gl X x:=by rfl)(hd:(x == ("__debug__" : Str))=false:=by decide):AE X (.Name x pos) (eC (.int i)):=
 PE.imp (Nz (v:=.int i) hg hm ⟨t,rfl⟩ hd) λσ H Q ⟨ρ,S,τ,R,r,h⟩=>h ρ H _ .refl R (.int i)
abbrev jP (f:A->A->jL->R A)(ca cb:Ex):Ex:=λτ S=>(ca τ S).bind λa S1=>(cb τ S1).bind λb S2=>f a b S2
abbrev r2 (X:Cx)(f:A->A->jL->R A):R2:=λx y H Q=>∃ρ S a b,Rel X.K ρ H S/\AV X.K ρ H a x/\AV X.K ρ H b y/\(f a b S).post (wW X ρ H Q) (XE X ρ H)
abbrev r1 (X:Cx)(f:A->jL->R A):V->Hp->VK->Prop:=λx H Q=>∃ρ S a,Rel X.K ρ H S/\AV X.K ρ H a x/\(f a S).post (wW X ρ H Q) (XE X ρ H)
abbrev rN (X:Cx)(f:ad->jL->R A):List V->Hp->VK->Prop:=λxs H Q=>∃ρ S as,Rel X.K ρ H S/\AVs X.K ρ H as xs/\(f as S).post (wW X ρ H Q) (XE X ρ H)
def n8.imp{f:af->af->Sem af}{r r':R2}(h:n8 X f r)(i:∀x y H Q,r' x y H Q->r x y H Q):n8 X f r':=λpins s σ H x y v u Q I rx ry q=>h pins s σ H x y v u Q I rx ry (i _ _ _ _ q)
def j_.imp{f:af}{r r':List V->Hp->VK->Prop}(h:j_ X f r)(i:∀x H Q,r' x H Q->r x H Q):j_ X f r':=λpins s σ H x v Q I rx q=>h pins s σ H x v Q I rx (i _ _ _ q)
def um{f:A->A->jL->R A}{ca cb:Ex}{H:Hp}{Q:VK}(h:tE X (jP f ca cb) σ H Q):U5 (r2 X f) (tE X ca) (tE X cb) σ H Q:=by
 kln_w;refine⟨ρ,S,τ,R,r,jJ (jO h) .refl λa S1 h1 ρ1 H1 x e1 R1 v1=>⟨ρ1,S1,τ,R1,r.ext e1,jJ (jO h1) e1 λb S2 h2 ρ2 H2 y e2 R2 v2=>?_⟩⟩;exact⟨ρ2,S2,a,b,R2,v1.ext e2,v2,jJ h2 (e1.trans e2) λc S3 h3=>h3.ext (e1.trans e2)⟩
def jW{f:A->A->jL->R A}{ca cb:Ex}(ho:n8 X (binaryOp op) (r2 X f))(ha:AE X a ca)(hb:AE X b cb):AE X (.BinOp a op b pos) (jP f ca cb):=
 PE.imp (T9 ho ha hb) λσ H Q h=>um h
def Qt{op:CmpOp}{f:A->A->jL->R A}{ca cb:Ex}(ho:n8 X (compareOp op) (r2 X f))(ha:AE X a ca)(hb:AE X b cb)(hm:behindInMarks op b=false:=by first|exact IP _|with_unfolding_all rfl):AE X (.Compare a [op] [b] pos) (jP f ca cb):=
 PE.imp (NS ho ha hb hm) λσ H Q h=>um h
abbrev A.Q9:A->jL->bd
 | .non,_=>some false
 | .bl b,_=>some b
 | .int i,_=>some (i != 0)
 | .str x,_=>if x.length<=sizeLine then some ((x.length:Int) != 0)else none
 | .tup xs,_=>some (!xs.isEmpty)
 | .frz xs,_=>some (!xs.isEmpty)
 | .ref n,S=>(jH S n).map λxs=>!xs.isEmpty
 | _,_=>none
abbrev r8 (c:Ex):Te:=λτ S=>(c τ S).bind λa S1=>opt (a.Q9 S1) λb=>.ok b S1
abbrev ug (c:Ex):Te:=λτ S=>(c τ S).bind λa S1=>match a with
 | .bl b=>.ok b S1
 | _=>.no
def BA{K:au}{H:Hp}{b:Bool}{v:V}(h:AV K ρ H (.bl b) v):v=.bl b:=by cases h;rfl
def kZ{op:CmpOp}{f:A->A->jL->R A}{ca cb:Ex}(ho:n8 X (compareOp op) (r2 X f))(ha:AE X a ca)(hb:AE X b cb)(hm:behindInMarks op b=false:=by first|exact IP _|with_unfolding_all rfl):AT X (.Compare a [op] [b] pos) (ug (jP f ca cb)):=
 PT.imp (Ob ho ha hb hm) λσ H Q h9=>by
  room;refine um ⟨ρ,S,τ,R,r,jJ (jO h) .refl λc S1 h1 ρ1 H1 x e1 R1 v1=>?_⟩
  cases c with
  | bl k=>cases BA v1;exact⟨k,rfl,h1 ρ1 H1 e1 R1⟩
  | _=>exact h1.elim
def Rj{K:au}{H:Hp}{x:A}{v:V}{b:Bool}(R:Rel K ρ H S)(h:AV K ρ H x v)(e:x.Q9 S=some b):Rv K v H b:=by
 have emp:∀{xs:ad} {vs:List V},AVs K ρ H xs vs->(!xs.isEmpty)=!vs.isEmpty:=λr=>by cases r<;>rfl
 cases h with
 | non=>exact(aW e).symm
 | bl b=>exact(aW e).symm
 | int i=>exact(aW e).symm
 | str x=>
  by_cases hx:x.length<=sizeLine
  ·exact⟨hx,by have:=(aN hx).symm.trans e;exact(aW this).symm⟩
  ·have:=(aM hx).symm.trans e;cases this
 | tup h r=>exact .inr (.inl ⟨_,ni.of h,by rw[<- emp r];exact(aW e).symm⟩)
 | frz h r=>exact .inl ⟨_,h.K1,by rw[<- emp r];exact(aW e).symm⟩
 | rng h=>cases e
 | ty n=>cases e
 | exn n h x=>cases e
 | ktu h r=>cases e
 | @ref a n h=>
  have e:(jH S n).map (λxs=>!xs.isEmpty)=some b:=e;obtain⟨xs,hn,e⟩:=bA.mp e;obtain⟨vs,h1,h2⟩:=R.lst h (jU hn);exact .inl ⟨vs,nH.of h1,by rw[<- emp h2];exact e.symm⟩
def qF{ca:Ex}(ha:AE X a ca)(he:∀whole,isTrue a X.env whole=(do let v <- whole;standAt a.pos;holding [v] (truthy v)):=by intro _;rfl):AT X a (r8 ca):=
 PT.imp (LD ha he) λσ H Q ⟨ρ,S,τ,R,r,h⟩=>⟨ρ,S,τ,R,r,jJ (jO h) .refl λc S1 h1 ρ1 H1 x e1 R1 v1=>by
  obtain⟨b,hb,h1⟩:=jM h1;exact⟨b,Rj R1 v1 hb,h1 ρ1 H1 e1 R1⟩⟩
abbrev C8 (c:Te):Te:=λτ S=>(c τ S).bind λb S1=>.ok (!b) S1
abbrev WB (c d:Te):Te:=λτ S=>(c τ S).bind λb S1=>match b with|true=>d τ S1|false=>.ok false S1
abbrev SD (c d:Te):Te:=λτ S=>(c τ S).bind λb S1=>match b with|true=>.ok true S1|false=>d τ S1
def xO{c:Te}(h:AT X a c):AT X (.UnaryOp .Not a pos) (C8 c):=PT.imp (RY h) λσ H Q ⟨ρ,S,τ,R,r,h⟩=>⟨ρ,S,τ,R,r,jJ (jO h) .refl λb S1 h1=>h1⟩
def or_imp{c d:Te}{H:Hp}{Q:Bool->Hp->Prop}(h:tT X (SD c d) σ H Q):W8 (tT X c) (tT X d) σ H Q:=by
 kln_w;refine⟨ρ,S,τ,R,r,jJ (jO h) .refl λb S1 h1 ρ1 H1 e1 R1=>?_⟩
 cases b with
 | false=>
  rw[aM aY];exact⟨ρ1,S1,τ,R1,r.ext e1,jJ h1 e1 λ_ _ z=>z.ext e1⟩
 | true=>
  rw[aN rfl];exact h1 ρ1 H1 e1 R1
variable {rest:List aE}
def CM{c:Te}(h:AT X a c):AW X (.BoolOp .Or [a] pos) c:=Rt h
def Fy{c d:Te}(h:AT X a c)(h2:AW X (.BoolOp .Or (b::rest) pos) d):AW X (.BoolOp .Or (a::b::rest) pos) (SD c d):=PW.imp (Ux h h2) λ_ _ _ q=>or_imp q
abbrev Ji (c d:Ex):Ex:=λτ S=>(c τ S).bind λa S1=>match a with | .bl true=>d τ S1 | .bl false=>.ok (.bl false) S1|_=>.no
abbrev W4 (c d:Ex):Ex:=λτ S=>(c τ S).bind λa S1=>match a with | .bl true=>.ok (.bl true) S1 | .bl false=>d τ S1|_=>.no
abbrev Of (c:Ex):Ex:=λτ S=>(c τ S).bind λa S1=>match a with | .bl b=>.ok (.bl !b) S1|_=>.no
def Lj{op}{c:Ex}(h:AE X a c):AE X (.BoolOp op [a] pos) c:=PY h
def JX{c d:Ex}(h:AE X a c)(h2:AE X (.BoolOp .And (b::rest) pos) d):AE X (.BoolOp .And (a::b::rest) pos) (Ji c d):=PE.imp (SJ h h2) λσ H Q h9=>by
 room;refine⟨ρ,S,τ,R,r,jJ (jO h) .refl λb S1 h1 ρ1 H1 x e1 R1 v1=>?_⟩
 cases b with
 | bl k=>
  cases BA v1
  refine⟨k,rfl,?_⟩
  cases k with
  | true=>
   rw[aN rfl];exact⟨ρ1,S1,τ,R1,r.ext e1,jJ h1 e1 λ_ _ z=>z.ext e1⟩
  | false=>
   rw[aM aY];exact h1 ρ1 H1 _ e1 R1 (.bl false)
 | _=>exact h1.elim
def Ik{c:Ex}(h:AE X a c):AE X (.UnaryOp .Not a pos) (Of c):=PE.imp (Qp h) λσ H Q h9=>by
 room;refine⟨ρ,S,τ,R,r,jJ (jO h) .refl λb S1 h1 ρ1 H1 x e1 R1 v1=>?_⟩
 cases b with
 | bl k=>
  cases BA v1
  exact⟨k,rfl,h1 ρ1 H1 _ e1 R1 (.bl _)⟩
 | _=>exact h1.elim
abbrev Xl (t:Te)(c d:Ex):Ex:=λτ S=>(t τ S).bind λb S1=>match b with|true=>c τ S1|false=>d τ S1
abbrev jQ:qJ:=λ_ S=>.ok [] S
abbrev jG (c:Ex)(d:qJ):qJ:=λτ S=>(c τ S).bind λa S1=>(d τ S1).bind λas S2=>.ok (a::as) S2
def jT:AL X [] jQ:=PA.imp zN λσ H Q ⟨ρ,S,τ,R,r,h⟩=>h ρ H _ .refl R .nil
def jI{e:aE}{c:Ex}{d:qJ}(ha:AE X e c)(hr:AL X es d)(hs:starEach (e::es) X.env=(false,eval e X.env)::starEach es X.env:=by rfl):AL X (e::es) (jG c d):=
 PA.imp (ur ha hr hs) λσ H Q h9=>by
  room;refine⟨ρ,S,τ,R,r,jJ (jO h) .refl λa S1 h1 ρ1 H1 x e1 R1 v1=>⟨ρ1,S1,τ,R1,r.ext e1,jJ (jO h1) e1 λas S2 h2 ρ2 H2 xs e2 R2 v2=>?_⟩⟩;exact h2 ρ2 H2 _ (e1.trans e2) R2 (.cons (v1.ext e2) v2)
abbrev uD (d:qJ):Ex:=λτ S=>(d τ S).bind λas S1=>gd (as.length<=sizeLine) (.ok (.tup as) S1)
abbrev newL (as:ad)(S:jL):R A:=gd (as.length<=sizeLine) (.ok (.ref S.length) (S++[.lst as]))
abbrev xw (d:qJ):Ex:=λτ S=>(d τ S).bind λas S1=>newL as S1
def qp{H H0:Hp}{Q:VK}(R:Rel X.K ρ H S)(r:AVs X.K ρ H as vs)(e:Ext ρ0 ρ H0 H)(h:wW X ρ0 H0 Q (.tup as) S):∀p,H p=none->Q (.ref p) (upd H p (.tup vs)):=λp hp=>by
 obtain⟨ex,R'⟩:=R.im (u:=.tup vs) hp;exact h ρ _ _ (e.trans ex) R' (.tup kB (r.ext ex))
def lN{H H0:Hp}{S:jL}{Q:VK}(R:Rel X.K ρ H S)(r:AVs X.K ρ H as vs)(e:Ext ρ0 ρ H0 H)(h:wW X ρ0 H0 Q (.ref S.length) (S++[.lst as])):∀p,H p=none->Q (.ref p) (upd H p (.lst vs)):=λp hp=>by
 obtain⟨ex,R',g⟩:=R.lay hp r;exact h _ _ _ (e.trans ex) R' (.ref g)
def NI{H H0:Hp}{vs:List V}{Q:VK}(R:Rel X.K ρ H S)(r:AVs X.K ρ H as vs)(e:Ext ρ0 ρ H0 H)(h:(newL as S).post (wW X ρ0 H0 Q) (XE X ρ0 H0)):vs.length<=sizeLine/\∀p,H p=none->Q (.ref p) (upd H p (.lst vs)):=by
 obtain⟨hl,h⟩:=j9 h;exact⟨by rw[<- r.length];exact hl,lN R r e h⟩
def vL{d:qJ}{x1}(h:AL X es d):AE X (.Tuple es x1 pos) (uD d):=PE.imp (QC h) λσ H Q h9=>by
 room;refine⟨ρ,S,τ,R,r,jJ (jO h) .refl λas S1 h1 ρ1 H1 xs e1 R1 v1=>?_⟩;obtain⟨hl,h1⟩:=j9 h1;exact⟨by rw[<- v1.length];exact hl,qp R1 v1 e1 h1⟩
def qk{d:qJ}(h:AL X es d):AE X (.List es pos) (xw d):=PE.imp (RL h) λσ H Q ⟨ρ,S,τ,R,r,h⟩=>
 ⟨ρ,S,τ,R,r,jJ (jO h) .refl λas S1 h1 ρ1 H1 xs e1 R1 v1=>NI R1 v1 e1 h1⟩
end
section
variable {X:Cx}{pos:Pos}{a b:aE}
abbrev aSub (a b:A)(S:jL):R A:=match a,b with
 | .int i,.int j=>.ok (.int (i-j)) S
 | _,_=>.no
def m_:n8 X (binaryOp .Sub) (r2 X aSub):=n8.imp QU λx y H Q h9=>by
 z_go
 cases va<;>first|exact h.elim|(cases vb<;>first|exact h.elim|exact⟨_,_,rfl,rfl,h _ _ _ .refl R (.int _)⟩)
abbrev Cu (i j:Int):Bool:=(decide (-(2 ^ 64)<i) && decide (i<2 ^ 64)) || (decide (-(2 ^ 64)<j) && decide (j<2 ^ 64))
def mulOk_of{i j:Int}(h:Cu i j=true):MV i j:=by
 unfold Cu at h;dsimp[Bool.or_eq_true,dP,decide_eq_true_eq]at h;exact h
abbrev vd (a b:A)(S:jL):R A:=match a,b with
 | .int i,.int j=>gd (Cu i j) (.ok (.int (i * j)) S)
 | .ref n,.int k=>opt (jH S n) λxs=>gd (-(2 ^ 63)<=k/\k<2 ^ 63/\xs.length * k.toNat<=sizeLine) (.ok (.ref S.length) (S++[.lst (List.replicate k.toNat xs).flatten]))
 | _,_=>.no
theorem AVs.rep{K:au}{H:Hp}(r:AVs K ρ H xs vs):∀k:Nat,AVs K ρ H (List.replicate k xs).flatten (List.replicate k vs).flatten
 | 0=>.nil
 | k+1=>by rw[dc,dc,dY,dY];exact r.append (AVs.rep r k)
def yL:n8 X (binaryOp .Mult) (r2 X vd):=λpins s σ H x y v u Q I rx ry h9=>by
 z_go
 cases va with
 | int i=>
  cases vb with
  | int j=>
   obtain⟨hm,h⟩:=j9 h;exact Rk pins s σ H _ _ v u Q I rx ry ⟨i,j,rfl,rfl,mulOk_of hm,h _ _ _ .refl R (.int _)⟩
  | _=>exact h.elim
 | @ref p n hp=>
  cases vb with
  | int k=>
   kt_k;obtain⟨hc,h⟩:=j9 h;obtain⟨vs,h1,h2⟩:=R.lst hp (jU hn);exact Qd pins s σ H _ _ v u Q I rx ry ⟨p,k,vs,rfl,rfl,h1,hc.1,hc.2.1,by rw[<- h2.length];exact hc.2.2,lN R (h2.rep _) .refl h⟩
  | _=>exact h.elim
 | _=>exact h.elim
abbrev E8 (a b:A)(S:jL):R A:=match a,b with
 | .int i,.int j=>gd (0<j/\j<18446744073709551616) (.ok (.int (i / j)) S)
 | _,_=>.no
def Ij:n8 X (binaryOp .FloorDiv) (r2 X E8):=n8.imp HH λx y H Q h9=>by
 z_go
 cases va<;>first|exact h.elim|(cases vb<;>first|exact h.elim|exact⟨_,_,rfl,rfl,(j9 h).1,(j9 h).2 _ _ _ .refl R (.int _)⟩)
abbrev zQ (a b:A)(S:jL):R A:=match a,b with
 | .int i,.int j=>gd (0<j) (.ok (.int (i % j)) S)
 | _,_=>.no
def zA:n8 X (binaryOp .Mod) (r2 X zQ):=n8.imp QN λx y H Q h9=>by
 z_go
 cases va<;>first|exact h.elim|(cases vb<;>first|exact h.elim|exact⟨_,_,rfl,rfl,(j9 h).1,(j9 h).2 _ _ _ .refl R (.int _)⟩)
abbrev Ro (a b:A)(S:jL):R A:=match a,b with
 | .int i,.int j=>gd (0<=j/\j<=1000000/\i.natAbs<2 ^ 64) (.ok (.int (i ^ j.toNat)) S)
 | _,_=>.no
def Ur:n8 X (binaryOp .Pow) (r2 X Ro):=n8.imp SA λx y H Q h9=>by
 z_go
 cases va<;>first|exact h.elim|(cases vb<;>first|exact h.elim|exact⟨_,_,rfl,rfl,(j9 h).1,(j9 h).2 _ _ _ .refl R (.int _)⟩)
abbrev l_ (a b:A)(S:jL):R A:=match a,b with
 | .int i,.int j=>.ok (.int (i+j)) S
 | .tup xs,.tup ys=>gd (xs.length+ys.length<=sizeLine) (.ok (.tup (xs++ys)) S)
 | .str x,.str y=>gd (x.length+y.length<=sizeLine) (.ok (.str (x++y)) S)
 | .ref n,.ref m=>opt (jH S n) λxs=>opt (jH S m) λys=>gd (xs.length+ys.length<=sizeLine) (.ok (.ref S.length) (S++[.lst (xs++ys)]))
 | _,_=>.no
def AVs.nil_inv{K:au}{H:Hp}(r:AVs K ρ H xs vs):xs=[] ↔ vs=[]:=by cases r<;>simp
def nG:n8 X (binaryOp .Add) (r2 X l_):=λpins s σ H x y v u Q I rx ry h9=>by
 z_go
 cases va with
 | int i=>
  cases vb with
  | int j=>exact Qy pins s σ H _ _ v u Q I rx ry ⟨i,j,rfl,rfl,h _ _ _ .refl R (.int _)⟩
  | _=>exact h.elim
 | str x=>
  cases vb with
  | str y=>
   obtain⟨hc,h⟩:=j9 h;exact Dj pins s σ H _ _ v u Q I rx ry ⟨x,y,rfl,rfl,hc,h _ _ _ .refl R (.str _)⟩
  | _=>exact h.elim
 | @tup p xs vs h1 r1=>
  cases vb with
  | @tup q ys ws h2 r2=>
   obtain⟨hc,h⟩:=j9 h;by_cases hv:vs=[]
   ·have hx:=r1.nil_inv.mpr hv;subst hv hx;exact JM pins s σ H _ _ v u Q I rx ry ⟨p,q,ws,rfl,rfl,ni.of h1,ni.of h2,h _ _ _ .refl R (.tup h2 r2)⟩
   ·refine MG pins s σ H _ _ v u Q I rx ry ⟨p,q,vs,ws,rfl,rfl,ni.of h1,ni.of h2,hv,by rw[<- r1.length,<- r2.length];exact hc,λe=>?_,λ_=>qp R (r1.append r2) .refl h⟩;have hy:=r2.nil_inv.mpr e;subst hy;rw[cX]at h;exact h _ _ _ .refl R (.tup h1 r1)
  | _=>exact h.elim
 | @ref p n hp=>
  cases vb with
  | @ref q m hq=>
   kt_k;obtain⟨ys,hm,h⟩:=jM h;obtain⟨hc,h⟩:=j9 h;obtain⟨vs,h1,h2⟩:=R.lst hp (jU hn);obtain⟨ws,h3,h4⟩:=R.lst hq (jU hm);exact QI pins s σ H _ _ v u Q I rx ry ⟨p,q,vs,ws,rfl,rfl,h1,h3,by rw[<- h2.length,<- h4.length];exact hc,lN R (h2.append h4) .refl h⟩
  | _=>exact h.elim
 | _=>exact h.elim
abbrev A.ints:ad->Option (ae)
 | []=>some []
 | .int i::xs=>(A.ints xs).map (i::·)
 | _=>none
theorem qE{K:au}{H:Hp}:∀{xs:ad}{vs:List V}{bs:ae},AVs K ρ H xs vs->A.ints xs=some bs->vs=bs.map V.int
 | _,_,_,.nil,e=>by cases e;rfl
 | _,_,_,.cons (x:=.int b) h t,e=>by
  obtain⟨cs,e1,rfl⟩:=bA.mp e
  cases h
  rw[qE t e1];rfl
 | _,_,_,.cons (x:=.unb) h t,e=>nomatch e
 | _,_,_,.cons (x:=.non) h t,e=>nomatch e
 | _,_,_,.cons (x:=.bl _) h t,e=>nomatch e
 | _,_,_,.cons (x:=.str _) h t,e=>nomatch e
 | _,_,_,.cons (x:=.tup _) h t,e=>nomatch e
 | _,_,_,.cons (x:=.frz _) h t,e=>nomatch e
 | _,_,_,.cons (x:=.rng _ _) h t,e=>nomatch e
 | _,_,_,.cons (x:=.ref _) h t,e=>nomatch e
 | _,_,_,.cons (x:=.exn _) h t,e=>nomatch e
 | _,_,_,.cons (x:=.ty _) h t,e=>nomatch e
abbrev F4 (a b:A)(S:jL):R A:=match a,b with
 | .int i,.int j=>.ok (.bl (decide (i<j))) S
 | _,_=>.no
def G1(hu:X.A.units+64<cLine):n8 X (compareOp .Lt) (r2 X F4):=λpins s σ H x y v u Q I rx ry h9=>by
 z_go
 cases va with
 | int i=>
  cases vb with
  | int j=>exact Uz pins s σ H _ _ v u Q I rx ry ⟨i,j,rfl,rfl,h _ _ _ .refl R (.bl _)⟩
  | _=>exact h.elim
 | _=>exact h.elim
abbrev Vm (a b:A)(S:jL):R A:=match a,b with
 | .int i,.int j=>.ok (.bl (decide (i<=j))) S
 | _,_=>.no
def UW:n8 X (compareOp .LtE) (r2 X Vm):=n8.imp Tf λx y H Q h9=>by
 z_go
 cases va<;>first|exact h.elim|(cases vb<;>first|exact h.elim|exact⟨_,_,rfl,rfl,h _ _ _ .refl R (.bl _)⟩)
abbrev Cv (a b:A)(S:jL):R A:=match a,b with
 | .int i,.int j=>.ok (.bl (decide (j<i))) S
 | _,_=>.no
def yV(hu:X.A.units+64<cLine):n8 X (compareOp .Gt) (r2 X Cv):=λpins s σ H x y v u Q I rx ry h9=>by
 z_go
 cases va with
 | int i=>
  cases vb with
  | int j=>exact U6 pins s σ H _ _ v u Q I rx ry ⟨i,j,rfl,rfl,h _ _ _ .refl R (.bl _)⟩
  | _=>exact h.elim
 | _=>exact h.elim
abbrev Xu (a b:A)(S:jL):R A:=match a,b with
 | .int i,.int j=>.ok (.bl (decide (j<=i))) S
 | _,_=>.no
abbrev GW (neg:Bool)(a b:A)(S:jL):R A:=match a,b with
 | .bl i,.bl j=>.ok (.bl (if neg then i != j else i == j)) S
 | .non,.non=>.ok (.bl (!neg)) S
 | .unb,.non=>.no
 | .exn _,.non=>.no
 | _,.non=>.ok (.bl neg) S
 | _,_=>.no
def QX{n:Bool}{a b:A}(h1:b≠.non)(h2:∀j,b≠.bl j):GW n a b S=.no:=by
 unfold GW;split<;>first|rfl|exact absurd rfl h1|exact absurd rfl (h2 _)
def Rc{n:Bool}{a b:A}{F:A->jL->Prop}{G:Str->jL->Prop}(h:(GW n a b S).post F G)(h1:b≠.non)(h2:∀j,b≠.bl j):False:=by
 rw[QX h1 h2]at h;exact h
def VN:n8 X (compareOp .Is) (r2 X (GW false)):=λpins s σ H x y v u Q I rx ry h9=>by
 z_go
 cases vb with
 | non=>
  refine Qm pins s σ H _ _ v u Q I rx ry ⟨rfl,?_⟩
  cases va<;>first|exact h _ _ _ .refl R (.bl _)|exact h.elim
 | bl j=>
  cases va with
  | bl i=>exact Rz pins s σ H _ _ v u Q I rx ry ⟨i,j,rfl,rfl,h _ _ _ .refl R (.bl _)⟩
  | _=>exact h.elim
 | _=>
  exact(Rc h (λz=>nomatch z) nofun).elim
abbrev OW (f:A->jL->R A)(c:Ex):Ex:=λτ S=>(c τ S).bind λa S1=>f a S1
abbrev Ig (a:A)(S:jL):R A:=match a with
 | .int i=>.ok (.int (-i)) S
 | _=>.no
def T_:Vf X (unaryOp .USub) (r1 X Ig):=λpins s σ H x v Q I rx h9=>by
 obtain⟨ρ,S,a,R,va,h⟩:=h9
 cases va with
 | int i=>exact C9 pins s σ H _ v Q I rx ⟨i,rfl,h _ _ _ .refl R (.int _)⟩
 | _=>exact h.elim
def PL{f:A->jL->R A}{c:Ex}{H:Hp}{Q:VK}(h:tE X (OW f c) σ H Q):WT (r1 X f) (tE X c) σ H Q:=by
 kln_w;exact⟨ρ,S,τ,R,r,jJ (jO h) .refl λa S1 h1 ρ1 H1 x e1 R1 v1=>⟨ρ1,S1,a,R1,v1,jJ h1 e1 λc S3 h3=>h3.ext e1⟩⟩
def Mf{c:Ex}(h:AE X a c):AE X (.UnaryOp .USub a pos) (OW Ig c):=PE.imp (JL T_ h) λ_ _ _ q=>PL q
abbrev om (a b:A)(S:jL):R A:=match a,b with
 | .tup xs,.int i=>opt (nY xs i) λx=>.ok x S
 | .frz xs,.int i=>opt (nY xs i) λx=>.ok x S
 | .ref n,.int i=>opt (jH S n) λxs=>opt (nY xs i) λx=>.ok x S
 | .str z,.int i=>gd (z.length<=sizeLine) (opt (nY z.cps.toList i) λc=>.ok (.str ⟨#[c]⟩) S)
 | _,_=>.no
def AVs.nY{K:au}{H:Hp}{i:Int}{x:A}(r:AVs K ρ H xs vs)(h:L2.nY xs i=some x):∃v,L2.nY vs i=some v/\AV K ρ H x v:=by
 unfold L2.nY at h ⊢;rw[<- r.length]
 cases hj:yM xs.length i with
 | none=>rw[hj]at h;cases h
 | some j=>
  rw[hj]at h;exact r.get h
def Tw:Rg X (r2 X om):=λvalue slice pins s σ H x y v u Q I rx ry ⟨ρ,S,a,b,R,va,vb,h⟩ hs=>by
 cases va with
 | @tup p xs vs h1 r1=>
  cases vb with
  | int i=>
   obtain⟨x,hx,h⟩:=jM h;obtain⟨z,e,q⟩:=r1.nY hx;exact RX value slice pins s σ H _ _ v u Q I rx ry ⟨p,vs,i,z,rfl,rfl,ni.of h1,e,h _ _ _ .refl R q⟩ hs
  | _=>exact h.elim
 | @frz p xs vs h1 r1=>
  cases vb with
  | int i=>
   obtain⟨x,hx,h⟩:=jM h;obtain⟨z,e,q⟩:=r1.nY hx;exact DY value slice pins s σ H _ _ v u Q I rx ry ⟨p,vs,i,z,rfl,rfl,h1.K1,e,h _ _ _ .refl R q⟩ hs
  | _=>exact h.elim
 | @ref p n hp=>
  cases vb with
  | int i=>
   kt_k;obtain⟨x,hx,h⟩:=jM h;obtain⟨vs,h1,r1⟩:=R.lst hp (jU hn);obtain⟨z,e,q⟩:=r1.nY hx;exact DY value slice pins s σ H _ _ v u Q I rx ry ⟨p,vs,i,z,rfl,rfl,nH.of h1,e,h _ _ _ .refl R q⟩ hs
  | _=>exact h.elim
 | str z=>
  cases vb with
  | int i=>
   obtain⟨hz,h⟩:=j9 h;obtain⟨c,hc,h⟩:=jM h;exact Sb value slice pins s σ H _ _ v u Q I rx ry ⟨z,i,c,rfl,rfl,hz,hc,h _ _ _ .refl R (.str _)⟩ hs
  | _=>exact h.elim
 | _=>exact h.elim
def kP{ca cb:Ex}(ha:AE X a ca)(hb:AE X b cb)(hs:Ay b:=by exact λ_ _=>rfl):AE X (.Subscript a b pos) (jP om ca cb):=PE.imp (OP Tw ha hb hs) λσ H Q h=>um h
end
abbrev wu (f:A->A->bd):ad->ad->bd
 | [],[]=>some true
 | x::xs,y::ys=>(f x y).bind λp=>(wu f xs ys).map λq=>p && q
 | _,_=>some false
inductive Sh
 | non
 | bl (b:Bool)
 | int (i:Int)
 | str (x:Str)
 | tup (xs:ad)
 | lst
abbrev QV (S:jL):A->Option Sh
 | .non=>some .non
 | .bl b=>some (.bl b)
 | .int i=>some (.int i)
 | .str x=>some (.str x)
 | .tup xs=>some (.tup xs)
 | .ref i=>(jH S i).map λ_=>.lst
 | _=>none
abbrev MN (f:A->A->bd):Sh->Sh->bd
 | .non,.non=>some true
 | .bl x,.bl y=>some (x == y)
 | .bl x,.int y=>some ((if x then 1 else 0) == y)
 | .int x,.bl y=>some (x == (if y then 1 else 0))
 | .int x,.int y=>some (x == y)
 | .str x,.str y=>some (x == y)
 | .tup xs,.tup ys=>wu f xs ys
 | .lst,.lst=>none
 | _,_=>some false
abbrev B5 (S:jL):Nat->A->A->bd
 | 0,_,_=>none
 | n+1,a,b=>match a,b with
  | .ref i,.ref j=>(jH S i).bind λxs=>(jH S j).bind λys=>wu (B5 S n) xs ys
  | _,_=>(QV S a).bind λx=>(QV S b).bind λy=>MN (B5 S n) x y
section
variable {X:Cx}{pins:bj}{σ:L2.St}{H:Hp}{s:aC}{ρ:ar}{S:jL}
inductive KdV (s:aC):Sh->af->Prop
 | non:KdV s .non .none
 | bl (b:Bool):KdV s (.bl b) (.bool b)
 | int (i:Int) (t:Tok):KdV s (.int i) (.int i t)
 | str (x:Str) (t:Tok):KdV s (.str x) (.str x t)
 | tup {p:ak} {us:ap} (xs:ad) (h:s.heap.IsTuple p us.toArray):KdV s (.tup xs) (.ref p)
 | lst {p:ak} {us:ap} (h:s.heap.IsList p us.toArray):KdV s .lst (.ref p)
def EU{p:ak}(h:s.heap.IsTuple p us)(h':s.heap.IsList p ws):False:=by
 obtain⟨o,e,c,_⟩:=h;obtain⟨o',e',c',_⟩:=h';rw[e]at e'
 cases e'
 exact absurd (c.symm.trans c') ⋯
def FI(I:Inv X pins σ H s)(R:Rel X.K ρ H S){a:A}{x:V}(ha:AV X.K ρ H a x)(r:RelV x u)(e:QV S a=some h):KdV s h u:=by
 cases ha with
 | non=>cases e;cases(show u=Value.none from r);exact .non
 | bl b=>cases e;cases(show u=Value.bool b from r);exact .bl b
 | int i=>cases e;obtain⟨t,rfl⟩:∃t,u=Value.int i t:=r;exact .int i t
 | str i=>cases e;obtain⟨t,rfl⟩:∃t,u=Value.str i t:=r;exact .str i t
 | tup h1 r1=>cases e;cases(show u=Value.ref _ from r);obtain⟨us,_,p,_⟩:=I.tuple (ni.of h1);exact .tup _ p
 | ref h1=>
  obtain⟨xs,e1,rfl⟩:=bA.mp e
  cases(show u=Value.ref _ from r)
  obtain⟨vs,h3,r1⟩:=R.lst h1 (jU e1);obtain⟨us,_,p,_⟩:=I.list (nH.of h3);exact .lst p.isList
 | _=>cases e
abbrev Al (B:aA)(s:aC)(u v:af)(k:Bool):Prop:=SeqAt.RcAt B s u v k/\SeqAt.EqAt B s u v k/\SeqAt.RcNeAt B s u v (!k)
def UE{B:aA}(hu:B.units<cLine){f:A->A->bd}{v:af}{k:Bool}(d:KdV s h u)(d':KdV s h' v)(nt:∀xs ys,h=.tup xs->h'≠.tup ys)(e:MN f h h'=some k):Al B s u v k:=by
 cases d with
 | non=>cases d' with
  | non=>cases e;exact⟨.none_none,.same _,.none_none⟩
  | bl b=>cases e;exact⟨.none_bool _,.none_bool _,.none_bool _⟩
  | int i t=>cases e;exact⟨.none_int _ _,.none_int _ _,.none_int _ _⟩
  | str x t=>cases e;exact⟨.none_str _ _,.none_str _ _,.none_str _ _⟩
  | tup xs p=>cases e;exact⟨.none_tuple p hu,.none_tuple p hu,.none_tuple p hu⟩
  | lst p=>cases e;exact⟨.none_list p hu,.none_list p hu,.none_list p hu⟩
 | bl c=>cases d' with
  | non=>cases e;exact⟨.bool_none _,.bool_none _,.bool_none _⟩
  | bl b=>cases e;exact⟨.bool_bool _ _,.bool_bool _ _,.bool_bool _ _⟩
  | int i t=>cases e;exact⟨.bool_int _ _ _,.bool_int _ _ _,.bool_int _ _ _⟩
  | str x t=>cases e;exact⟨.bool_str _ _ _,.bool_str _ _ _,.bool_str _ _ _⟩
  | tup xs p=>cases e;exact⟨.bool_tuple _ p hu,.bool_tuple _ p hu,.bool_tuple _ p hu⟩
  | lst p=>cases e;exact⟨.bool_list _ p hu,.bool_list _ p hu,.bool_list _ p hu⟩
 | int c t'=>cases d' with
  | non=>cases e;exact⟨.int_none _ _,.int_none _ _,.int_none _ _⟩
  | bl b=>cases e;exact⟨.int_bool _ _ _,.int_bool _ _ _,.int_bool _ _ _⟩
  | int i t=>cases e;exact⟨.int_int _ _ _ _,.int_int _ _ _ _,.int_int _ _ _ _⟩
  | str x t=>cases e;exact⟨.int_str _ _ _ _,.int_str _ _ _ _,.int_str _ _ _ _⟩
  | tup xs p=>cases e;exact⟨.int_tuple _ _ p hu,.int_tuple _ _ p hu,.int_tuple _ _ p hu⟩
  | lst p=>cases e;exact⟨.int_list _ _ p hu,.int_list _ _ p hu,.int_list _ _ p hu⟩
 | str c t'=>cases d' with
  | non=>cases e;exact⟨.str_none _ _,.str_none _ _,.str_none _ _⟩
  | bl b=>cases e;exact⟨.str_bool _ _ _,.str_bool _ _ _,.str_bool _ _ _⟩
  | int i t=>cases e;exact⟨.str_int _ _ _ _,.str_int _ _ _ _,.str_int _ _ _ _⟩
  | str x t=>cases e;exact⟨.str_str _ _ _ _,.str_str _ _ _ _,.str_str _ _ _ _⟩
  | tup xs p=>cases e;exact⟨.str_tuple _ _ p hu,.str_tuple _ _ p hu,.str_tuple _ _ p hu⟩
  | lst p=>cases e;exact⟨.str_list _ _ p hu,.str_list _ _ p hu,.str_list _ _ p hu⟩
 | tup zs p'=>cases d' with
  | non=>cases e;exact⟨.tuple_none p' hu,.tuple_none p' hu,.tuple_none p' hu⟩
  | bl b=>cases e;exact⟨.tuple_bool _ p' hu,.tuple_bool _ p' hu,.tuple_bool _ p' hu⟩
  | int i t=>cases e;exact⟨.tuple_int _ _ p' hu,.tuple_int _ _ p' hu,.tuple_int _ _ p' hu⟩
  | str x t=>cases e;exact⟨.tuple_str _ _ p' hu,.tuple_str _ _ p' hu,.tuple_str _ _ p' hu⟩
  | tup xs p=>exact absurd rfl (nt _ _ rfl)
  | lst p=>cases e;exact⟨.tuple_list p' p hu,.of_refs (λz=>by subst z;exact EU p' p) (.tuple_list p' p hu),.tuple_list p' p hu⟩
 | lst p'=>cases d' with
  | non=>cases e;exact⟨.list_none p' hu,.list_none p' hu,.list_none p' hu⟩
  | bl b=>cases e;exact⟨.list_bool _ p' hu,.list_bool _ p' hu,.list_bool _ p' hu⟩
  | int i t=>cases e;exact⟨.list_int _ _ p' hu,.list_int _ _ p' hu,.list_int _ _ p' hu⟩
  | str x t=>cases e;exact⟨.list_str _ _ p' hu,.list_str _ _ p' hu,.list_str _ _ p' hu⟩
  | tup xs p=>cases e;exact⟨.list_tuple p' p hu,.of_refs (λz=>by subst z;exact EU p p') (.list_tuple p' p hu),.list_tuple p' p hu⟩
  | lst p=>cases e
def Af{a:A}{x:V}(h:AV X.K ρ H a x)(e:QV S a=some (.tup xs)):a=.tup xs/\∃p vs,x=.ref p/\H p=some (.tup vs)/\AVs X.K ρ H xs vs:=by
 cases h with
 | tup h r=>cases e;exact⟨rfl,_,_,rfl,h,r⟩
 | ref h=>obtain⟨_,_,z⟩:=bA.mp e;cases z
 | _=>cases e
def zW{i:Nat}{x:V}(h:AV X.K ρ H (.ref i) x):∃p,x=.ref p/\ρ[i]?=some p:=by
 cases h with
 | ref h=>exact⟨_,rfl,h⟩
def JW{a:A}(e:QV S a=some .lst):∃i,a=.ref i:=by
 cases a with
 | ref i=>exact⟨i,rfl⟩
 | _=>cases e
def Il{n:Nat}{a:A}{k:Bool}(e:B5 S (n+1) a b=some k):(∃i j xs ys,a=.ref i/\b=.ref j/\jH S i=some xs/\jH S j=some ys/\wu (B5 S n) xs ys=some k)\/(∃h h',QV S a=some h/\QV S b=some h'/\MN (B5 S n) h h'=some k/\(h=.lst->h'≠.lst)):=by
 unfold B5 at e;split at e
 ·obtain⟨xs,e1,e⟩:=dz.mp e;obtain⟨ys,e2,e⟩:=dz.mp e;exact .inl ⟨_,_,xs,ys,rfl,rfl,e1,e2,e⟩
 ·rename_i nr;obtain⟨h,e1,e⟩:=dz.mp e;obtain⟨h',e2,e⟩:=dz.mp e;refine .inr ⟨h,h',e1,e2,e,λz1 z2=>?_⟩;subst z1 z2;obtain⟨i,rfl⟩:=JW e1;obtain⟨j,rfl⟩:=JW e2;exact nr i j rfl rfl
def Oq{f:A->A->bd}{k:Bool}(d:KdV s h u)(d':KdV s h' u)(nt:∀xs ys,h=.tup xs->h'≠.tup ys)(e:MN f h h'=some k):k=true:=by
 cases d with
 | non=>cases d';exact(aW e).symm
 | bl b=>cases d';exact(aW e).symm.trans (bW b)
 | int b=>cases d';exact(aW e).symm.trans (bW b)
 | str b=>cases d';exact(aW e).symm.trans (bW b)
 | tup xs p=>cases d' with
  | tup=>exact absurd rfl (nt _ _ rfl)
  | lst q=>exact(EU p q).elim
 | lst p=>cases d' with
  | tup _ q=>exact(EU q p).elim
  | lst q=>cases e
def B3{f:A->A->bd}(hf:∀a b x u k,AV X.K ρ H a x->AV X.K ρ H b x->RelV x u->f a b=some k->k=true):∀{xs ys:ad}{vs:List V}{us:ap}{k:Bool},AVs X.K ρ H xs vs->AVs X.K ρ H ys vs->Vals vs us->wu f xs ys=some k->k=true:=by
 intro xs ys vs us k h1 h2 q e
 induction q generalizing xs ys k with
 | nil=>cases h1;cases h2;exact(aW e).symm
 | cons rv _ ih=>
  cases h1 with
  | cons h t=>cases h2 with
   | cons h' t'=>
    obtain⟨p,e1,e⟩:=dz.mp e;obtain⟨q,e2,e3⟩:=bA.mp e;rw[<- e3,hf _ _ _ _ p h h' rv e1,ih t t' e2];rfl
def F1(h h':Sh):(∃xs ys,h=.tup xs/\h'=.tup ys)\/(∀xs ys,h=.tup xs->h'≠.tup ys):=by
 cases h with
 | tup xs=>cases h' with
  | tup ys=>exact .inl ⟨xs,ys,rfl,rfl⟩
  | _=>exact .inr λ_ _ _ z=>nomatch z
 | _=>exact .inr λ_ _ z=>nomatch z
theorem AR(I:Inv X pins σ H s)(R:Rel X.K ρ H S):∀(n:Nat) (a b:A) (x:V) (u:af) (k:Bool),AV X.K ρ H a x->AV X.K ρ H b x->RelV x u->B5 S n a b=some k->k=true
 | 0,_,_,_,_,_,_,_,_,e=>nomatch e
 | n+1,a,b,x,u,k,ha,hb,ru,e=>by
  rcases Il e with⟨i,j,xs,ys,rfl,rfl,e1,e2,e⟩|⟨h,h',e1,e2,e,_⟩
  ·obtain⟨p,rfl,h1⟩:=zW ha;obtain⟨q,z,h2⟩:=zW hb
   cases z
   obtain⟨vs,h3,r1⟩:=R.lst h1 (jU e1);obtain⟨ws,h4,r2⟩:=R.lst h2 (jU e2);rw[h3]at h4
   cases h4
   obtain⟨us,q,_⟩:=I.list (nH.of h3);exact B3 (λa b x u k=>AR I R n a b x u k) r1 r2 q e
  ·rcases F1 h h' with⟨xs,ys,rfl,rfl⟩|nt
   ·obtain⟨rfl,p,vs,rfl,h3,r1⟩:=Af ha e1;obtain⟨rfl,q,ws,z,h4,r2⟩:=Af hb e2
    cases z
    have:=I.zg (ni.of h3) (ni.of h4);subst this;obtain⟨us,q,_⟩:=I.tuple (ni.of h3);exact B3 (λa b x u k=>AR I R n a b x u k) r1 r2 q e
   ·exact Oq (FI I R ha ru e1) (FI I R hb ru e2) nt e
abbrev yR (f:A->A->bd)(xs ys:ad)(j:Nat):Bool:=match xs[j]?,ys[j]? with
 | some x,some y=>(f x y).getD true
 | _,_=>true
theorem wX{f:A->A->bd}:∀{xs ys:ad}{k:Bool},wu f xs ys=some k->k=((List.range (min xs.length ys.length)).all (yR f xs ys) && xs.length == ys.length)/\∀j x y,xs[j]?=some x->ys[j]?=some y->f x y=some (yR f xs ys j)
 | [],[],k,e=>⟨(aW e).symm,λj x y h=>by simp at h⟩
 | [],_::_,k,e=>⟨(aW e).symm,λj x y h=>by simp at h⟩
 | _::_,[],k,e=>⟨(aW e).symm,λj x y _ h=>by simp at h⟩
 | x::xs,y::ys,k,e=>by
  unfold wu at e
  cases e1:f x y with
  | none=>rw[e1]at e;cases e
  | some p=>
   rw[e1]at e;obtain⟨q,e2,e3⟩:=bA.mp e;obtain⟨h1,h2⟩:=wX e2;have p0:yR f (x::xs) (y::ys) 0=p:=by simp[yR,e1]
   have ps:∀j,yR f (x::xs) (y::ys) (j+1)=yR f xs ys j:=λj=>by simp[yR]
   refine⟨?_,λj a b ha hb=>?_⟩
   ·rw[<- e3,h1,bF,bF,Nat.succ_min_succ,gP,jf,all_map,p0];have:(yR f (x::xs) (y::ys) ∘ Nat.succ)=yR f xs ys:=funext ps;rw[this,Bool.and_assoc];simp
   ·cases j with
    | zero=>
     simp at ha hb;subst ha hb;rw[p0];exact e1
    | succ j=>rw[ps];exact h2 j a b (by simpa using ha) (by simpa using hb)
def wO{f:A->A->bd}{B:aA}(hf:∀a b x y u v k,AV X.K ρ H a x->AV X.K ρ H b y->RelV x u->RelV y v->f a b=some k->SeqAt.EqAt B s u v k){us ts:ap}{k:Bool}
  (r1:AVs X.K ρ H xs vs) (r2:AVs X.K ρ H ys ws) (q1:Vals vs us) (q2:Vals ws ts) (e:wu f xs ys=some k):∀j (h1:j<us.toArray.size) (h2:j<ts.toArray.size),SeqAt.EqAt B s us.toArray[j] ts.toArray[j] (yR f xs ys j):=by
 intro j h1 h2;have l1:=r1.length;have l2:=r2.length;have l3:=q1.length;have l4:=q2.length;have hx:j<xs.length:=by simp at h1;lia
 have hy:j<ys.length:=by simp at h2;lia
 have e1:xs[j]?=some xs[j]:=aH hx;have e2:ys[j]?=some ys[j]:=aH hy;obtain⟨x,ex,ax⟩:=r1.get e1;obtain⟨y,ey,ay⟩:=r2.get e2;obtain⟨u,eu,ru⟩:=q1.get ex;obtain⟨t,et,rt⟩:=q2.get ey;have a1:us.toArray[j]=u:=by
  have:us[j]?=some us.toArray[j]:=by simp at h1;simp[h1]
  rw[eu]at this;exact(aW this).symm
 have a2:ts.toArray[j]=t:=by
  have:ts[j]?=some ts.toArray[j]:=by simp at h2;simp[h2]
  rw[et]at this;exact(aW this).symm
 rw[a1,a2];exact hf _ _ x y u t _ ax ay ru rt ((wX e).2 j _ _ e1 e2)
def in1_units(B:aA):B.in1.units=B.units+1:=rfl
theorem Cs(I:Inv X pins σ H s)(R:Rel X.K ρ H S):∀(n:Nat) (B:aA) (a b:A) (x y:V) (u v:af) (k:Bool),B.units+n<cLine->AV X.K ρ H a x->AV X.K ρ H b y->RelV x u->RelV y v->B5 S n a b=some k->Al B s u v k
 | 0,_,_,_,_,_,_,_,_,_,_,_,_,_,e=>nomatch e
 | n+1,B,a,b,x,y,u,v,k,hu,ha,hb,rx,ry,e=>by
  have hu0:B.units<cLine:=()
  have items:∀a b x y u v k,AV X.K ρ H a x->AV X.K ρ H b y->RelV x u->RelV y v->B5 S n a b=some k->SeqAt.EqAt B.in1 s u v k:=λa b x y u v k h1 h2 h3 h4 h5=>(Cs I R n B.in1 a b x y u v k (by rw[in1_units];lia) h1 h2 h3 h4 h5).2.1;have same:=λ(z:y=x)=>AR I R (n+1) a b x u k ha (z ▸ hb) rx e;have refs:∀{p q:ak},x=.ref p->y=.ref q->u=.ref p->v=.ref q->SeqAt.RcAt B s u v k->SeqAt.EqAt B s u v k:=λ{p q} z1 z2 z3 z4 h=>by
   subst z3 z4;by_cases hp:p=q
   ·subst hp;rw[same (z2.trans z1.symm)];exact .same _
   ·exact .of_refs hp h
  rcases Il e with⟨i,j,xs,ys,rfl,rfl,e1,e2,e⟩|⟨h,h',e1,e2,e,_⟩
  ·obtain⟨p,rfl,h1⟩:=zW ha;obtain⟨q,rfl,h2⟩:=zW hb;obtain⟨vs,h3,r1⟩:=R.lst h1 (jU e1);obtain⟨ws,h4,r2⟩:=R.lst h2 (jU e2);obtain⟨us,q1,p1,_⟩:=I.list (nH.of h3);obtain⟨ts,q2,p2,_⟩:=I.list (nH.of h4);have ru:=refs rfl rfl rx ry
   cases(show u=Value.ref p from rx)
   cases(show v=Value.ref q from ry)
   have l1:=r1.length;have l2:=r2.length;have l3:=q1.length;have l4:=q2.length;have ek:=(wX e).1;by_cases hl:xs.length=ys.length
   ·rw[<- hl,Nat.min_self,bW,Bool.and_true]at ek;have eh:us.toArray.size=ts.toArray.size:=by simp;lia
    have z1:=SeqAt.RcAt.lists p1.isList p2.isList eh hu0 (wO items r1 r2 q1 q2 e);have z2:=SeqAt.RcNeAt.lists p1.isList p2.isList eh hu0 (wO items r1 r2 q1 q2 e);rw[aT,<- l3,<- l1,<- ek]at z1 z2;exact⟨z1,ru z1,z2⟩
   ·have:(xs.length == ys.length)=false:=by simpa using hl
    rw[this,Bool.and_false]at ek;subst ek;have eh:(us.toArray.size != ts.toArray.size)=true:=by simp;lia
    have z1:=SeqAt.RcAt.lists_lengths p1.isList p2.isList eh hu0;exact⟨z1,ru z1,SeqAt.RcNeAt.lists_lengths p1.isList p2.isList eh hu0⟩
  ·rcases F1 h h' with⟨xs,ys,rfl,rfl⟩|nt
   ·obtain⟨rfl,p,vs,rfl,h3,r1⟩:=Af ha e1;obtain⟨rfl,q,ws,rfl,h4,r2⟩:=Af hb e2;have ru:=refs rfl rfl rx ry
    cases(show u=Value.ref p from rx)
    cases(show v=Value.ref q from ry)
    obtain⟨us,q1,p1,_⟩:=I.tuple (ni.of h3);obtain⟨ts,q2,p2,_⟩:=I.tuple (ni.of h4);have ek:=(wX e).1;have z1:=SeqAt.RcAt.tuples p1 p2 hu0 (wO items r1 r2 q1 q2 e);have z2:=SeqAt.RcNeAt.tuples p1 p2 hu0 (wO items r1 r2 q1 q2 e);rw[aT,aT,<- q1.length,<- q2.length,<- r1.length,<- r2.length,<- ek]at z1 z2;exact⟨z1,ru z1,z2⟩
   ·exact UE hu0 (FI I R ha rx e1) (FI I R hb ry e2) nt e
end
section
variable {X:Cx}
abbrev HE (neg:Bool)(a b:A)(S:jL):R A:=opt (B5 S 12 a b) λk=>.ok (.bl (if neg then !k else k)) S
def WD(hu:X.A.units+64<cLine):n8 X (compareOp .Eq) (r2 X (HE false)):=λpins s σ H x y v u Q I rx ry h9=>by
 z_go;obtain⟨k,e,h⟩:=jM h;exact(Cs I R 12 X.A a b x y v u k (by omega) va vb rx ry e).1 _ _ _ _ ⟨.bl _,H,I,rfl,h _ _ _ .refl R (.bl _)⟩
def Rl(hu:X.A.units+64<cLine):n8 X (compareOp .NotEq) (r2 X (HE true)):=λpins s σ H x y v u Q I rx ry h9=>by
 z_go;obtain⟨k,e,h⟩:=jM h;exact(Cs I R 12 X.A a b x y v u k () va vb rx ry e).2.2 _ _ _ _ ⟨.bl _,H,I,rfl,h _ _ _ .refl R (.bl _)⟩
end
section
variable {X:Cx}{pos:Pos}{a b:aE}
meta abbrev Pt:=ad->jL->R (bb)
abbrev Gr:Pt:=λ_ S=>.ok none S
abbrev v9 (c:Ex):Pt:=λτ S=>(c τ S).bind λa S1=>match a with
 | .int i=>.ok (some i) S1
 | _=>.no
abbrev tO (X:Cx)(c:Pt):TO:=λσ H Q=>∃ρ S τ,Rel X.K ρ H S/\SR X.K ρ H τ σ/\(c τ S).post (λo S'=>∀ρ' H',Ext ρ ρ' H H'->Rel X.K ρ' H' S'->Q o H') (XE X ρ H)
abbrev AO (X:Cx)(e:Option aE)(c:Pt):Prop:=PO X e (tO X c)
def Gq:AO X none Gr:=λpins s σ H Q I ⟨ρ,S,τ,R,r,h⟩=>Oc pins s σ H Q I (h ρ H .refl R)
def wI{c:Ex}(ha:AE X a c):AO X (some a) (v9 c):=λpins s σ H Q I ⟨ρ,S,τ,R,r,h⟩=>ML ha pins s σ H Q I ⟨ρ,S,τ,R,r,jJ (jO h) .refl λx S1 h1 ρ1 H1 v e1 R1 v1=>by
 cases v1<;>first|exact h1.elim|exact⟨_,rfl,h1 ρ1 H1 e1 R1⟩⟩
abbrev uY (xs:ad)(lo hi:bb):ad:=(xs.drop (HT.mC xs.length 0 lo)).take (HT.mC xs.length xs.length hi-HT.mC xs.length 0 lo)
def AVs.cut{K:au}{H:Hp}(r:AVs K ρ H xs vs)(lo hi:bb):AVs K ρ H (uY xs lo hi) (BF vs lo hi):=by
 unfold uY BF;rw[r.length];exact(r.drop _).take _
abbrev HD (a:A)(lo hi:bb)(S:jL):R A:=match a with
 | .ref n=>opt (jH S n) λxs=>.ok (.ref S.length) (S++[.lst (uY xs lo hi)])
 | .frz xs=>.ok (.ref S.length) (S++[.lst (uY xs lo hi)])
 | .tup xs=>gd (¬(HT.mC xs.length 0 lo=0/\HT.mC xs.length xs.length hi=xs.length)) (.ok (.tup (uY xs lo hi)) S)
 | _=>.no
abbrev SV (c:Ex)(lo hi:Pt):Ex:=λτ S=>(c τ S).bind λa S1=>(lo τ S1).bind λl S2=>(hi τ S2).bind λu S3=>HD a l u S3
abbrev rS (X:Cx):V->bb->bb->Hp->VK->Prop:=λx lo hi H Q=>∃ρ S a,Rel X.K ρ H S/\AV X.K ρ H a x/\(HD a lo hi S).post (wW X ρ H Q) (XE X ρ H)
def Pz:Vr X (rS X):=λpins s σ H x v vl vu lo hi sl Q I rx hs pl pu h9=>by
 obtain⟨ρ,S,a,R,va,h⟩:=h9
 cases va with
 | @tup p xs vs h1 r1=>
  obtain⟨hc,h⟩:=j9 h;exact RB pins s σ H _ v vl vu lo hi sl Q I rx hs pl pu ⟨p,vs,rfl,(ni.of h1),by rw[<- r1.length];exact hc,qp R (r1.cut lo hi) .refl h⟩
 | @frz p xs vs h1 r1=>exact FG pins s σ H _ v vl vu lo hi sl Q I rx hs pl pu ⟨p,vs,rfl,h1.K1,lN R (r1.cut lo hi) .refl h⟩
 | @ref p n hp=>
  kt_k;obtain⟨vs,h1,r1⟩:=R.lst hp (jU hn);exact FG pins s σ H _ v vl vu lo hi sl Q I rx hs pl pu ⟨p,vs,rfl,nH.of h1,lN R (r1.cut lo hi) .refl h⟩
 | _=>exact h.elim
def Ky{e:aE}{lo hi:Option aE}{c:Ex}{cl ch:Pt}(he:AE X e c)(hl:AO X lo cl)(hh:AO X hi ch):AE X (.Subscript e (.Slice lo hi none p2) pos) (SV c cl ch):=PE.imp (Kz Pz he hl hh) λσ H Q h9=>by
 room;refine⟨ρ,S,τ,R,r,jJ (jO h) .refl λa S1 h1 ρ1 H1 x e1 R1 v1=>⟨ρ1,S1,τ,R1,r.ext e1,jJ (jO h1) e1 λl S2 h2 ρ2 H2 e2 R2=>⟨ρ2,S2,τ,R2,r.ext (e1.trans e2),jJ (jO h2) (e1.trans e2) λu S3 h3 ρ3 H3 e3 R3=>?_⟩⟩⟩;exact⟨ρ3,S3,a,R3,v1.ext (e2.trans e3),jJ h3 (e1.trans (e2.trans e3)) λ_ _ z=>z.ext (e1.trans (e2.trans e3))⟩
abbrev Hj (a:A)(S:jL):R A:=match a with
 | .ref n=>opt (jH S n) λxs=>.ok (.ref S.length) (S++[.lst xs.reverse])
 | .tup xs=>.ok (.tup xs.reverse) S
 | _=>.no
def Qi{e:aE}{up cp:Pos}{kk:Nat}{c:Ex}(he:AE X e c):AE X (.Subscript e (.Slice none none (some (.UnaryOp .USub (.Constant (.int 1) kk cp) up)) p2) pos) (OW Hj c):=λpins s σ H Q I h9=>by
 room;have hb:=jO h
 cases hc:c τ S with
 | no=>rw[hc]at hb;exact hb.elim
 | ex x S1=>
  rw[hc]at hb;exact Fo he pins s σ H Q I ⟨ρ,S,τ,R,r,by rw[hc];exact hb⟩
 | ok a S1=>
  rw[hc]at hb;have hb:(Hj a S1).post (wW X ρ H Q) (XE X ρ H):=hb
  cases a with
  | tup xs=>
   refine Fo he pins s σ H Q I ⟨ρ,S,τ,R,r,?_⟩;rw[hc];intro ρ1 H1 x e1 R1 v1
   cases v1 with
   | tup h1 r1=>exact⟨_,_,rfl,(ni.of h1),qp R1 r1.reverse e1 hb⟩
  | ref n=>
   refine NH he pins s σ H Q I ⟨ρ,S,τ,R,r,?_⟩;rw[hc];intro ρ1 H1 x e1 R1 v1;obtain⟨xs,hn,h⟩:=jM hb
   cases v1 with
   | ref hp=>
    obtain⟨vs,h1,r1⟩:=R1.lst hp (jU hn);exact⟨_,_,rfl,nH.of h1,lN R1 r1.reverse e1 h⟩
  | _=>exact hb.elim
abbrev j5 (f:ad->jL->R A)(d:qJ):Ex:=λτ S=>(d τ S).bind λas S1=>f as S1
def B8{f:ad->jL->R A}{d:qJ}{H:Hp}{Q:VK}(h:tE X (j5 f d) σ H Q):Wl (rN X f) (tL X d) σ H Q:=by
 kln_w;exact⟨ρ,S,τ,R,r,jJ (jO h) .refl λas S1 h1 ρ1 H1 vs e1 R1 v1=>⟨ρ1,S1,as,R1,v1,jJ h1 e1 λ_ _ z=>z.ext e1⟩⟩
variable {x:Str}{p:Pos}{e:aE}{es:List aE}{id T:String}{f:ad->jL->R A}{d:qJ}
def jZ(hc:j_ X (.builtin id) (rN X f))(hm:X.mg x=none)(hv:bootBuiltins x=some (.builtin id))(ha:AL X (e::es) d)(hg:Gl X x:=by rfl)(hn:x ≠ "__name__" := by decide)(hdb:(x == ("__debug__" : Str))=false:=by decide)
  (he:starEach (e::es) X.env=(false,eval e X.env)::starEach es X.env:=by rfl) (hpl:(backTo pos (starEach es X.env)).any (·.1)=false:=by rfl):AE X (.Call (.Name x p) (e::es) [] pos) (j5 f d):=
 PE.imp (HK hc hg hm hv ha hn hdb he hpl) λ_ _ _ h=>B8 h
def l5(hc:j_ X (.type T) (rN X f))(hm:X.mg x=none)(hv:bootBuiltins x=some (.type T))(ha:AL X (e::es) d)(hg:Gl X x:=by rfl)(hn:x ≠ "__name__" := by decide)(hdb:(x == ("__debug__" : Str))=false:=by decide)
  (he:starEach (e::es) X.env=(false,eval e X.env)::starEach es X.env:=by rfl) (hpl:(backTo pos (starEach es X.env)).any (·.1)=false:=by rfl):AE X (.Call (.Name x p) (e::es) [] pos) (j5 f d):=
 PE.imp (zH hc hg hm hv ha hn hdb he hpl) λ_ _ _ h=>B8 h
def Lq(hm:X.mg x=none)(hv:bootBuiltins x=some (.type T))(hg:Gl X x:=by rfl)(hn:x ≠ "__name__" := by decide)(hdb:(x == ("__debug__" : Str))=false:=by decide):AE X (.Name x pos) (eC (.ty T)):=
 PE.imp (ND (v:=.ty T) hg hm hv rfl hn hdb) λσ H Q ⟨ρ,S,τ,R,r,h⟩=>h ρ H _ .refl R (.ty T)
abbrev A.seq (S:jL):A->Option (ad)
 | .tup xs=>some xs
 | .frz xs=>some xs
 | .ref n=>jH S n
 | _=>none
def Rx{K:au}{H:Hp}{x:A}{v:V}(R:Rel K ρ H S)(h:AV K ρ H x v)(e:x.seq S=some xs):∃p vs,v=.ref p/\(nH K H p vs\/ni K H p vs)/\AVs K ρ H xs vs:=by
 cases h with
 | tup h r=>cases aW e;exact⟨_,_,rfl,.inr (ni.of h),r⟩
 | frz h r=>cases aW e;exact⟨_,_,rfl,.inl h.K1,r⟩
 | ref h=>
  obtain⟨vs,h1,r1⟩:=R.lst h (jU e);exact⟨_,vs,rfl,.inl (nH.of h1),r1⟩
 | _=>cases e
def DF{K:au}{H:Hp}{x:A}(h:AVs K ρ H [x] vs):∃v,vs=[v]/\AV K ρ H x v:=by
 cases h with
 | cons h t=>cases t;exact⟨_,rfl,h⟩
def Wi{K:au}{H:Hp}{x:A}(h:AVs K ρ H [x,y] vs):∃v w,vs=[v,w]/\AV K ρ H x v/\AV K ρ H y w:=by
 cases h with
 | cons h t=>obtain⟨w,rfl,h'⟩:=DF t;exact⟨_,_,rfl,h,h'⟩
abbrev f1 (g:A->jL->R A):ad->jL->R A:=λas S=>match as with
 | [x]=>g x S
 | _=>.no
abbrev f2 (g:A->A->jL->R A):ad->jL->R A:=λas S=>match as with
 | [x,y]=>g x y S
 | _=>.no
def NB{g:A->jL->R A}{P:A->jL->Prop}{E:Str->jL->Prop}(h:(f1 g as S).post P E):∃x,as=[x]/\(g x S).post P E:=by
 match as,h with
 | [],h=>exact h.elim
 | [x],h=>exact⟨x,rfl,h⟩
 | _::_::_,h=>exact h.elim
def Oo{g:A->A->jL->R A}{P:A->jL->Prop}{E:Str->jL->Prop}(h:(f2 g as S).post P E):∃x y,as=[x,y]/\(g x y S).post P E:=by
 match as,h with
 | [],h=>exact h.elim
 | [_],h=>exact h.elim
 | [x,y],h=>exact⟨x,y,rfl,h⟩
 | _::_::_::_,h=>exact h.elim
def Ms{g:A->jL->R A}{H:Hp}{Q:VK}(h:rN X (f1 g) vs H Q):∃v,vs=[v]/\∃ρ S x,Rel X.K ρ H S/\AV X.K ρ H x v/\(g x S).post (wW X ρ H Q) (XE X ρ H):=by
 obtain⟨ρ,S,as,R,v,h⟩:=h;obtain⟨x,rfl,h⟩:=NB h;obtain⟨w,rfl,hv⟩:=DF v;exact⟨w,rfl,ρ,S,x,R,hv,h⟩
def Vq{g:A->A->jL->R A}{H:Hp}{Q:VK}(h:rN X (f2 g) vs H Q):∃v w,vs=[v,w]/\∃ρ S x y,Rel X.K ρ H S/\AV X.K ρ H x v/\AV X.K ρ H y w/\(g x y S).post (wW X ρ H Q) (XE X ρ H):=by
 obtain⟨ρ,S,as,R,v,h⟩:=h;obtain⟨x,y,rfl,h⟩:=Oo h;obtain⟨w,w',rfl,hv,hv'⟩:=Wi v;exact⟨w,w',rfl,ρ,S,x,y,R,hv,hv',h⟩
abbrev nh (x:A)(S:jL):R A:=match x with
 | .str x=>gd (x.length<=sizeLine) (.ok (.int x.length) S)
 | .tup xs=>.ok (.int xs.length) S
 | .frz xs=>.ok (.int xs.length) S
 | .ref n=>opt (jH S n) λxs=>.ok (.int xs.length) S
 | _=>.no
def nA:j_ X (.builtin "len") (rN X (f1 nh)):=j_.imp J6 λvs H Q h0=>by
 kd_p;clear h0
 cases hv with
 | str z=>
  obtain⟨hz,h⟩:=j9 h;exact⟨_,_,rfl,⟨hz,rfl⟩,h _ _ _ .refl R (.int _)⟩
 | @tup p xs us h1 r=>exact⟨_,us.length,rfl,.inr ⟨us,(ni.of h1),rfl⟩,by rw[<- r.length];exact h _ _ _ .refl R (.int _)⟩
 | @frz p xs us h1 r=>exact⟨_,us.length,rfl,.inl ⟨us,h1.K1,rfl⟩,by rw[<- r.length];exact h _ _ _ .refl R (.int _)⟩
 | ref hp=>
  kt_k;obtain⟨us,h1,r⟩:=R.lst hp (jU hn);exact⟨_,us.length,rfl,.inl ⟨us,nH.of h1,rfl⟩,by rw[<- r.length];exact h _ _ _ .refl R (.int _)⟩
 | _=>exact h.elim
abbrev SI (x:A)(S:jL):R A:=match x with
 | .int i=>.ok (.int (if i<0 then -i else i)) S
 | _=>.no
def U4:j_ X (.builtin "abs") (rN X (f1 SI)):=j_.imp I0 λvs H Q h0=>by
 kd_p;clear h0
 cases hv<;>first|exact h.elim|exact⟨_,rfl,h _ _ _ .refl R (.int _)⟩
abbrev Le (x y:A)(S:jL):R A:=match x,y with
 | .int i,.int j=>.ok (.int (if j>i then j else i)) S
 | _,_=>.no
def Q6(hc:X.calm=true):j_ X (.builtin "max") (rN X (f2 Le)):=j_.imp (Hq hc) λvs H Q h0=>by
 obtain⟨w,w',rfl,ρ,S,x,y,R,hv,hv',h⟩:=Vq h0;clear h0
 cases hv<;>first|exact h.elim|(cases hv'<;>first|exact h.elim|exact⟨_,_,rfl,h _ _ _ .refl R (.int _)⟩)
abbrev Js (x y:A)(S:jL):R A:=match x,y with
 | .int i,.int j=>.ok (.int (if j<i then j else i)) S
 | _,_=>.no
def Sq(hc:X.calm=true):j_ X (.builtin "min") (rN X (f2 Js)):=j_.imp (HB hc) λvs H Q h0=>by
 obtain⟨w,w',rfl,ρ,S,x,y,R,hv,hv',h⟩:=Vq h0;clear h0
 cases hv<;>first|exact h.elim|(cases hv'<;>first|exact h.elim|exact⟨_,_,rfl,h _ _ _ .refl R (.int _)⟩)
abbrev OV (x:A)(S:jL):R A:=match x with
 | .int i=>.ok (.int i) S
 | .bl k=>.ok (.int (if k then 1 else 0)) S
 | .str y=>opt (PySem.intText? y) λn=>gd (y.length<=640) (.ok (.int n) S)
 | _=>.no
abbrev qx (x y:A)(S:jL):R A:=match x,y with
 | .int i,.int j=>.ok (.rng i j) S
 | _,_=>.no
def xQ:j_ X (.type "range") (rN X (f2 qx)):=j_.imp z9 λvs H Q h0=>by
 obtain⟨w,w',rfl,ρ,S,x,y,R,hv,hv',h⟩:=Vq h0;clear h0
 cases hv with
 | int i=>
  cases hv' with
  | int j=>
   refine⟨i,j,rfl,λp hp=>?_⟩;obtain⟨ex,R'⟩:=R.im (u:=.rng i j) hp;exact h ρ _ _ ex R' (.rng kB)
  | _=>exact h.elim
 | _=>exact h.elim
abbrev xN (i j:Int):Prop:=(-(2 ^ 62)<=i/\i<2 ^ 62/\-(2 ^ 62)<=j/\j<2 ^ 62)/\(j-i).toNat<=1000
instance (i j:Int):Decidable (xN i j):=by unfold xN;infer_instance
abbrev ye (x:A)(S:jL):R A:=match x with
 | .rng i j=>gd (xN i j) (.ok (.ref S.length) (S++[.lst ((jX i j).map .int)]))
 | .tup xs=>.ok (.ref S.length) (S++[.lst xs])
 | .frz xs=>.ok (.ref S.length) (S++[.lst xs])
 | .ref n=>opt (jH S n) λxs=>.ok (.ref S.length) (S++[.lst xs])
 | _=>.no
def Mw(hc:X.calm=true):j_ X (.type "list") (rN X (f1 ye)):=λpins s σ H vs us Q I rx h0=>by
 kd_p;clear h0
 cases hv with
 | @rng p i j hp=>
  obtain⟨hc',h⟩:=j9 h;exact yT hc pins s σ H _ us Q I rx ⟨p,i,j,rfl,hp,hc'.1,hc'.2,lN R (nX _) .refl h⟩
 | @tup p xs vs h1 r=>exact ql pins s σ H _ us Q I rx ⟨p,vs,rfl,.inr (ni.of h1),lN R r .refl h⟩
 | @frz p xs vs h1 r=>exact ql pins s σ H _ us Q I rx ⟨p,vs,rfl,.inl h1.K1,lN R r .refl h⟩
 | @ref p n hp=>
  kt_k;obtain⟨vs,h1,r⟩:=R.lst hp (jU hn);exact ql pins s σ H _ us Q I rx ⟨p,vs,rfl,.inl (nH.of h1),lN R r .refl h⟩
 | _=>exact h.elim
abbrev oh (x:A)(S:jL):R A:=match x with
 | .rng i j=>gd (xN i j) (.ok (.tup ((jX i j).map .int)) S)
 | .tup xs=>.ok (.tup xs) S
 | .frz xs=>.ok (.tup xs) S
 | .ref n=>opt (jH S n) λxs=>.ok (.tup xs) S
 | _=>.no
def uJ(hc:X.calm=true):j_ X (.type "tuple") (rN X (f1 oh)):=λpins s σ H vs us Q I rx h0=>by
 kd_p;clear h0
 cases hv with
 | @rng p i j hp=>
  obtain⟨hc',h⟩:=j9 h;exact yt hc pins s σ H _ us Q I rx ⟨p,i,j,rfl,hp,hc'.1,hc'.2,qp R (nX _) .refl h⟩
 | @tup p xs vs h1 r=>exact pL pins s σ H _ us Q I rx ⟨p,vs,rfl,.inr ⟨(ni.of h1),h _ _ _ .refl R (.tup h1 r)⟩⟩
 | @frz p xs vs h1 r=>exact pL pins s σ H _ us Q I rx ⟨p,vs,rfl,.inl ⟨h1.K1,qp R r .refl h⟩⟩
 | @ref p n hp=>
  kt_k;obtain⟨vs,h1,r⟩:=R.lst hp (jU hn);exact pL pins s σ H _ us Q I rx ⟨p,vs,rfl,.inl ⟨nH.of h1,qp R r .refl h⟩⟩
 | _=>exact h.elim
abbrev A.A7:ad->Option (List Bool)
 | []=>some []
 | .bl b::xs=>(A.A7 xs).map (b::·)
 | _=>none
theorem De{K:au}{H:Hp}:∀{xs:ad}{vs:List V}{bs:List Bool},AVs K ρ H xs vs->A.A7 xs=some bs->vs=bs.map V.bl
 | _,_,_,.nil,e=>by cases e;rfl
 | x::xs,_,bs,.cons h t,e=>by
  cases x with
  | bl b=>
   obtain⟨cs,e1,rfl⟩:=bA.mp (show(A.A7 xs).map (b::·)=some bs from e)
   cases h
   rw[De t e1];rfl
  | _=>cases e
abbrev RK (x:A)(S:jL):R A:=match x with
 | .ref n=>opt (jH S n) λxs=>opt (A.A7 xs) λbs=>.ok (.bl (bs.all λb=>b)) S
 | _=>.no
def T4(hc:X.calm=true):j_ X (.builtin "all") (rN X (f1 RK)):=j_.imp (Hw hc) λvs H Q h0=>by
 kd_p;clear h0
 cases hv with
 | @ref p n hp=>
  kt_k;obtain⟨bs,hb,h⟩:=jM h;obtain⟨vs,h1,r⟩:=R.lst hp (jU hn);rw[De r hb]at h1;exact⟨p,bs,rfl,nH.of h1,h _ _ _ .refl R (.bl _)⟩
 | _=>exact h.elim
abbrev QY (x:A)(S:jL):R A:=match x with
 | .ref n=>opt (jH S n) λxs=>opt (A.A7 xs) λbs=>.ok (.bl (bs.any λb=>b)) S
 | _=>.no
def UN(hc:X.calm=true):j_ X (.builtin "any") (rN X (f1 QY)):=j_.imp (Hf hc) λvs H Q h0=>by
 kd_p;clear h0
 cases hv with
 | @ref p n hp=>
  kt_k;obtain⟨bs,hb,h⟩:=jM h;obtain⟨vs,h1,r⟩:=R.lst hp (jU hn);rw[De r hb]at h1;exact⟨p,bs,rfl,nH.of h1,h _ _ _ .refl R (.bl _)⟩
 | _=>exact h.elim
abbrev maxOf:ae->bb
 | []=>none
 | [x]=>some x
 | x::xs=>(maxOf xs).map λm=>if m>x then m else x
theorem xX:∀{ns:ae}{m:Int},maxOf ns=some m->m∈ns/\∀a∈ns,a<=m
 | [],_,e=>nomatch e
 | [x],m,e=>by cases e;exact⟨aP,λa h=>by rw[br]at h;lia⟩
 | x::y::xs,m,e=>by
  obtain⟨m',e1,rfl⟩:=bA.mp (show(maxOf (y::xs)).map (λm=>if m>x then m else x)=some m from e);obtain⟨h1,h2⟩:=xX e1;by_cases hx:m'>x
  ·rw[aN hx];exact⟨aQ _ h1,λa h=>(bP.mp h).elim (λz=>()) (h2 a)⟩
  ·rw[aM hx];exact⟨aP,λa h=>(bP.mp h).elim (λz=>()) λz=>by have:=h2 a z;lia⟩
abbrev Lr (x:A)(S:jL):R A:=match x with
 | .ref n=>opt (jH S n) λxs=>opt (A.ints xs) λns=>opt (maxOf ns) λm=>.ok (.int m) S
 | _=>.no
def Rb(hc:X.calm=true):j_ X (.builtin "max") (rN X (f1 Lr)):=j_.imp (Hz hc) λvs H Q h0=>by
 kd_p;clear h0
 cases hv with
 | @ref p n hp=>
  kt_k;obtain⟨ns,hb,h⟩:=jM h;obtain⟨m,hm,h⟩:=jM h;obtain⟨vs,h1,r⟩:=R.lst hp (jU hn);rw[qE r hb]at h1;obtain⟨g1,g2⟩:=xX hm;refine⟨p,ns,rfl,nH.of h1,gQ g1,λM hM hG=>?_⟩;have:M=m:=jx (g2 M hM) (hG m g1);rw[this];exact h _ _ _ .refl R (.int _)
 | _=>exact h.elim
abbrev insI (x:Int):ae->ae
 | []=>[x]
 | y::ys=>if x<=y then x::y::ys else y::insI x ys
abbrev sortI:ae->ae
 | []=>[]
 | x::xs=>insI x (sortI xs)
theorem insI_perm(x:Int):∀ys:ae,(insI x ys).Perm (x::ys)
 | []=>dS _
 | y::ys=>by
  unfold insI;by_cases h:x<=y
  ·rw[aN h]
  ·rw[aM h];exact((insI_perm x ys).cons y).trans (List.Perm.swap x y ys)
theorem sortI_perm:∀xs:ae,(sortI xs).Perm xs
 | []=>dS _
 | x::xs=>(insI_perm x (sortI xs)).trans ((sortI_perm xs).cons x)
theorem Fq(x:Int):∀ys:ae,ys.Pairwise (·<=·)->(insI x ys).Pairwise (·<=·)
 | [],_=>dZ _ _
 | y::ys,h=>by
  unfold insI;obtain⟨h1,h2⟩:=cH.mp h;by_cases hx:x<=y
  ·rw[aN hx];exact cH.mpr ⟨λz hz=>(bP.mp hz).elim (λe=>e ▸ hx) λhz=>Int.le_trans hx (h1 z hz),h⟩
  ·rw[aM hx];refine cH.mpr ⟨λz hz=>?_,Fq x ys h2⟩
   rcases bP.mp ((insI_perm x ys).mem_iff.mp hz)with e|hz
   ·subst e;lia
   ·exact h1 z hz
theorem Bw:∀xs:ae,(sortI xs).Pairwise (·<=·)
 | []=>List.Pairwise.nil
 | x::xs=>Fq x _ (Bw xs)
abbrev L0 (x:A)(S:jL):R A:=opt (x.seq S) λxs=>opt (A.ints xs) λns=>gd (ns.length<64) (.ok (.ref S.length) (S++[.lst ((sortI ns).map .int)]))
def N9:j_ X (.builtin "sorted") (rN X (f1 L0)):=j_.imp AN λvs H Q h0=>by
 kd_p;clear h0;kt_k;obtain⟨ns,hb,h⟩:=jM h;obtain⟨hl,h⟩:=j9 h;obtain⟨p,us,rfl,hs,r⟩:=Rx R hv hn;rw[qE r hb]at hs;refine⟨p,ns,rfl,hs,hl,λl ns' hl' hp hw=>?_⟩;have:ns'=sortI ns:=Nq (hp.trans (sortI_perm ns).symm) hw (Bw ns);rw[this];exact lN R (nX _) .refl h l hl'
abbrev A.kd:A->jL->Option Kd
 | .non,_=>some .non
 | .bl _,_=>some .bl
 | .int _,_=>some .int
 | .str _,_=>some .str
 | .tup _,_=>some .tup
 | .ref n,S=>(jH S n).map λ_=>.lst
 | _,_=>none
def Og{K:au}(k:Kd):PySem.W.kitOne K k.ty (.type "str")=some (decide (k=.str)):=by cases k<;>rfl
abbrev Dr (k:Kd)(c:String):bd:=if c = "int" then some (decide (k=.int\/k=.bl))else if c = "bool" then some (decide (k=.bl))else if c = "tuple" then some (decide (k=.tup))else if c = "list" then some (decide (k=.lst))else if c = "str" then some (decide (k=.str))else none
def ES{K:au}{k:Kd}{c:String}{b:Bool}(h:Dr k c=some b):PySem.W.kitOne K k.ty (.type c)=some b:=by
 unfold Dr at h;split at h
 ·rename_i e;subst e;rw[<- h];exact MZ k
 ·split at h
  ·rename_i e;subst e;rw[<- h];exact HW k
  ·split at h
   ·rename_i e;subst e;rw[<- h];exact kit_tuple k
   ·split at h
    ·rename_i e;subst e;rw[<- h];exact Lp k
    ·split at h
     ·rename_i e;subst e;rw[<- h];exact Og k
     ·cases h
abbrev LY (x y:A)(S:jL):R A:=match y with
 | .ty c=>opt (x.kd S) λk=>opt (Dr k c) λb=>.ok (.bl b) S
 | _=>.no
def TH{K:au}{H:Hp}{x:A}{v:V}{k:Kd}(R:Rel K ρ H S)(h:AV K ρ H x v)(e:x.kd S=some k):(∃p vs,v=.ref p/\ni K H p vs/\k=.tup)\/RJ H v k:=by
 cases h with
 | non=>cases e;exact .inr rfl
 | bl b=>cases e;exact .inr ⟨b,rfl⟩
 | int i=>cases e;exact .inr ⟨i,rfl⟩
 | str i=>cases e;exact .inr ⟨i,rfl⟩
 | tup h r=>cases e;exact .inl ⟨_,_,rfl,(ni.of h),rfl⟩
 | ref h=>
  obtain⟨xs,e1,e2⟩:=bA.mp e;obtain⟨vs,h1,_⟩:=R.lst h (jU e1)
  cases e2
  exact .inr ⟨_,vs,rfl,h1⟩
 | _=>cases e
def Lu:j_ X (.builtin "isinstance") (rN X (f2 LY)):=λpins s σ H vs us Q I rx h0=>by
 obtain⟨w,w',rfl,ρ,S,x,y,R,hv,hv',h⟩:=Vq h0;clear h0
 cases hv' with
 | ty c=>
  obtain⟨k,hk,h⟩:=jM h;obtain⟨b,hb,hq⟩:=jM h;have hq:wW X ρ H Q (.bl b) S:=hq;clear h
  rcases TH R hv hk with⟨p,vs,rfl,ht,rfl⟩|hd
  ·obtain⟨u1,u2,rfl,r1,r2⟩:=vals2 rx;obtain⟨its,q,⟨o,h1,h2,_⟩,_⟩:=I.tuple ht
   cases(show _=Value.ref p from r1)
   cases(show _=Value.type c from r2)
   exact cW PySem.W.kitx_tuple I.AK ⟨o,h1,h2⟩ (ES hb) (λz=>nomatch z) λtk=>⟨.bl b,H,I.tok _,rfl,hq _ _ _ .refl R (.bl _)⟩
  ·exact CA (c:=c) pins s σ H _ us Q I rx ⟨w,_,b,rfl,hd.VG,ES hb,hq _ _ _ .refl R (.bl _)⟩
 | _=>exact h.elim
end
abbrev Hx (x:ae):List (ae)->List (ae)
 | []=>[x]
 | y::ys=>if HT.lexLt y x=true then y::Hx x ys else x::y::ys
abbrev mZ:List (ae)->List (ae)
 | []=>[]
 | x::xs=>Hx x (mZ xs)
abbrev G0 (a b:ae):Prop:=HT.lexLt b a=false
def G0.trans{a c:ae}(h1:G0 a b)(h2:G0 b c):G0 a c:=by
 unfold G0 at *
 cases e:HT.lexLt c a with
 | false=>rfl
 | true=>
  rcases Sx.DR (b:=b) e with z|z
  ·rw[h2]at z;cases z
  ·rw[h1]at z;cases z
theorem vA(x:ae):∀ys:List (ae),(Hx x ys).Perm (x::ys)
 | []=>dS _
 | y::ys=>by
  unfold Hx;by_cases h:HT.lexLt y x=true
  ·rw[aN h];exact((vA x ys).cons y).trans (List.Perm.swap x y ys)
  ·rw[aM h]
theorem t7:∀xs:List (ae),(mZ xs).Perm xs
 | []=>dS _
 | x::xs=>(vA x (mZ xs)).trans ((t7 xs).cons x)
theorem F3(x:ae):∀ys:List (ae),ys.Pairwise G0->(Hx x ys).Pairwise G0
 | [],_=>dZ _ _
 | y::ys,h=>by
  unfold Hx;obtain⟨h1,h2⟩:=cH.mp h;by_cases hx:HT.lexLt y x=true
  ·rw[aN hx];refine cH.mpr ⟨λz hz=>?_,F3 x ys h2⟩
   rcases bP.mp ((vA x ys).mem_iff.mp hz)with e|hz
   ·subst e;unfold G0
    cases e:HT.lexLt z y with
    | false=>rfl
    | true=>have:=Sx.yI hx e;rw[Sx.sE]at this;cases this
   ·exact h1 z hz
  ·rw[aM hx];have hx':G0 x y:=by unfold G0;simpa using hx
   exact cH.mpr ⟨λz hz=>(bP.mp hz).elim (λe=>e ▸ hx') λhz=>hx'.trans (h1 z hz),h⟩
theorem BK:∀xs:List (ae),(mZ xs).Pairwise G0
 | []=>List.Pairwise.nil
 | x::xs=>F3 x _ (BK xs)
def yk{xs:List (ae)}(p:xs.Perm ys)(h:xs.Pairwise G0):xs=mZ ys:=
 gg (λa b _ _ h1 h2=>(Sx.AX h1 h2).symm) h (BK ys) (p.trans (t7 ys).symm)
theorem WX:∀(N:Nat) (l:ag),l.Nodup->(∀x∈l,x<N)->l.length<=N
 | 0,l,_,h=>by
  cases l with
  | nil=>exact aS _
  | cons a l=>exact absurd (h a (aP ..)) (iK _)
 | N+1,l,nd,h=>by
  have h1:=WX N (l.erase N) (nd.erase N) λx hx=>by
   have:=h x (List.mem_of_mem_erase hx);have:x≠N:=λz=>by
    subst z;exact(List.Nodup.not_mem_erase nd) hx
   lia
  have:=List.le_length_erase (l:=l) (a:=N)
  lia
def yu{N:Nat}{g:Nat->Nat}(h:∀i,i<N->g i<N)(inj:∀i j,i<j->j<N->g i≠g j):((List.range N).map g).Perm (List.range N):=by
 have nd:((List.range N).map g).Nodup:=by
  unfold List.Nodup;rw[dN];intro i j hi hj hij;rw[aL,cP]at hi hj;rw[dR,dR,gv,gv];exact inj i j hij hj
 have lt:∀x∈(List.range N).map g,x<N:=λx hx=>by
  obtain⟨i,hi,rfl⟩:=bH.mp hx;exact h i (cV.mp hi)
 refine(fV nd List.nodup_range).mpr λa=>⟨λha=>cV.mpr (lt a ha),λha=>?_⟩;refine f9 λhn=>?_;have:=WX N (a::(List.range N).map g) (fH.mpr ⟨hn,nd⟩) λx hx=>by
  rcases bP.mp hx with rfl|hx
  ·exact cV.mp ha
  ·exact lt x hx
 rw[bF,aL,cP]at this
 lia
def range_getD{α:Type}(l:List α)(d:α):(List.range l.length).map (λi=>l.getD i d)=l:=by
 apply bR;intro i;rw[aR];by_cases c:i<l.length
 ·rw[cj c];show some (l.getD i d)=_;rw[aI,aH c];rfl
 ·rw[bG (by rw[cP];lia),bG ()];rfl
def Q2{kss:List (ae)}{g:Nat->Nat}(c:Sx.Cl g 0 kss.length)(so:Sx.So (Sx.LK kss) g 0 kss.length):(List.range kss.length).map (λi=>kss.getD (g i) [])=mZ kss:=by
 refine yk ?_ ?_
 ·have p:=yu (N:=kss.length) (g:=g) (λi hi=>(c i (cZ _) hi).2) λi j hij hj z=>by
   have:=so i j (cZ _) hij hj;rw[z]at this;exact this.MT
  have:=p.map λi=>kss.getD i [];rw[bJ,range_getD]at this;exact this
 ·rw[dN];intro i j hi hj hij;rw[aL,cP]at hi hj;rw[dR,dR,gv,gv];exact(so i j (cZ _) hij hj).ge
abbrev PC:ad->Option (List (ae))
 | []=>some []
 | .tup xs::r=>match A.ints xs with
  | some (k::ks)=>(PC r).map λrs=>(k::ks)::rs
  | _=>none
 | _=>none
theorem O4{K:au}{H:Hp}:∀{xs:ad}{vs:List V}{kss:List (ae)},AVs K ρ H xs vs->PC xs=some kss ->
  ∃rs:ar,vs=rs.map V.ref/\rs.length=kss.length/\∀(i:Nat) (r:ak) (ks:ae),rs[i]?=some r->kss[i]?=some ks->ni K H r (ks.map V.int)/\ks≠[]/\AV K ρ H (.tup (ks.map .int)) (.ref r)
 | [],_,_,.nil,e=>by cases e;exact⟨[],rfl,rfl,λi r ks h=>by simp at h⟩
 | x::xs,_,kss,.cons h t,e=>by
  cases h with
  | tup h r=>
   rename_i a ys us;unfold PC at e
   cases e1:A.ints ys with
   | none=>rw[e1]at e;cases e
   | some ks=>
    rw[e1]at e
    cases ks with
    | nil=>cases e
    | cons k ks=>
     obtain⟨kss',e2,rfl⟩:=bA.mp e;obtain⟨rs,rfl,hl,hh⟩:=O4 t e2;have ev:=qE r e1;subst ev;refine⟨a::rs,rfl,by rw[bF,bF,hl],λi r' ks' h1 h2=>?_⟩
     cases i with
     | zero=>
      cases h1
      cases h2
      exact⟨ni.of h,(λz=>nomatch z),.tup h (nX _)⟩
     | succ i=>exact hh i r' ks' (by simpa using h1) (by simpa using h2)
  | _=>cases e
theorem Dw{K:au}{H:Hp}{α:Type}{f:α->A}{h:α->V}:∀{l:List α},(∀a∈l,AV K ρ H (f a) (h a))->AVs K ρ H (l.map f) (l.map h)
 | [],_=>.nil
 | a::l,e=>.cons (e a (aP ..)) (Dw λb hb=>e b (aQ _ hb))
section
variable {X:Cx}
abbrev Aq (n:Nat)(S:jL):R A:=opt (jH S n) λxs=>opt (PC xs) λkss=>.ok (.ref S.length) (S++[.lst ((mZ kss).map λks=>.tup (ks.map .int))])
abbrev Qq (x:A)(S:jL):R A:=match x with
 | .ref n=>Aq n S
 | _=>.no
abbrev Vi (x:A)(S:jL):Bool:=match x with
 | .ref n=>match jH S n with
  | some (.tup _::_)=>true
  | _=>false
 | _=>false
abbrev uU (x:A)(S:jL):R A:=match Vi x S with
 | false=>L0 x S
 | true=>match x with
  | .ref n=>Aq n S
  | _=>.no
def Nm:j_ X (.builtin "sorted") (rN X (f1 Qq)):=j_.imp zX λvs H Q h0=>by
 kd_p;clear h0
 cases hv with
 | ref hp=>
  rename_i p n;kt_k;obtain⟨kss,hb,h⟩:=jM h;obtain⟨us,h1,r⟩:=R.lst hp (jU hn);obtain⟨rs,rfl,hl,hh⟩:=O4 r hb;refine⟨p,rs,kss,rfl,nH.of h1,hl,λi r ks e1 e2=>⟨(hh i r ks e1 e2).1,(hh i r ks e1 e2).2.1⟩,λl g hl' hc hs=>?_⟩;have av:AVs X.K ρ H ((mZ kss).map λks=>.tup (ks.map .int)) (((List.range kss.length).map λi=>rs.getD (g i) 0).map V.ref):=by
   rw[<- Q2 hc hs,bJ,bJ];refine Dw λi hi=>?_;have lt:=(hc i (cZ _) (cV.mp hi)).2;have e1:rs[g i]?=some (rs.getD (g i) 0):=by rw[aI,aH ()];rfl
   have e2:kss[g i]?=some (kss.getD (g i) []):=by rw[aI,aH lt];rfl
   exact(hh _ _ _ e1 e2).2.2
  exact lN R av .refl h l hl'
 | _=>exact h.elim
def Mi:j_ X (.builtin "sorted") (rN X (f1 uU)):=λpins s σ H xs us Q I r h=>by
 obtain⟨w,rfl,ρ,S,x,R,hv,h⟩:=Ms h;unfold uU at h
 cases e:Vi x S with
 | false=>
  rw[e]at h;exact N9 pins s σ H _ us Q I r ⟨ρ,S,[x],R,.cons hv .nil,h⟩
 | true=>
  rw[e]at h;exact Nm pins s σ H _ us Q I r ⟨ρ,S,[x],R,.cons hv .nil,h⟩
end
abbrev RS.post (r:RS)(N:ad->jL->Prop)(T:A->jL->Prop)(B C:ad->jL->Prop)(E:Str->jL->Prop):Prop:=match r with
 | .nx τ S=>N τ S
 | .rt a S=>T a S
 | .bk τ S=>B τ S
 | .ct τ S=>C τ S
 | .ex c S=>E c S
 | .no=>False
abbrev RS.of {α:Type}(r:R α)(f:α->jL->RS):RS:=match r with
 | .ok a S=>f a S
 | .ex c S=>.ex c S
 | .no=>.no
def of_post{α:Type}{r:R α}{f:α->jL->RS}{N B C:ad->jL->Prop}{T:A->jL->Prop}{E:Str->jL->Prop}(h:(RS.of r f).post N T B C E):r.post (λa S=>(f a S).post N T B C E) E:=by
 cases r<;>exact h
def RS.mono{r:RS}{N B C N' B' C':ad->jL->Prop}{T T':A->jL->Prop}{E E':Str->jL->Prop}(h:r.post N T B C E)(hn:∀τ S,N τ S->N' τ S)(ht:∀a S,T a S->T' a S)(hb:∀τ S,B τ S->B' τ S)(hc:∀τ S,C τ S->C' τ S)(he:∀c S,E c S->E' c S):r.post N' T' B' C' E':=by
 cases r with
 | nx τ S=>exact hn _ _ h
 | rt a S=>exact ht _ _ h
 | bk τ S=>exact hb _ _ h
 | ct τ S=>exact hc _ _ h
 | ex c S=>exact he _ _ h
 | no=>exact h.elim
abbrev DU (X:Cx)(ρ:ar)(H:Hp)(N:L2.St->Hp->Prop):ad->jL->Prop:=λτ' S'=>∀ρ' H' σ',Ext ρ ρ' H H'->Rel X.K ρ' H' S'->SR X.K ρ' H' τ' σ'->N σ' H'
def DU.ext{X:Cx}{H H':Hp}{N:L2.St->Hp->Prop}(h:DU X ρ H N τ S)(e:Ext ρ ρ' H H'):DU X ρ' H' N τ S:=λρ2 H2 σ2 e2=>h ρ2 H2 σ2 (e.trans e2)
abbrev zm (X:Cx)(ρ:ar)(H:Hp)(D:Ends)(r:RS):Prop:=r.post (DU X ρ H D.nx) (wW X ρ H D.rt) (DU X ρ H D.bk) (DU X ρ H D.ct) (XE X ρ H)
def zm.ext{X:Cx}{H H':Hp}{D:Ends}{r:RS}(h:zm X ρ H D r)(e:Ext ρ ρ' H H'):zm X ρ' H' D r:=RS.mono h (λ_ _ z=>z.ext e) (λ_ _ z=>z.ext e) (λ_ _ z=>z.ext e) (λ_ _ z=>z.ext e) λ_ _ z=>z.ext e
abbrev tS (X:Cx)(c:Sm):TS:=λD σ H=>∃ρ S τ,Rel X.K ρ H S/\SR X.K ρ H τ σ/\zm X ρ H D (c τ S)
abbrev AS (X:Cx)(st:aF)(c:Sm):Prop:=PS X st (tS X c)
abbrev NO (X:Cx)(sts:List aF)(c:Sm):Prop:=A1 X sts (tS X c)
abbrev tG (X:Cx)(g:Tg):TG:=λv σ H Q=>∃ρ S τ a,Rel X.K ρ H S/\SR X.K ρ H τ σ/\AV X.K ρ H a v/\(g a τ S).post (DU X ρ H Q) (XE X ρ H)
abbrev AG (X:Cx)(e:aE)(g:Tg):Prop:=PG X e (tG X g)
meta abbrev MD:=ad->ad->jL->R (ad)
abbrev Xf (X:Cx)(g:MD):Pd:=λvs σ H Q=>∃ρ S τ as,Rel X.K ρ H S/\SR X.K ρ H τ σ/\AVs X.K ρ H as vs/\(g as τ S).post (DU X ρ H Q) (XE X ρ H)
abbrev Ve (X:Cx)(es:List aE)(g:MD):Prop:=Tc X es (Xf X g)
section
variable {X:Cx}{pos:Pos}{a b e:aE}{st:aF}{rest:List aF}{c d:Sm}
def PS.imp{t t':TS}(h:PS X st t)(i:∀D σ H,t' D σ H->t D σ H):PS X st t':=λpins s σ H D I q=>h pins s σ H D I (i D σ H q)
def A1.imp{t t':TS}(h:A1 X rest t)(i:∀D σ H,t' D σ H->t D σ H):A1 X rest t':=λpins s σ H D I q=>h pins s σ H D I (i D σ H q)
def PG.imp{t t':TG}(h:PG X e t)(i:∀v σ H Q,t' v σ H Q->t v σ H Q):PG X e t':=λpins s σ H v u Q I r q=>h pins s σ H v u Q I r (i _ _ _ _ q)
abbrev kO (i:Nat):Tg:=λa τ S=>.ok (τ.set i a) S
def ko{i:Nat}{x:Str}(hN:X.N.Nodup)(hi:X.N[i]?=some x:=by rfl)(hx:Loc X.env.scope x:=by first|exact Or.inl rfl|exact Or.inr rfl)(hf:X.fn x=true\/X.env.scope.names.lookup x=some .local:=by first|exact .inl rfl|exact .inr rfl|assumption):AG X (.Name x pos) (kO i):=
 PG.imp (Gf hN hi hx hf) λv σ H Q ⟨ρ,S,τ,a,R,r,va,h⟩=>h ρ H _ .refl R (r.set va)
abbrev A6:MD:=λas τ S=>match as with
 | []=>.ok τ S
 | _=>.no
abbrev sP (g:Tg)(gs:MD):MD:=λas τ S=>match as with
 | a::as=>(g a τ S).bind λτ1 S1=>gs as τ1 S1
 | []=>.no
def uI:Ve X [] A6:=λpins s σ H vs us Q I r ⟨ρ,S,τ,as,R,sr,va,h⟩=>NP pins s σ H vs us Q I r (by
 cases va with
 | nil=>exact⟨rfl,h ρ H σ .refl R sr⟩
 | cons _ _=>exact h.elim)
def mH{g:Tg}{gs:MD}(h1:AG X e g)(h2:Ve X es gs)(hs:(assignEach (e::es) X.env).map (·.2)=assign e X.env::(assignEach es X.env).map (·.2):=by rfl):Ve X (e::es) (sP g gs):=
 λpins s σ H vs us Q I r ⟨ρ,S,τ,as,R,sr,va,h⟩=>J9 h1 h2 hs pins s σ H vs us Q I r (by
  cases va with
  | nil=>exact h.elim
  | cons ha hr=>exact⟨_,_,rfl,ρ,S,τ,_,R,sr,ha,jJ (jO h) .refl λτ1 S1 h1 ρ1 H1 σ1 e1 R1 sr1=>⟨ρ1,S1,τ1,_,R1,sr1,hr.ext e1,jJ h1 e1 λ_ _ z=>z.ext e1⟩⟩)
abbrev A9 (n:Nat)(gs:MD):Tg:=λa τ S=>match a with
 | .tup xs | .ktu xs=>gd (xs.length=n) (gs xs τ S)
 | _=>.no
def xS{k n:Nat}{gs:MD}(hc:X.calm=true)(h:Ve X es gs)(hn:(assignEach es X.env).length=n:=by rfl)(hst:(assignEach es X.env).findIdx? (·.1)=none:=by rfl):AG X (.Tuple es k pos) (A9 n gs):=
 PG.imp (PK hc h hn hst) λv σ H Q h9=>by
  obtain⟨ρ,S,τ,a,R,r,va,h⟩:=h9
  cases va with
  | tup h1 r1=>
   obtain⟨hl,h⟩:=j9 h;exact⟨_,_,rfl,ni.of h1,by rw[<- r1.length];exact hl,ρ,S,τ,_,R,r,r1,h⟩
  | ktu h1 r1=>
   obtain⟨hl,h⟩:=j9 h;exact⟨_,_,rfl,.inr h1,by rw[<- r1.length];exact hl,ρ,S,τ,_,R,r,r1,h⟩
  | _=>exact h.elim
abbrev BG (o i v:A)(S:jL):R Unit:=match o,i with
 | .ref n,.int k=>opt (jH S n) λxs=>opt (yM xs.length k) λj=>.ok Unit.unit (S.set n (.lst (xs.set j v)))
 | _,_=>.no
abbrev Xp (X:Cx):CU:=λo i v H Q=>∃ρ S ao ai av,Rel X.K ρ H S/\AV X.K ρ H ao o/\AV X.K ρ H ai i/\AV X.K ρ H av v/\(BG ao ai av S).post (λ_ S'=>∀ρ' H',Ext ρ ρ' H H'->Rel X.K ρ' H' S'->Q H') (XE X ρ H)
def FQ:GR X (Xp X):=λpins s σ H o i v ov iv u Q I ro ri rv h9=>by
 obtain⟨ρ,S,ao,ai,av,R,h1,h2,h3,h⟩:=h9
 cases h1 with
 | @ref p n hp=>
  cases h2 with
  | int k=>
   kt_k;obtain⟨j,hj,h⟩:=jM h;obtain⟨vs,e,r⟩:=R.lst hp (jU hn);obtain⟨ex,R'⟩:=R.put hp (jU hn) (r.set h3 j);exact set_list pins s σ H _ _ v ov iv u Q I ro ri rv ⟨p,vs,k,j,rfl,rfl,e,by rw[<- r.length];exact hj,h _ _ ex R'⟩
  | _=>exact h.elim
 | _=>exact h.elim
abbrev SN (co ci:Ex):Tg:=λa τ S=>(co τ S).bind λo S1=>(ci τ S1).bind λi S2=>(BG o i a S2).bind λ_ S3=>.ok τ S3
def z7{co ci:Ex}(ho:AE X o co)(hi:AE X i ci)
  (ha:∀v,assign (.Subscript o i pos) X.env v=(do
   let ov <- holding [v] (eval o X.env)
   let iv <- holding [v,ov] (eval i X.env)
   standAt pos
   holding [v,ov,iv] (setItem ov iv v)
   release [v,ov,iv] []):=by intro _;rfl):AG X (.Subscript o i pos) (SN co ci):=PG.imp (Ko ho hi FQ ha) λv σ H Q h9=>by
 obtain⟨ρ,S,τ,a,R,r,va,h⟩:=h9;refine⟨ρ,S,τ,R,r,jJ (jO h) .refl λo S1 h1 ρ1 H1 x e1 R1 v1=>⟨ρ1,S1,τ,R1,r.ext e1,jJ (jO h1) e1 λi S2 h2 ρ2 H2 y e2 R2 v2=>?_⟩⟩;refine⟨ρ2,S2,o,i,a,R2,v1.ext e2,v2,va.ext (e1.trans e2),jJ (jO h2) (e1.trans e2) λ_ S3 h3 ρ3 H3 e3 R3=>?_⟩;exact h3 ρ3 H3 σ ((e1.trans e2).trans e3) R3 (r.ext ((e1.trans e2).trans e3))
abbrev qM:Sm:=λτ S=>.nx τ S
abbrev ku (c d:Sm):Sm:=λτ S=>match c τ S with
 | .nx τ' S'=>d τ' S'
 | r=>r
def k6:NO X [] qM:=A1.imp MW λD σ H ⟨ρ,S,τ,R,r,h⟩=>h ρ H σ .refl R r
def Nh{D:Ends}{H:Hp}(h:tS X (ku c d) D σ H):Um (tS X c) (tS X d) D σ H:=by
 kln_w;refine⟨ρ,S,τ,R,r,?_⟩;unfold ku at h
 cases hc:c τ S with
 | nx τ1 S1=>
  rw[hc]at h;exact λρ1 H1 σ1 e1 R1 r1=>⟨ρ1,S1,τ1,R1,r1,zm.ext h e1⟩
 | rt a S1=>rw[hc]at h;exact h
 | bk τ1 S1=>rw[hc]at h;exact h
 | ct τ1 S1=>rw[hc]at h;exact h
 | ex x S1=>rw[hc]at h;exact h
 | no=>rw[hc]at h;exact h
def jN(h1:AS X st c)(h2:NO X rest d):NO X (st::rest) (ku c d):=A1.imp (JV h1 h2) λD σ H h=>Nh h
def jR(h1:AS X st c):NO X [st] c:=Ni h1
abbrev Qk:Sm:=λτ S=>.bk τ S
abbrev Uw:Sm:=λτ S=>.ct τ S
abbrev uA (e:Ex):Sm:=λτ S=>.of (e τ S) λ_ S1=>.nx τ S1
def qI{f:Ex}(he:AE X e f)(hs:swapsWith e none pos.line X.env=pure false:=by rfl):AS X (.Expr e pos) (uA f):=PS.imp (Nl he hs) λD σ H ⟨ρ,S,τ,R,r,h⟩=>
 ⟨ρ,S,τ,R,r,jJ (of_post h) .refl λa S1 h1 ρ1 H1 x e1 R1 v1=>h1 ρ1 H1 σ e1 R1 (r.ext e1)⟩
abbrev lH (e:Ex):Sm:=λτ S=>.of (e τ S) λa S1=>.rt a S1
def kq{f:Ex}(he:AE X e f):AS X (.Return (some e) pos) (lH f):=PS.imp (Q8 he) λD σ H ⟨ρ,S,τ,R,r,h⟩=>⟨ρ,S,τ,R,r,jJ (of_post h) .refl λa S1 h1=>h1⟩
abbrev KC:Sm:=λτ S=>.rt .non S
def Nx:AS X (.Return none pos) KC:=PS.imp NY λD σ H ⟨ρ,S,τ,R,r,h⟩=>h ρ H _ .refl R .non
abbrev A5 (t:Te)(c d:Sm):Sm:=λτ S=>.of (t τ S) λb S1=>match b with|true=>c τ S1|false=>d τ S1
def oq{t:Te}(ht:AT X e t)(ha:NO X ca c)(hb:NO X cb d):AS X (.If e ca cb pos) (A5 t c d):=PS.imp (Uo ht ha hb) λD σ H h9=>by
 room;refine⟨ρ,S,τ,R,r,jJ (of_post h) .refl λb S1 h1 ρ1 H1 e1 R1=>?_⟩
 cases b with
 | true=>rw[aN rfl];exact⟨ρ1,S1,τ,R1,r.ext e1,zm.ext h1 e1⟩
 | false=>rw[aM aY];exact⟨ρ1,S1,τ,R1,r.ext e1,zm.ext h1 e1⟩
abbrev lA (e:Ex)(g:Tg):Sm:=λτ S=>.of (e τ S) λa S1=>.of (g a τ S1) λτ' S2=>.nx τ' S2
def Ng{f:Ex}{g:Tg}{D:Ends}{H:Hp}(h:tS X (lA f g) D σ H):ME (tE X f) (tG X g) D σ H:=by
 kln_w;exact⟨ρ,S,τ,R,r,jJ (of_post h) .refl λa S1 h1 ρ1 H1 x e1 R1 v1=>⟨ρ1,S1,τ,a,R1,r.ext e1,v1,jJ (of_post h1) e1 λτ2 S2 h2=>DU.ext h2 e1⟩⟩
def xG{tg:aE}{f:Ex}{g:Tg}(he:AE X e f)(hg:AG X tg g)(hs:swapsWithSole [tg] e pos.line X.env=pure false:=by rfl)(hw:swappedStores [tg] e X.env=pure none:=by rfl)
  (h1:(assignEach [tg] X.env).map (·.2)=[assign tg X.env]:=by rfl):AS X (.Assign [tg] e pos) (lA f g):=PS.imp (QF he hg hs hw h1) λD σ H h=>Ng h
def kD{i:Nat}{x:Str}{f:Ex}(hN:X.N.Nodup)(he:AE X e f)(hi:X.N[i]?=some x:=by rfl)(hx:Loc X.env.scope x:=by first|exact Or.inl rfl|exact Or.inr rfl)(hs:swapsWith e (some (.Name x pos')) pos.line X.env=pure false:=by rfl)(hf:X.fn x=true\/X.env.scope.names.lookup x=some .local:=by first|exact .inl rfl|exact .inr rfl|assumption) :
  AS X (.Assign [.Name x pos'] e pos) (lA f (kO i)):=PS.imp (P9 hN hi hx he hs hf) λD σ H ⟨ρ,S,τ,R,r,h⟩=>
 ⟨ρ,S,τ,R,r,jJ (of_post h) .refl λa S1 h1 ρ1 H1 x e1 R1 v1=>h1 ρ1 H1 _ e1 R1 ((r.ext e1).set v1)⟩
abbrev VJ (i j:Nat)(c:qJ):Sm:=λτ S=>.of (c τ S) λas S1=>match as with
 | [a,b]=>.nx ((τ.set i a).set j b) S1
 | _=>.no
abbrev ip (X:Cx)(f:A->A->jL->R A):Sj:=λx y H Q=>∃ρ S a b,Rel X.K ρ H S/\AV X.K ρ H a x/\AV X.K ρ H b y/\(f a b S).post (wW X ρ H Q) (XE X ρ H)
abbrev C_ (a b:A)(S:jL):R A:=match a,b with
 | .int i,.int j=>.ok (.int (i+j)) S
 | _,_=>.no
def zS:OA X .Add (ip X C_):=λpins s σ H x y v u Q I r1 r2 h9=>by
 z_go
 cases va with
 | int i=>
  cases vb with
  | int j=>exact RO pins s σ H _ _ v u Q I r1 r2 ⟨i,j,rfl,rfl,h _ _ _ .refl R (.int _)⟩
  | _=>exact h.elim
 | _=>exact h.elim
def M4:OA X .Sub (ip X aSub):=λpins s σ H x y v u Q I r1 r2 h9=>by
 z_go
 cases va with
 | int i=>
  cases vb with
  | int j=>exact PV pins s σ H _ _ v u Q I r1 r2 ⟨i,j,rfl,rfl,h _ _ _ .refl R (.int _)⟩
  | _=>exact h.elim
 | _=>exact h.elim
abbrev LL (i:Nat)(f:A->A->jL->R A)(e:Ex):Sm:=λτ S=>if (τ.getD i .unb).nV then .no else .of (e τ S) λb S1=>.of (f (τ.getD i .unb) b S1) λc S2=>.nx (τ.set i c) S2
def RM{i:Nat}{x:Str}{c:Ex}{f:A->A->jL->R A}(hN:X.N.Nodup)(he:AE X e c)(ho:OA X op (ip X f))(hi:X.N[i]?=some x:=by rfl)(hx:Loc X.env.scope x:=by first|exact Or.inl rfl|exact Or.inr rfl)(hf:X.fn x=true\/X.env.scope.names.lookup x=some .local:=by first|exact .inl rfl|exact .inr rfl|assumption) :
  AS X (.AugAssign (.Name x pos') op e pos) (LL i f c):=PS.imp (P5 hN hi hx he ho hf) λD σ H h9=>by
 room;have key:∀x,τ[i]?=some x->x.nV=false->(RS.of (c τ S) λb S1=>.of (f x b S1) λc S2=>.nx (τ.set i c) S2).post (DU X ρ H D.nx) (wW X ρ H D.rt) (DU X ρ H D.bk) (DU X ρ H D.ct) (XE X ρ H) ->
   ∃x,σ[i]?=some (some x)/\tE X c σ H λy H1=>ip X f x y H1 λz H2=>D.nx (σ.set i (some z)) H2:=by
  intro x hi hx h
  rcases r.at i x hi with z|⟨v,e,q⟩
  ·subst z;cases hx
  ·refine⟨v,e,ρ,S,τ,R,r,jJ (of_post h) .refl λb S1 h1 ρ1 H1 y e1 R1 v1=>⟨ρ1,S1,x,b,R1,q.ext e1,v1,jJ (of_post h1) e1 λw S2 h2 ρ2 H2 z e2 R2 v2=>?_⟩⟩;exact h2 ρ2 H2 _ (e1.trans e2) R2 ((r.ext (e1.trans e2)).set v2)
 unfold LL zm at h;rw[aI]at h
 cases hi:τ[i]? with
 | none=>rw[hi]at h;exact h.elim
 | some x=>
  rw[hi]at h
  cases hx:x.nV with
  | true=>rw[show(some x).getD .unb=x from rfl,hx]at h;exact h.elim
  | false=>rw[show(some x).getD .unb=x from rfl,hx]at h;exact key x hi hx h
abbrev I_ (a b:A)(S:jL):R A:=match a,b with
 | .ref n,.int i=>opt (jH S n) λxs=>gd (0<=i) (opt (xs[i.toNat]?) λx=>.ok x S)
 | _,_=>.no
def Ol:Ss X (r2 X I_):=λpins s σ H o i ov iv Q I ro ri h9=>by
 z_go
 cases va with
 | @ref p n hp=>
  cases vb with
  | int k=>
   kt_k;obtain⟨h0,h⟩:=j9 h;obtain⟨x,hx,h⟩:=jM h;obtain⟨vs,h1,r1⟩:=R.lst hp (jU hn);obtain⟨z,e,q⟩:=r1.get hx;exact JK pins s σ H _ _ ov iv Q I ro ri ⟨p,vs,k,z,rfl,rfl,nH.of h1,h0,e,h _ _ _ .refl R q⟩
  | _=>exact h.elim
 | _=>exact h.elim
abbrev wk (co ci ce:Ex)(f:A->A->jL->R A):Sm:=λτ S=>.of (co τ S) λo S1=>.of (ci τ S1) λi S2=>.of (I_ o i S2) λx S3=>.of (ce τ S3) λy S4=>.of (f x y S4) λz S5=>.of (BG o i z S5) λ_ S6=>.nx τ S6
def Ag{co ci ce:Ex}{f:A->A->jL->R A}(ho:AE X o co)(hi:AE X i ci)(he:AE X e ce)(hp:OA X op (ip X f))
  (ha:∀ov iv new,augStore i ov iv new=(do holding [new,ov,iv] (setItem ov iv new);release [new,ov,iv] [];pure .next):=by intros;rfl):AS X (.AugAssign (.Subscript o i tpos) op e pos) (wk co ci ce f):=
 PS.imp (NL ho hi Ol he hp FQ ha) λD σ H h9=>by
  room;refine⟨ρ,S,τ,R,r,jJ (of_post h) .refl λao S1 h1 ρ1 H1 vo e1 R1 v1=>⟨ρ1,S1,τ,R1,r.ext e1,jJ (of_post h1) e1 λai S2 h2 ρ2 H2 vi e2 R2 v2=>?_⟩⟩;refine⟨ρ2,S2,ao,ai,R2,v1.ext e2,v2,jJ (of_post h2) (e1.trans e2) λax S3 h3 ρ3 H3 vx e3 R3 v3=>?_⟩;have e13:=(e1.trans e2).trans e3;refine⟨ρ3,S3,τ,R3,r.ext e13,jJ (of_post h3) e13 λay S4 h4 ρ4 H4 vy e4 R4 v4=>?_⟩;refine⟨ρ4,S4,ax,ay,R4,v3.ext e4,v4,jJ (of_post h4) (e13.trans e4) λaz S5 h5 ρ5 H5 vz e5 R5 v5=>?_⟩;have e35:=(e3.trans e4).trans e5;refine⟨ρ5,S5,ao,ai,az,R5,v1.ext (e2.trans e35),v2.ext e35,v5,jJ (of_post h5) ((e13.trans e4).trans e5) λ_ S6 h6 ρ6 H6 e6 R6=>?_⟩;have e16:=((e13.trans e4).trans e5).trans e6;exact h6 ρ6 H6 σ e16 R6 (r.ext e16)
abbrev mq (t:Te)(c:Sm):Nat->Sm
 | 0=>λ_ _=>.no
 | n+1=>λτ S=>.of (t τ S) λb S1=>match b with
  | false=>.nx τ S1
  | true=>match c τ S1 with
   | .nx τ' S'=>mq t c n τ' S'
   | .ct τ' S'=>mq t c n τ' S'
   | .bk τ' S'=>.nx τ' S'
   | r=>r
def yH(n:Nat){t:Te}(hp:PassesOwn (model X.prog X.w) X.A X.env X.xe)(ht:AT X e t)(hb:NO X body c):AS X (.While e body [] pos) (mq t c n):=PS.imp (Kv hp ht hb) λD σ H h9=>by
 room;refine⟨λm σ' H'=>∃ρ' S' τ',Ext ρ ρ' H H'/\Rel X.K ρ' H' S'/\SR X.K ρ' H' τ' σ'/\zm X ρ' H' D (mq t c m τ' S'),⟨n,ρ,S,τ,.refl,R,r,h⟩,?_⟩;rintro m σ1 H1 ⟨ρ1,S1,τ1,e1,R1,r1,h1⟩
 cases m with
 | zero=>exact h1.elim
 | succ m=>
  refine⟨ρ1,S1,τ1,R1,r1,jJ (of_post h1) .refl λb S2 h2 ρ2 H2 e2 R2=>?_⟩
  cases b with
  | false=>rw[aM aY];exact h2 ρ2 H2 σ1 e2 R2 (r1.ext e2)
  | true=>
   rw[aN rfl];refine⟨λσ' H'=>∃ρ' S' τ',Ext ρ ρ' H H'/\Rel X.K ρ' H' S'/\SR X.K ρ' H' τ' σ'/\zm X ρ' H' D (mq t c m τ' S'),λσ' H' z=>⟨m,c9 _,z⟩,ρ2,S2,τ1,R2,r1.ext e2,?_⟩;have h2:zm X ρ1 H1 D (match c τ1 S2 with
    | .nx τ' S'=>mq t c m τ' S'
    | .ct τ' S'=>mq t c m τ' S'
    | .bk τ' S'=>.nx τ' S'
    | r=>r):=h2
   cases hc:c τ1 S2 with
   | nx τ3 S3=>rw[hc]at h2;exact λρ3 H3 σ3 e3 R3 r3=>⟨ρ3,S3,τ3,(e1.trans e2).trans e3,R3,r3,zm.ext h2 (e2.trans e3)⟩
   | ct τ3 S3=>rw[hc]at h2;exact λρ3 H3 σ3 e3 R3 r3=>⟨ρ3,S3,τ3,(e1.trans e2).trans e3,R3,r3,zm.ext h2 (e2.trans e3)⟩
   | bk τ3 S3=>rw[hc]at h2;exact DU.ext h2 e2
   | rt a S3=>rw[hc]at h2;exact wW.ext h2 e2
   | ex x S3=>rw[hc]at h2;exact XE.ext h2 e2
   | no=>rw[hc]at h2;exact h2
end
structure Src where
 k:Nat
 get:Nat->jL->Option A
 fin:jL->Bool
structure JR (K:au)(s:Src)(J:It)(ρ0:ar)(H0:Hp):Prop where
 go:∀(i:Nat) (S:jL) (H:Hp) (ρ:ar) (x:A),Ext0 ρ0 ρ H0 H->Rel K ρ H S->s.get i S=some x->J.go i H/\∀v H',J.yld i H v H'->Ext ρ ρ H H'/\Rel K ρ H' S/\AV K ρ H' x v
 stop:∀(S:jL) (H:Hp) (ρ:ar),Ext0 ρ0 ρ H0 H->Rel K ρ H S->s.fin S=true->J.stop s.k H
meta abbrev Ic:=ad->jL->R Src
abbrev tI (X:Cx)(c:Ic):TI:=λσ H Q=>∃ρ S τ,Rel X.K ρ H S/\SR X.K ρ H τ σ/\(c τ S).post (λs S'=>∀ρ' H' J,Ext ρ ρ' H H'->Rel X.K ρ' H' S'->JR X.K s J ρ' H'->Q J H') (XE X ρ H)
abbrev AI (X:Cx)(tg iter:aE)(c:Ic):Prop:=PI X tg iter (tI X c)
abbrev nK (xs:ad):Src:=⟨xs.length,λi _=>xs[i]?,λ_=>true⟩
abbrev mP (n k:Nat):Src:=⟨k,λi S=>(jH S n).bind (·[i]?),λS=>match jH S n with
 | some ys=>decide (ys.length<=k)
 | none=>false⟩
abbrev kN (lo hi:Int):Src:=⟨(hi-lo).toNat,λi _=>if i<(hi-lo).toNat then some (.int (lo+i))else none,λ_=>true⟩
abbrev qD (c:Ex):Ic:=λτ S=>(c τ S).bind λa S1=>match a with
 | .tup xs=>.ok (nK xs) S1
 | .frz xs=>.ok (nK xs) S1
 | .ref n=>opt (jH S1 n) λxs=>.ok (mP n xs.length) S1
 | .str x=>gd (x.cps.all (· < 128)=true) (.ok (nK (x.cps.toList.map λc=>.str ⟨#[c]⟩)) S1)
 | _=>.no
section
variable {X:Cx}{pos:Pos}{tg e a b:aE}
def Py{K:au}{H0:Hp}{p:ak}(h:ni K H0 p vs)(r:AVs K ρ0 H0 xs vs):JR K (nK xs) (VE K p) ρ0 H0 where
 go:=λi S H ρ x e R g=>by
  obtain⟨v,ev,av⟩:=(AVs.lU e r).get g;have hs:=e.W3 h;refine⟨⟨vs,v,hs,ev⟩,λw H' ⟨e1,y⟩=>?_⟩;subst e1;have:=y vs hs;rw[ev]at this
  cases this
  exact⟨.refl,R,av⟩
 stop:=λS H ρ e R _=>⟨vs,e.W3 h,by rw[<- r.length];exact aS _⟩
def RU{K:au}{H0:Hp}{p:ak}(h:Fz K H0 p vs)(r:AVs K ρ0 H0 xs vs):JR K (nK xs) (Vn K p) ρ0 H0 where
 go:=λi S H ρ x e R g=>by
  obtain⟨v,ev,av⟩:=(AVs.lU e r).get g;have hs:=(e.fz h).K1;refine⟨⟨vs,v,hs,ev⟩,λw H' ⟨e1,y⟩=>?_⟩;subst e1;have:=y vs hs;rw[ev]at this
  cases this
  exact⟨.refl,R,av⟩
 stop:=λS H ρ e R _=>⟨vs,(e.fz h).K1,by rw[<- r.length];exact aS _⟩
def RZ{K:au}{ρ0:ar}{H0:Hp}{p:ak}{n k:Nat}(h:ρ0[n]?=some p):JR K (mP n k) (Vn K p) ρ0 H0 where
 go:=λi S H ρ x e R g=>by
  obtain⟨ys,hn,hx⟩:=dz.mp (show(jH S n).bind (·[i]?)=some x from g);obtain⟨vs,h1,r⟩:=R.lst (e.get h) (jU hn);obtain⟨v,ev,av⟩:=r.get hx;refine⟨⟨vs,v,nH.of h1,ev⟩,λw H' ⟨e1,y⟩=>?_⟩;subst e1;have:=y vs (nH.of h1);rw[ev]at this
  cases this
  exact⟨.refl,R,av⟩
 stop:=λS H ρ e R g=>by
  have g:(match jH S n with
   | some ys=>decide (ys.length<=k)
   | none=>false)=true:=g
  cases hn:jH S n with
  | none=>rw[hn]at g;cases g
  | some ys=>
   rw[hn]at g;obtain⟨vs,h1,r⟩:=R.lst (e.get h) (jU hn);exact⟨vs,nH.of h1,by rw[<- r.length];exact dJ g⟩
def HM{K:au}{H0:Hp}{lo hi:Int}:JR K (kN lo hi) (U9 lo (hi-lo).toNat) ρ0 H0 where
 go:=λi S H ρ x e R g=>by
  have g:(if i<(hi-lo).toNat then some (A.int (lo+i))else none)=some x:=g;by_cases hi':i<(hi-lo).toNat
  ·rw[aN hi']at g
   cases g
   refine⟨hi',λw H' ⟨e1,y⟩=>?_⟩;subst e1 y;exact⟨.refl,R,.int _⟩
  ·rw[aM hi']at g;cases g
 stop:=λS H ρ e R _=>aS _
def PZ{K:au}{H0:Hp}{x:Str}:JR K (nK (x.cps.toList.map λc=>A.str ⟨#[c]⟩)) (Vs x) ρ0 H0 where
 go:=λi S H ρ y e R g=>by
  have g:(x.cps.toList.map λc=>A.str ⟨#[c]⟩)[i]?=some y:=g;rw[aR]at g;obtain⟨c,hc,rfl⟩:=bA.mp g;rw[c5]at hc;refine⟨(Array.getElem?_eq_some_iff.mp hc).1,λw H' ⟨e1,c',hc',y'⟩=>?_⟩;rw[hc]at hc'
  cases hc'
  subst e1 y';exact⟨.refl,R,.str _⟩
 stop:=λS H ρ e R _=>by
  show(x.cps.toList.map λc=>A.str ⟨#[c]⟩).length=x.cps.size;rw[aL,cY]
def qH{c:Ex}(he:AE X e c):AI X tg e (qD c):=λpins s σ H Q I h9=>by
 room;have hb:=jO h
 cases hc:c τ S with
 | no=>rw[hc]at hb;exact hb.elim
 | ex x S1=>
  rw[hc]at hb;exact JH he pins s σ H Q I ⟨ρ,S,τ,R,r,by rw[hc];exact hb⟩
 | ok a S1=>
  rw[hc]at hb
  cases a with
  | tup xs=>
   refine JH he pins s σ H Q I ⟨ρ,S,τ,R,r,?_⟩;rw[hc];intro ρ1 H1 x e1 R1 v1
   cases v1 with
   | tup h1 r1=>exact⟨_,rfl,⟨_,(ni.of h1)⟩,hb ρ1 H1 _ e1 R1 (Py (ni.of h1) r1)⟩
  | frz xs=>
   refine EO he pins s σ H Q I ⟨ρ,S,τ,R,r,?_⟩;rw[hc];intro ρ1 H1 x e1 R1 v1
   cases v1 with
   | frz h1 r1=>exact⟨_,rfl,⟨_,h1.K1⟩,hb ρ1 H1 _ e1 R1 (RU h1 r1)⟩
  | ref n=>
   obtain⟨xs,hn,hb⟩:=jM hb;refine EO he pins s σ H Q I ⟨ρ,S,τ,R,r,?_⟩;rw[hc];intro ρ1 H1 x e1 R1 v1
   cases v1 with
   | ref hp=>
    obtain⟨vs,h1,r1⟩:=R1.lst hp (jU hn);exact⟨_,rfl,⟨_,nH.of h1⟩,hb ρ1 H1 _ e1 R1 (RZ hp)⟩
  | str x=>
   obtain⟨ha,hb⟩:=j9 hb;refine P4 he pins s σ H Q I ⟨ρ,S,τ,R,r,?_⟩;rw[hc];intro ρ1 H1 v e1 R1 v1
   cases v1 with
   | str=>exact⟨x,rfl,ha,hb ρ1 H1 _ e1 R1 PZ⟩
  | _=>exact hb.elim
abbrev bnd (i:Int):Prop:=-(2 ^ 62)<=i/\i<2 ^ 62
instance (i:Int):Decidable (bnd i):=by unfold bnd;infer_instance
abbrev oz (c:Ex):Ic:=λτ S=>(c τ S).bind λa S1=>match a with
 | .int j=>gd (bnd j) (.ok (kN 0 j) S1)
 | _=>.no
abbrev oA (c d:Ex):Ic:=λτ S=>(c τ S).bind λa S1=>(d τ S1).bind λb S2=>match a,b with
 | .int i,.int j=>gd (bnd i/\bnd j) (.ok (kN i j) S2)
 | _,_=>.no
def m5{p:Pos}{c:Ex}(hm:X.mg "range" = none)(ha:AE X a c)(hg:Gl X "range" := by rfl)(hs:starEach [a] X.env=[(false,eval a X.env)]:=by rfl):AI X tg (.Call (.Name "range" p) [a] [] pos) (oz c):=λpins s σ H Q I h9=>by
 room;refine GP hg hm (ur ha zN hs) hs pins s σ H Q I ⟨ρ,S,τ,R,r,jJ (jO h) .refl λx S1 h1 ρ1 H1 v e1 R1 v1=>?_⟩
 cases v1 with
 | int j=>
  obtain⟨hb,h1⟩:=j9 h1;exact⟨_,rfl,hb.1,hb.2,by have:=h1 ρ1 H1 _ e1 R1 HM;rwa [Int.sub_zero]at this⟩
 | _=>exact h1.elim
def qh{p:Pos}{c d:Ex}(hm:X.mg "range" = none)(ha:AE X a c)(hb:AE X b d)(hg:Gl X "range" := by rfl)(hs:starEach [a,b] X.env=[(false,eval a X.env),(false,eval b X.env)]:=by rfl)(hs2:starEach [b] X.env=[(false,eval b X.env)]:=by rfl):AI X tg (.Call (.Name "range" p) [a,b] [] pos) (oA c d):=λpins s σ H Q I h9=>by
 room;refine Hr hg hm (ur ha (ur hb zN hs2) (by rw[hs,hs2])) hs hs2 pins s σ H Q I ⟨ρ,S,τ,R,r,jJ (jO h) .refl λx S1 h1 ρ1 H1 v e1 R1 v1=>⟨ρ1,S1,τ,R1,r.ext e1,jJ (jO h1) e1 λy S2 h2 ρ2 H2 w e2 R2 v2=>?_⟩⟩
 cases v1 with
 | int i=>
  cases v2 with
  | int j=>
   obtain⟨hb,h2⟩:=j9 h2;exact⟨_,_,rfl,⟨hb.1.1,hb.1.2,hb.2.1,hb.2.2⟩,h2 ρ2 H2 _ (e1.trans e2) R2 HM⟩
  | _=>exact h2.elim
 | _=>exact h2.elim
abbrev o6 (s:Src)(g:Tg)(c:Sm):Nat->Nat->Sm
 | 0,_=>λτ S=>if s.fin S then .nx τ S else .no
 | k+1,i=>λτ S=>match s.get i S with
  | none=>.no
  | some x=>.of (g x τ S) λτ1 S1=>match c τ1 S1 with
   | .nx τ' S'=>o6 s g c k (i+1) τ' S'
   | .ct τ' S'=>o6 s g c k (i+1) τ' S'
   | .bk τ' S'=>.nx τ' S'
   | r=>r
abbrev rD (src:Ic)(g:Tg)(c:Sm):Sm:=λτ S=>.of (src τ S) λs S1=>o6 s g c s.k 0 τ S1
def pJ{iter:aE}{src:Ic}{g:Tg}{c:Sm}(hp:PassesOwn (model X.prog X.w) X.A X.env X.xe)(hc:X.calm=true)(hi:AI X tg iter src)(hg:AG X tg g)(hb:NO X body c)
  (hs:∀x,foldedSetIterable iter X.env x=pure x:=by intro _;rfl):AS X (.For tg iter body [] pos) (rD src g c):=PS.imp (SM hp hc hi hg hb hs) λD σ H h9=>by
 room;refine⟨ρ,S,τ,R,r,jJ (of_post h) .refl λs S1 h1 ρ1 H1 J e1 R1 jr=>?_⟩;refine⟨λi m σ' H'=>m+i=s.k/\∃ρ' S' τ',Ext ρ1 ρ' H1 H'/\Rel X.K ρ' H' S'/\SR X.K ρ' H' τ' σ'/\zm X ρ' H' D (o6 s g c m i τ' S'),⟨s.k,rfl,ρ1,S1,τ,.refl,R1,r.ext e1,zm.ext h1 e1⟩,?_⟩;rintro i m σ2 H2 ⟨hm,ρ2,S2,τ2,e2,R2,r2,h2⟩
 cases m with
 | zero=>
  left;have h2:zm X ρ2 H2 D (if s.fin S2 then .nx τ2 S2 else .no):=h2
  cases hf:s.fin S2 with
  | false=>rw[hf]at h2;exact h2.elim
  | true=>
   rw[hf]at h2;refine⟨by rw[show i=s.k by lia];exact jr.stop S2 H2 ρ2 e2.toExt0 R2 hf,h2 ρ2 H2 σ2 .refl R2 r2⟩
 | succ m=>
  right;have h2:zm X ρ2 H2 D (match s.get i S2 with
   | none=>.no
   | some x=>.of (g x τ2 S2) λτ1 S1=>match c τ1 S1 with
    | .nx τ' S'=>o6 s g c m (i+1) τ' S'
    | .ct τ' S'=>o6 s g c m (i+1) τ' S'
    | .bk τ' S'=>.nx τ' S'
    | r=>r):=h2
  cases hx:s.get i S2 with
  | none=>rw[hx]at h2;exact h2.elim
  | some x=>
   rw[hx]at h2;obtain⟨hgo,hy⟩:=jr.go i S2 H2 ρ2 x e2.toExt0 R2 hx;refine⟨hgo,λσ' H'=>m+(i+1)=s.k/\∃ρ' S' τ',Ext ρ1 ρ' H1 H'/\Rel X.K ρ' H' S'/\SR X.K ρ' H' τ' σ'/\zm X ρ' H' D (o6 s g c m (i+1) τ' S'),λσ' H' z=>⟨m,c9 _,z⟩,λv H3 y=>?_⟩;obtain⟨e3,R3,v3⟩:=hy v H3 y;refine⟨ρ2,S2,τ2,x,R3,r2.ext e3,v3,jJ (of_post h2) e3 λτ4 S4 h4 ρ4 H4 σ4 e4 R4 r4=>⟨ρ4,S4,τ4,R4,r4,?_⟩⟩;have e24:=e3.trans e4
   cases hcc:c τ4 S4 with
   | nx τ5 S5=>rw[hcc]at h4;exact λρ5 H5 σ5 e5 R5 r5=>⟨(),ρ5,S5,τ5,(e2.trans e24).trans e5,R5,r5,zm.ext h4 (e24.trans e5)⟩
   | ct τ5 S5=>rw[hcc]at h4;exact λρ5 H5 σ5 e5 R5 r5=>⟨(),ρ5,S5,τ5,(e2.trans e24).trans e5,R5,r5,zm.ext h4 (e24.trans e5)⟩
   | bk τ5 S5=>rw[hcc]at h4;exact DU.ext h4 e24
   | rt x5 S5=>rw[hcc]at h4;exact wW.ext h4 e24
   | ex x5 S5=>rw[hcc]at h4;exact XE.ext h4 e24
   | no=>rw[hcc]at h4;exact h4
end
abbrev R.lK {α β:Type}(r:R α)(f:α->jL->R β):R β:=match r with
 | .ok a S=>f a S
 | _=>.no
def lq{α β:Type}{r:R α}{f:α->jL->R β}{b:β}(h:r.lK f=.ok b S2):∃a S,r=.ok a S/\f a S=.ok b S2:=by
 cases r with
 | ok a S=>exact⟨a,S,rfl,h⟩
 | ex _ _=>cases h
 | no=>cases h
def yG{α β:Type}{r:R α}{f:α->jL->R β}{P:β->jL->Prop}{E:Str->jL->Prop}(h:(r.lK f).post P E):∃a S,r=.ok a S/\(f a S).post P E:=by
 cases r with
 | ok a S=>exact⟨a,S,rfl,h⟩
 | ex _ _=>exact h.elim
 | no=>exact h.elim
def Dm{α β:Type}{o:Option β}{f:β->R α}{a:α}(h:opt o f=.ok a S):∃b,o=some b/\f b=.ok a S:=by
 cases o with
 | none=>cases h
 | some b=>exact⟨b,rfl,h⟩
abbrev mw (s:Src)(g:Tg)(t:Te)(e:Ex):Nat->Nat->ad->jL->R (ad)
 | 0,_=>λ_ S=>if s.fin S then .ok [] S else .no
 | k+1,i=>λτ S=>opt (s.get i S) λx=>(g x τ S).lK λτ1 S1=>(t τ1 S1).lK λb S2=>match b with
  | true=>(e τ1 S2).lK λy S3=>(mw s g t e k (i+1) τ1 S3).lK λys S4=>.ok (y::ys) S4
  | false=>mw s g t e k (i+1) τ1 S2
abbrev nN (cap:List (bi))(τ:ad):ad:=cap.map λo=>match o with
 | some j=>τ.getD j .unb
 | none=>.unb
abbrev kM (cap:List (bi))(src:Ic)(g:Tg)(t:Te)(e:Ex):Ex:=λτ S=>(src τ S).bind λs S1=>(mw s g t e s.k 0 (nN cap τ) S1).lK λys S2=>newL ys S2
abbrev sU:Te:=λ_ S=>.ok true S
def CB{s:Src}{g:Tg}{t:Te}{e:Ex}{k:Nat}{T:Prop}(h:mw s g t e (k+1) i τ S=.ok zs S')
  (q:∀x τ1 S1 b S2,s.get i S=some x->g x τ S=.ok τ1 S1->t τ1 S1=.ok b S2->(b=true->∃y S3 ws,e τ1 S2=.ok y S3/\mw s g t e k (i+1) τ1 S3=.ok ws S'/\zs=y::ws)->(b=false->mw s g t e k (i+1) τ1 S2=.ok zs S')->T):T:=by
 obtain⟨x,hx,h⟩:=Dm h;obtain⟨τ1,S1,h1,h⟩:=lq h;obtain⟨b,S2,h2,h⟩:=lq h;refine q x τ1 S1 b S2 hx h1 h2 (λhb=>?_) λhb=>?_
 ·subst hb;obtain⟨y,S3,h3,h⟩:=lq h;obtain⟨ws,S4,h4,h⟩:=lq h
  cases h
  exact⟨y,S3,ws,h3,h4,rfl⟩
 ·subst hb;exact h
structure Out (ρ1:ar)(H1:Hp)(D:ak)(accV:List V)(ρ:ar)(H:Hp):Prop where
 e0:Ext0 ρ1 ρ H1 H
 fr:∀a u,a≠D->H1 a=some u->a∉ρ1->H a=some u
 nw:∀a∈ρ,a∈ρ1\/H1 a=none
 nD:D∉ρ
 hD:H D=some (.lst accV)
def Out.stay{H1 H3 H7:Hp}{D:ak}(o:Out ρ1 H1 D accV ρ3 H3)(hD1:H1 D=none)(e7:Ext ρ3 ρ7 H3 H7):Out ρ1 H1 D accV ρ7 H7:=by
 refine⟨⟨o.e0.pre.trans e7.pre,λa u i h=>e7.im a u i (o.e0.im a u i h)⟩,λa u na hu nr=>e7.fr a u (o.fr a u na hu nr) λz=>(o.nw a z).elim nr λz=>by(rw[z]at hu;cases hu),λa ha=>?_,λz=>(e7.nw D z).elim o.nD λz=>by(rw[o.hD]at z;cases z),e7.fr D _ o.hD o.nD⟩;by_cases hr:a∈ρ1
 ·exact .inl hr
 ·right
  cases q:H1 a with
  | none=>rfl
  | some u=>
   have aD:a≠D:=j6 q hD1
   rcases e7.nw a ha with z|z
   ·exact((o.nw a z).elim hr λz=>by(rw[z]at q;cases q)).elim
   ·rw[o.fr a u aD q hr]at z;cases z
def Out.put{H1 H:Hp}{D:ak}(o:Out ρ1 H1 D accV ρ H)(ex:Ext0 ρ ρ H (upd H D (.lst vs))):Out ρ1 H1 D vs ρ (upd H D (.lst vs)):=
 ⟨⟨o.e0.pre,λa u i h=>ex.im a u i (o.e0.im a u i h)⟩,λa u na hu nr=>by rw[jS na];exact o.fr a u na hu nr,o.nw,o.nD,kB⟩
def Out.end{H1 H:Hp}{D:ak}(o:Out ρ1 H1 D accV ρ H)(hD:H1 D=none):Ext ρ1 (ρ++[D]) H1 H:=by
 refine⟨⟨o.e0.pre.trans (gu _ _),o.e0.im⟩,λa u hu na=>o.fr a u (j6 hu hD) hu na,λa ha=>?_⟩
 rcases bu.mp ha with z|z
 ·exact o.nw a z
 ·have:a=D:=by simpa using z
  rw[this];exact .inr hD
abbrev Cq (K:au)(ρ1:ar)(H1:Hp)(D:ak)(ys:ad)(k:Nat)(E:ar->Hp->Prop)(P:Nat->Nat->ad->jL->ad->Prop)(i m:Nat)(σ:L2.St)(H:Hp):Prop:=
 m+i=k/\∃ρ S τ acc zs accV,Out ρ1 H1 D accV ρ H/\E ρ H/\Rel K ρ H S/\SR K ρ H τ σ/\AVs K ρ H acc accV/\P m i τ S zs/\acc++zs=ys
section
variable {K:au}{ρ1 ρ:ar}{H1 H:Hp}{D:ak}{ys acc zs:ad}{accV:List V}{k i m:Nat}{E:ar->Hp->Prop}{P:Nat->Nat->ad->jL->ad->Prop}{σ:L2.St}{S:jL}{τ:ad}
def Cq.el{T:Prop}(h:Cq K ρ1 H1 D ys k E P i m σ H)(q:∀ρ S τ acc zs accV,m+i=k->Out ρ1 H1 D accV ρ H->E ρ H->Rel K ρ H S->SR K ρ H τ σ->AVs K ρ H acc accV->P m i τ S zs->acc++zs=ys->T):T:=by
 obtain⟨hm,ρ,S,τ,acc,zs,accV,h1,h2,h3,h4,h5,h6,h7⟩:=h;exact q ρ S τ acc zs accV hm h1 h2 h3 h4 h5 h6 h7
def Cq.of(hm:m+i=k)(o:Out ρ1 H1 D accV ρ H)(e:E ρ H)(R:Rel K ρ H S)(r:SR K ρ H τ σ)(v:AVs K ρ H acc accV)(p:P m i τ S zs)(q:acc++zs=ys):Cq K ρ1 H1 D ys k E P i m σ H:=⟨hm,ρ,S,τ,acc,zs,accV,o,e,R,r,v,p,q⟩
end
abbrev U7 (K:au)(c:Ex):TE:=λσ H Q=>∃ρ S τ a S',Rel K ρ H S/\SR K ρ H τ σ/\c τ S=.ok a S'/\∀ρ' H' v,Ext ρ ρ' H H'->Rel K ρ' H' S'->AV K ρ' H' a v->Q v H'
abbrev Sv (K:au)(c:Te):TT:=λσ H Q=>∃ρ S τ a S',Rel K ρ H S/\SR K ρ H τ σ/\c τ S=.ok a S'/\∀ρ' H',Ext ρ ρ' H H'->Rel K ρ' H' S'->Q a H'
abbrev SO (K:au)(g:Tg):TG:=λv σ H Q=>∃ρ S τ a τ' S',Rel K ρ H S/\SR K ρ H τ σ/\AV K ρ H a v/\g a τ S=.ok τ' S'/\∀ρ' H' σ',Ext ρ ρ' H H'->Rel K ρ' H' S'->SR K ρ' H' τ' σ'->Q σ' H'
section
variable {X:Cx}{pos:Pos}{tg iter elt e:aE}{ifs:List aE}{scope:Scope}{N:am}{cap:List (bi)}{src:Ic}{g:Tg}{t:Te}{c:Ex}
def AE.e0{K:au}(hK:X.K=K)(h:AE X e c):PE X e (U7 K c):=PE.imp h λσ H Q ⟨ρ,S,τ,a,S',R,r,hc,q⟩=>⟨ρ,S,τ,by rw[hK];exact R,by rw[hK];exact r,by rw[hc];exact λρ' H' v e R' v'=>q ρ' H' v e (by rw[<- hK];exact R') (by rw[<- hK];exact v')⟩
def AT.t0{K:au}(hK:X.K=K)(h:AT X e t):PT X e (Sv K t):=PT.imp h λσ H Q ⟨ρ,S,τ,a,S',R,r,hc,q⟩=>⟨ρ,S,τ,by rw[hK];exact R,by rw[hK];exact r,by rw[hc];exact λρ' H' e R'=>q ρ' H' e (by rw[<- hK];exact R')⟩
def AG.g0{K:au}(hK:X.K=K)(h:AG X e g):PG X e (SO K g):=PG.imp h λv σ H Q ⟨ρ,S,τ,a,τ',S',R,r,va,hc,q⟩=>⟨ρ,S,τ,a,by rw[hK];exact R,by rw[hK];exact r,by rw[hK];exact va,by rw[hc];exact λρ' H' v e R' v'=>q ρ' H' v e (by rw[<- hK];exact R') (by rw[<- hK];exact v')⟩
abbrev SS (X:Cx)(ifs:List aE)(t:Te):Prop:=MB X ifs (Sv X.K t)
def sG:SS X [] sU:=λpins s σ H Q I ⟨ρ,S,τ,a,S',R,r,hc,q⟩=>M9 pins s σ H Q I (by cases hc;exact q ρ H .refl R)
def qz(h:AT X e t):SS X [e] t:=MO (h.t0 rfl)
def Ph{K:au}{H:Hp}(r:SR K ρ H τ σ)(cap:List (bi)):SR K ρ H (nN cap τ) (cap.map (NG σ)):=by
 refine⟨by simp[nN],λi a h=>?_⟩;unfold nN at h;rw[aR]at h;obtain⟨o,ho,e⟩:=bA.mp h
 cases o with
 | none=>exact .inl e.symm
 | some j=>
  have e:τ.getD j .unb=a:=e
  cases hj:τ[j]? with
  | none=>rw[aI,hj]at e;exact .inl e.symm
  | some b=>
   rw[aI,hj]at e;have e:b=a:=e;subst e
   rcases r.at j b hj with z|⟨v,h1,h2⟩
   ·exact .inl z
   ·exact .inr ⟨v,by rw[aR,ho];show some ((σ[j]?).getD none)=_;rw[h1];rfl,h2⟩
def Rel.IT{K:au}{H:Hp}{p:ak}(R:Rel K ρ H S)(hp:H p=none):p∉ρ:=λhm=>by
 obtain⟨n,hn,e⟩:=iF.mp hm;have hl:n<S.length:=by rw[<- R.len];exact hn
 have:=R.at n p S[n] (by rw[aH hn,e]) (aH hl)
 cases ho:S[n]with
 | lst xs=>rw[ho]at this;obtain⟨vs,h,_⟩:=this;rw[hp]at h;cases h
 | dct _|dki _=>rw[ho]at this;obtain⟨vs,h,_⟩:=this;rw[hp]at h;cases h
 | ins _ _=>rw[ho]at this;obtain⟨_,_,h⟩:=this;rw[hp]at h;cases h
def Cm(σ:L2.St)(H:Hp)(Q:VK)(h:tE X (kM cap src g t c) σ H Q):UM cap (tI X src) (SO X.K g) (Sv X.K t) (U7 X.K c) σ H Q:=by
 kln_w;refine⟨ρ,S,τ,R,r,jJ (jO h) .refl λs S1 h1 ρ1 H1 J e1 R1 jr D hD=>?_⟩;obtain⟨ys,S2,hcg,h1⟩:=yG h1;obtain⟨hlen,h1⟩:=j9 h1;have h1:wW X ρ H Q (.ref S2.length) (S2++[.lst ys]):=h1;obtain⟨eD,RD⟩:=R1.im (u:=.lst []) hD;refine⟨Cq X.K ρ1 H1 D ys s.k (λ_ _=>True) λm i τ S zs=>mw s g t c m i τ S=.ok zs S2,⟨s.k,.of rfl ⟨eD.toExt0,λa u na hu _=>by rw[jS na];exact hu,λa ha=>.inl ha,R1.IT hD,kB⟩ trivial RD (Ph ((r.ext e1).ext eD) cap) .nil hcg rfl⟩,?_⟩;intro i m σ3 H3 hw;refine hw.el λρ3 S3 τ3 acc zs accV hm o3 _ R3 r3 ac3 cg3 eys=>?_;clear hw
 cases m with
 | zero=>
  left;have cg3:(if s.fin S3 then Am.R.ok [] S3 else .no)=.ok zs S2:=cg3
  cases hf:s.fin S3 with
  | false=>rw[hf]at cg3;cases cg3
  | true=>
   rw[hf]at cg3
   cases cg3
   rw[cX]at eys;subst eys;refine⟨by rw[show i=s.k by lia];exact jr.stop _ H3 ρ3 o3.e0 R3 hf,?_⟩;obtain⟨RT,gt⟩:=R3.take o3.hD o3.nD ac3;exact h1 (ρ3++[D]) H3 _ (e1.trans (o3.end hD)) RT (.ref gt)
 | succ m=>
  right;refine CB cg3 λx τ4 S4 b S5 hx hg4 ht5 hT hF=>?_;have jg:=jr.go i S3 H3 ρ3 x o3.e0 R3 hx;refine⟨jg.1,λv H4 y=>?_⟩;obtain⟨e4,R4,v4⟩:=jg.2 v H4 y;refine⟨ρ3,S3,τ3,x,τ4,S4,R4,r3.ext e4,v4,hg4,λρ5 H5 σ5 e5 R5 r5=>⟨ρ5,S4,τ4,b,S5,R5,r5,ht5,λρ6 H6 e6 R6=>?_⟩⟩;have e36:=(e4.trans e5).trans e6
  cases b with
  | false=>
   dsimp only;rw[aM aY];exact⟨m,c9 _,.of () (o3.stay hD e36) trivial R6 (r5.ext e6) (ac3.ext e36) (hF rfl) eys⟩
  | true=>
   dsimp only;rw[aN rfl];obtain⟨y,S6,ws,he6,cg6,ezs⟩:=hT rfl;refine⟨ρ6,S5,τ4,y,S6,R6,r5.ext e6,he6,λρ7 H7 w e7 R7 v7=>?_⟩;have o7:=o3.stay hD (e36.trans e7);obtain⟨ex8,R8⟩:=R7.out (ws:=accV++[w]) o7.hD o7.nD;have l1:=ac3.length;refine⟨accV,o7.hD,?_,m,c9 _,.of () (o7.put ex8) trivial R8 ((r5.ext (e6.trans e7)).lU ex8) (AVs.lU ex8 ((ac3.ext (e36.trans e7)).append (.one v7))) cg6 ?_⟩
   ·have:(acc++zs).length<=sizeLine:=by rw[eys];exact hlen
    rw[ezs,aU,bF]at this
    lia
   ·rw[bO,<- eys,ezs];rfl
def oH(hc:X.calm=true)(Sc:CpScope X scope N cap)(hi:AI X tg iter src)(hg:∀C s₀ H₀ ex,AG (kQ X scope N C s₀ H₀ ex) tg g)(ht:∀C s₀ H₀ ex,SS (kQ X scope N C s₀ H₀ ex) ifs t)(he:∀C s₀ H₀ ex,AE (kQ X scope N C s₀ H₀ ex) elt c)
  (hs:∀x,foldedSetIterable iter X.env x=pure x:=by intro _;rfl):AE X (.ListComp elt [⟨tg,iter,ifs,0⟩] scope pos) (kM cap src g t c):=
 PE.imp (Tu hc Sc hi (g:=SO X.K g) (tc:=Sv X.K t) (te:=U7 X.K c) (λC s₀ H₀ ex=>(hg C s₀ H₀ ex).g0 rfl) (λC s₀ H₀ ex=>ht C s₀ H₀ ex) (λC s₀ H₀ ex=>(he C s₀ H₀ ex).e0 rfl) hs) Cm
def Gg{i:Nat}{x:Str}{spos:Pos}(hN:X.N.Nodup)(hc:X.calm=true)(Sc:CpScope X scope N cap)(hi:AI X tg iter src)(hg:∀C s₀ H₀ ex,AG (kQ X scope N C s₀ H₀ ex) tg g)(ht:∀C s₀ H₀ ex,SS (kQ X scope N C s₀ H₀ ex) ifs t)(he:∀C s₀ H₀ ex,AE (kQ X scope N C s₀ H₀ ex) elt c)
  (hi':X.N[i]?=some x:=by rfl) (hx:Loc X.env.scope x:=by first|exact Or.inl rfl|exact Or.inr rfl)
  (hsw:swapsWith (.ListComp elt [⟨tg,iter,ifs,0⟩] scope pos) (some (.Name x pos')) spos.line X.env=pure true:=by rfl) (hf:X.fn x=true\/X.env.scope.names.lookup x=some .local:=by first|exact .inl rfl|exact .inr rfl|assumption)
  (hs:∀x,foldedSetIterable iter X.env x=pure x:=by intro _;rfl):AS X (.Assign [.Name x pos'] (.ListComp elt [⟨tg,iter,ifs,0⟩] scope pos) spos) (lA (kM cap src g t c) (kO i)):=
 PS.imp (HR hN hi' hx hc Sc hi (g:=SO X.K g) (tc:=Sv X.K t) (te:=U7 X.K c) (λC s₀ H₀ ex=>(hg C s₀ H₀ ex).g0 rfl) (λC s₀ H₀ ex=>ht C s₀ H₀ ex) (λC s₀ H₀ ex=>(he C s₀ H₀ ex).e0 rfl) hsw hf hs) λD σ H ⟨ρ,S,τ,R,r,h⟩=>
  Cm σ H _ ⟨ρ,S,τ,R,r,jJ (of_post h) .refl λa S1 h1 ρ1 H1 x e1 R1 v1=>h1 ρ1 H1 _ e1 R1 ((r.ext e1).set v1)⟩
end
abbrev A.lst? (S:jL):A->Option (ad)
 | .ref n=>jH S n
 | _=>none
abbrev L3 (f:A->ad->jL->R A)(co:Ex)(d:qJ):Ex:=λτ S=>(co τ S).bind λo S1=>opt (o.lst? S1) λ_=>(d τ S1).bind λas S2=>f o as S2
abbrev Sk (f:A->ad->jL->R A)(co:Ex):Ex:=λτ S=>(co τ S).bind λo S1=>opt (o.lst? S1) λ_=>f o [] S1
abbrev rM (X:Cx)(f:A->ad->jL->R A):V->List V->Hp->VK->Prop:=λx vs H Q=>∃ρ S o as,Rel X.K ρ H S/\AV X.K ρ H o x/\AVs X.K ρ H as vs/\(f o as S).post (wW X ρ H Q) (XE X ρ H)
section
variable {X:Cx}{apos cpos:Pos}{o e:aE}{es:List aE}{name:Str}{id:String}{f:A->ad->jL->R A}{co:Ex}{d:qJ}
def lst?_ty{K:au}{H:Hp}{x:A}{v:V}(R:Rel K ρ H S)(h:AV K ρ H x v)(e:x.lst? S=some xs):Vc K "list" v H:=by
 cases h with
 | ref h=>
  obtain⟨vs,h1,_⟩:=R.lst h (jU e);exact .inl ⟨rfl,vs,nH.of h1⟩
 | _=>cases e
def zF(slot:Slot "list" name id)(hty:typeOf (.builtin id)=pure (.type "method_descriptor"))(hm:Jf X id (rM X f))(ho:AE X o co)(ha:AL X (e::es) d)
  (hbase:attributeBase o name X.env (eval o X.env)=eval o X.env:=by rfl)
  (hfew:((backTo cpos (starEach (e::es) X.env)).all (λx=>!x.1) && (backToKw cpos (keywordEach [] X.env)).all (λx=>x.1.isSome)
   && decide ((e::es).length+([]:List Keyword).length+(if ([]:List Keyword).isEmpty then 0 else 1)<30))=true:=by rfl)
  (hline:(apos.endLine == cpos.line)=true:=by rfl) (hs:starEach (e::es) X.env=(false,eval e X.env)::starEach es X.env:=by rfl) (hplain:(backTo cpos (starEach es X.env)).any (·.1)=false:=by rfl) :
  AE X (.Call (.Attribute o name apos) (e::es) [] cpos) (L3 f co d):=PE.imp (Ud gF slot hty hm ho ha hbase hfew hline hs hplain) λσ H Q h9=>by
 room;refine⟨ρ,S,τ,R,r,jJ (jO h) .refl λx S1 h1 ρ1 H1 v e1 R1 v1=>?_⟩;obtain⟨xs,hx,h1⟩:=jM h1;refine⟨lst?_ty R1 v1 hx,ρ1,S1,τ,R1,r.ext e1,jJ (jO h1) e1 λas S2 h2 ρ2 H2 vs e2 R2 v2=>?_⟩;exact⟨ρ2,S2,x,as,R2,v1.ext e2,v2,jJ h2 (e1.trans e2) λ_ _ z=>z.ext (e1.trans e2)⟩
def QE(slot:Slot "list" name id)(hty:typeOf (.builtin id)=pure (.type "method_descriptor"))(hm:Jf X id (rM X f))(ho:AE X o co)
  (hbase:attributeBase o name X.env (eval o X.env)=eval o X.env:=by rfl) (hline:(apos.endLine == cpos.line)=true:=by rfl):AE X (.Call (.Attribute o name apos) [] [] cpos) (Sk f co):=PE.imp (Qj gF slot hty hm ho hbase hline) λσ H Q h9=>by
 room;refine⟨ρ,S,τ,R,r,jJ (jO h) .refl λx S1 h1 ρ1 H1 v e1 R1 v1=>?_⟩;obtain⟨xs,hx,h1⟩:=jM h1;exact⟨lst?_ty R1 v1 hx,ρ1,S1,x,[],R1,v1,.nil,jJ h1 e1 λ_ _ z=>z.ext e1⟩
abbrev sJ (o:A)(as:ad)(S:jL):R A:=match o,as with
 | .ref n,[x]=>opt (jH S n) λxs=>gd (xs.length<sizeLine) (.ok .non (S.set n (.lst (xs++[x]))))
 | _,_=>.no
def uy:Jf X "list.append" (rM X sJ):=λpins s σ H x vs v us Q I rx rv h9=>by
 obtain⟨ρ,S,o,as,R,vo,va,h⟩:=h9
 cases vo with
 | @ref p n hp=>
  match as,va,h with
  | [],_,h=>exact h.elim
  | _::_::_,_,h=>exact h.elim
  | [y],va,h=>
   obtain⟨w,rfl,hw⟩:=DF va;kt_k;obtain⟨hl,h⟩:=j9 h;obtain⟨ws,h1,r⟩:=R.lst hp (jU hn);obtain⟨ex,R'⟩:=R.put hp (jU hn) (r.append (.one hw));exact vN pins s σ H _ _ v us Q I rx rv ⟨p,ws,w,rfl,rfl,h1,by rw[<- r.length];exact hl,h _ _ _ ex R' .non⟩
 | _=>exact h.elim
abbrev Qv (o:A)(as:ad)(S:jL):R A:=match o,as with
 | .ref n,[]=>opt (jH S n) λxs=>opt (xs[xs.length-1]?) λx=>.ok x (S.set n (.lst xs.dropLast))
 | _,_=>.no
def AVs.dropLast{K:au}{H:Hp}{xs:ad}{vs:List V}(r:AVs K ρ H xs vs):AVs K ρ H xs.dropLast vs.dropLast:=by
 rw[List.dropLast_eq_take,List.dropLast_eq_take,r.length];exact r.take _
def Uu:Jf X "list.pop" (rM X Qv):=λpins s σ H x vs v us Q I rx rv h9=>by
 obtain⟨ρ,S,o,as,R,vo,va,h⟩:=h9
 cases vo with
 | @ref p n hp=>
  match as,va,h with
  | _::_,_,h=>exact h.elim
  | [],va,h=>
   cases va
   kt_k;obtain⟨y,hy,h⟩:=jM h;obtain⟨ws,h1,r⟩:=R.lst hp (jU hn);obtain⟨w,hw,vw⟩:=r.get hy;obtain⟨ex,R'⟩:=R.put hp (jU hn) r.dropLast;exact PR pins s σ H _ _ v us Q I rx rv ⟨p,ws,w,rfl,rfl,h1,by rw[<- r.length];exact hw,h _ _ _ ex R' (vw.ext ex)⟩
 | _=>exact h.elim
abbrev DC (o:A)(as:ad)(S:jL):R A:=match o,as with
 | .ref n,[.int i]=>opt (jH S n) λxs=>gd (-(2 ^ 63)<=i/\i<2 ^ 63) (opt (seqIndex? i xs.length) λk=>opt (xs[k]?) λx=>.ok x (S.set n (.lst (xs.eraseIdx k))))
 | _,_=>.no
def MI:Jf X "list.pop" (rM X DC):=λpins s σ H x vs v us Q I rx rv h9=>by
 obtain⟨ρ,S,o,as,R,vo,va,h⟩:=h9
 cases vo with
 | @ref p n hp=>
  match as,va,h with
  | [],_,h=>exact h.elim
  | y::_::_,_,h=>exact(by cases y<;>exact h.elim)
  | [y],va,h=>
   obtain⟨w,rfl,hw⟩:=DF va
   cases hw with
   | int i=>
    kt_k;obtain⟨hi,h⟩:=j9 h;obtain⟨k,hk,h⟩:=jM h;obtain⟨y,hy,h⟩:=jM h;obtain⟨ws,h1,r⟩:=R.lst hp (jU hn);obtain⟨w,hw,vw⟩:=r.get hy;obtain⟨ex,R'⟩:=R.put hp (jU hn) (r.eraseIdx k);exact Iq pins s σ H _ _ v us Q I rx rv ⟨p,ws,i,k,w,rfl,rfl,h1,hi.1,hi.2,by rw[<- r.length];exact hk,hw,h _ _ _ ex R' (vw.ext ex)⟩
   | _=>exact h.elim
 | _=>exact h.elim
end
abbrev mJ (N:am)(m:Sm)(as:ad)(S:jL):R A:=match m (as++List.replicate (N.length-as.length) .unb) S with
 | .rt a S'=>.ok a S'
 | .nx _ S'=>.ok .non S'
 | .ex c S'=>.ex c S'
 | _=>.no
abbrev rq (K:au)(n:Nat)(F:ad->jL->R A):Sp:=λvs H Q _=>vs.length=n/\∃ρ S as a S',Rel K ρ H S/\AVs K ρ H as vs/\F as S=.ok a S'/\∀ρ' H' v,Ext ρ ρ' H H'->Rel K ρ' H' S'->AV K ρ' H' a v->Q v H'
def Ny{K:au}{H:Hp}{as:ad}(r:AVs K ρ H as vs)(N:am):SR K ρ H (as++List.replicate (N.length-as.length) .unb) (L2.start N vs):=by
 have hl:=r.length;refine⟨by unfold L2.start;simp[hl],λi a h=>?_⟩;by_cases hi:i<as.length
 ·rw[bC hi]at h;obtain⟨v,hv,av⟩:=r.get h;exact .inr ⟨v,by unfold L2.start;rw[bC (by simp;lia),aR,hv];rfl,av⟩
 ·rw[eF (),gC]at h;split at h
  ·exact .inl (aW h).symm
  ·cases h
section
variable {P:aj}{w:ah}{K:au}{mg:Str->ba}{base:aq}
def vj{x:Str}{st:aF}{f:ak}{fd:FuncData}{N ps:am}{k:Nat}{m:Sm}(F:Fun K x qual st f fd)(Sc:FnScope N ps (jV st))
  (body:∀(cdv:af) (A:aA) (outer:List Env) (s:aC) (H:Hp) (E:XK),Room k (A.deeper (envOfC qual (jV st) s.heap.objs.size f cdv))->NO (Dz qy P w K mg base N qual (jV st) f cdv A outer s H E).UY (pB st) m) :
  FnOk P w K mg base qy (k+1) f fd ps (rq K ps.length (mJ N m)):=by
 refine F.ok Sc (λvs H Q E h=>h.1) λcdv B outer s H vs Q E hr ⟨hl,ρ,S,as,a,S',R,va,hF,q⟩=>⟨_,body cdv B outer s H E hr,ρ,S,_,R,Ny va N,?_⟩;unfold mJ at hF
 cases hm:m (as++List.replicate (N.length-as.length) .unb) S with
 | rt b S2=>rw[hm]at hF;cases hF;exact q
 | nx τ S2=>rw[hm]at hF;cases hF;exact λρ' H' σ' e R' _=>q ρ' H' _ e R' .non
 | bk τ S2=>rw[hm]at hF;cases hF
 | ct τ S2=>rw[hm]at hF;cases hF
 | ex c S2=>rw[hm]at hF;cases hF
 | no=>rw[hm]at hF;cases hF
end
meta abbrev qP (P:aj)(w:ah)(K:au)(mg:Str->ba)(base:aq)(k:Nat)(x:Str)(ps:am)(F:ad->jL->R A):Prop:=Kn P w K mg base k x ps (rq K ps.length F)
abbrev eFn (F:ad->jL->R A)(d:qJ):Ex:=λτ S=>(d τ S).bind λas S1=>match F as S1 with
 | .ok a S2=>.ok a S2
 | _=>.no
section
variable {X:Cx}{pos p:Pos}{e:aE}{es:List aE}{x:Str}{ps:am}{k:Nat}{F:ad->jL->R A}{d:qJ}
def F0(G:qP X.prog X.w X.K X.mg X.base k x ps F)(hr:Room k X.A)(ha:AL X (e::es) d)(hl:∀τ S as S',d τ S=.ok as S'->as.length=ps.length)(hg:Gl X x:=by rfl)(hdb:(x == ("__debug__" : Str))=false:=by decide)
  (hs:starEach (e::es) X.env=(false,eval e X.env)::starEach es X.env:=by rfl) (hplain:(backTo pos (starEach es X.env)).any (·.1)=false:=by rfl):AE X (.Call (.Name x p) (e::es) [] pos) (eFn F d):=
 PE.imp (TM G hr ha hg hdb hs hplain) λσ H Q h9=>by
  room;refine⟨ρ,S,τ,R,r,?_⟩;have hb:=jO h
  cases hd:d τ S with
  | no=>rw[hd]at hb;exact hb
  | ex c S1=>rw[hd]at hb;exact hb
  | ok as S1=>
   rw[hd]at hb;intro ρ1 H1 vs e1 R1 v1;rw[cX];refine⟨by rw[<- v1.length];exact hl τ S as S1 hd,ρ1,S1,as,?_⟩;have hb:Am.R.post (match F as S1 with
    | .ok a S2=>.ok a S2
    | _=>.no) (wW X ρ H Q) (XE X ρ H):=hb
   cases hF:F as S1 with
   | ok a S2=>rw[hF]at hb;exact⟨a,S2,R1,v1,rfl,λρ2 H2 v e2=>hb ρ2 H2 v (e1.trans e2)⟩
   | ex c S2=>rw[hF]at hb;exact hb.elim
   | no=>rw[hF]at hb;exact hb.elim
def wU:∀τ S as S',jQ τ S=.ok as S'->as.length=0:=λτ S as S' h=>by cases h;rfl
def l6{c:Ex}{d:qJ}{n:Nat}(h:∀τ S as S',d τ S=.ok as S'->as.length=n):∀τ S as S',jG c d τ S=.ok as S'->as.length=n+1:=λτ S as S' e=>by
 unfold jG at e
 cases hc:c τ S with
 | ok a S1=>
  rw[hc]at e
  cases hd:d τ S1 with
  | ok bs S2=>
   have e:R.bind (d τ S1) (λas S2=>.ok (a::as) S2)=.ok as S':=e;rw[hd]at e;cases e;rw[bF,h τ S1 bs _ hd]
  | ex _ _=>
   have e:R.bind (d τ S1) (λas S2=>.ok (a::as) S2)=.ok as S':=e;rw[hd]at e;cases e
  | no=>
   have e:R.bind (d τ S1) (λas S2=>.ok (a::as) S2)=.ok as S':=e;rw[hd]at e;cases e
 | ex _ _=>rw[hc]at e;cases e
 | no=>rw[hc]at e;cases e
end
section
variable {X:Cx}{pos:Pos}{a b c d:aE}
abbrev WM (f':A->A->jL->R A)(cc:Ex)(τ:ad)(b k:A)(S:jL):R A:=match k with
 | .bl true=>(cc τ S).bind λc S4=>f' b c S4
 | .bl false=>.ok (.bl false) S
 | _=>.no
abbrev Nv (f f':A->A->jL->R A)(ca cb cc:Ex):Ex:=λτ S=>(ca τ S).bind λa S1=>(cb τ S1).bind λb S2=>(f a b S2).bind λk S3=>WM f' cc τ b k S3
def RP{f f':A->A->jL->R A}{ca cb cc:Ex}{H:Hp}{Q:VK}(h:tE X (Nv f f' ca cb cc) σ H Q):HU (r2 X f) (r2 X f') (tE X ca) (tE X cb) (tE X cc) σ H Q:=by
 kln_w;refine⟨ρ,S,τ,R,r,jJ (jO h) .refl λa S1 h1 ρ1 H1 x e1 R1 v1=>⟨ρ1,S1,τ,R1,r.ext e1,jJ (jO h1) e1 λb S2 h2 ρ2 H2 y e2 R2 v2=>?_⟩⟩;have e12:=e1.trans e2;refine⟨ρ2,S2,a,b,R2,v1.ext e2,v2,jJ (jO h2) e12 λk S3 h3 ρ3 H3 z e3 R3 v3=>?_⟩;have e13:=e12.trans e3
 cases k with
 | bl k=>
  cases BA v3
  refine⟨k,rfl,?_⟩
  cases k with
  | true=>
   rw[aN rfl];exact⟨ρ3,S3,τ,R3,r.ext e13,jJ (jO h3) e13 λc S4 h4 ρ4 H4 w e4 R4 v4=>⟨ρ4,S4,b,c,R4,v2.ext (e3.trans e4),v4,jJ h4 (e13.trans e4) λ_ _ q=>q.ext (e13.trans e4)⟩⟩
  | false=>
   rw[aM aY];exact h3 ρ3 H3 _ e13 R3 (.bl false)
 | _=>exact h3.elim
def TF{f f':A->A->jL->R A}{ca cb cc:Ex}(ho:n8 X (compareOp op) (r2 X f))(ho':n8 X (compareOp op') (r2 X f'))(ha:AE X a ca)(hb:AE X b cb)(hc:AE X c cc)(hm:lastMarks [op,op'] [b,c]=false:=by with_unfolding_all rfl) :
  AE X (.Compare a [op,op'] [b,c] pos) (Nv f f' ca cb cc):=PE.imp (KN ho ho' ha hb hc hm) λ_ _ _ h=>RP h
abbrev A.flat:A->Bool
 | .non=>true
 | .bl _=>true
 | .int _=>true
 | .str _=>true
 | _=>false
abbrev Uk:A->A->Bool
 | .non,.non=>true
 | .bl a,.bl b=>a == b
 | .bl a,.int b=>(if a then 1 else 0) == b
 | .int a,.bl b=>a == (if b then 1 else 0)
 | .int a,.int b=>a == b
 | .str a,.str b=>a == b
 | _,_=>false
def Fd{K:au}{H:Hp}{x:A}{v:V}(h:AV K ρ H x v)(f:x.flat=true):qL v=true:=by cases h<;>first|rfl|cases f
def CV{K:au}{H:Hp}{x y:A}{v:V}(h:AV K ρ H x v)(h':AV K ρ H y u)(f:x.flat=true)(f':y.flat=true):C5 v u=Uk x y:=by
 cases h<;>cases h'<;>first|rfl|(cases f;done)|(cases f';done)
theorem HL{K:au}{H:Hp}{x:A}{v:V}(h:AV K ρ H x v)(f:x.flat=true):∀{ys:ad}{us:List V},AVs K ρ H ys us->ys.all A.flat=true->WO v us=(ys.any λz=>Uk z x)/\us.all qL=true
 | _,_,.nil,_=>⟨rfl,rfl⟩
 | y::ys,u::us,.cons hy t,fs=>by
  rw[jf,dP]at fs;obtain⟨h1,h2⟩:=HL h f t fs.2;refine⟨?_,by rw[jf,Fd hy fs.1,h2];rfl⟩;show(C5 u v || WO v us)=_;rw[h1,CV hy h fs.1 f];rfl
abbrev Rq (o:A)(as:ad)(S:jL):R A:=match as with
 | [x]=>opt (o.seq S) λys=>gd (x.flat=true/\ys.all A.flat=true) (opt (ys.findIdx? λz=>Uk z x) λk=>.ok (.int (k:Nat)) S)
 | _=>.no
abbrev NK (co:Ex)(d:qJ):Ex:=λτ S=>(co τ S).bind λo S1=>opt (o.seq S1) λ_=>(d τ S1).bind λas S2=>Rq o as S2
abbrev A.isTup:A->Bool
 | .tup _=>true
 | _=>false
def B7{K:au}{H:Hp}{x:A}{v:V}(R:Rel K ρ H S)(h:AV K ρ H x v)(e:x.seq S=some xs):∃p vs,v=.ref p/\(if x.isTup=true then ni K H p vs else nH K H p vs)/\AVs K ρ H xs vs:=by
 cases h with
 | tup h r=>cases aW e;exact⟨_,_,rfl,(ni.of h),r⟩
 | frz h r=>cases aW e;exact⟨_,_,rfl,h.K1,r⟩
 | ref h=>
  obtain⟨vs,h1,r1⟩:=R.lst h (jU e);exact⟨_,vs,rfl,nH.of h1,r1⟩
 | _=>cases e
def QB{K:au}{H:Hp}{x:A}{v:V}{ys:ad}{us:List V}{k:Nat}(h:AV K ρ H x v)(f:x.flat=true)(r:AVs K ρ H ys us)(fs:ys.all A.flat=true)(e:(ys.findIdx? λz=>Uk z x)=some k) :
  us.all qL=true/\∃z,us[k]?=some z/\C5 z v=true/\∀(m:Nat) (z':V),m<k->us[m]?=some z'->C5 z' v=false:=by
 rw[gG]at e;obtain⟨hk,h1,h2⟩:=e;have fl:∀m (hm:m<ys.length),ys[m].flat=true:=λm hm=>ir.mp fs _ (c_ hm);refine⟨(HL h f r fs).2,?_⟩;obtain⟨z,hz,vz⟩:=r.get (aH hk);refine⟨z,hz,by rw[CV vz h (fl k hk) f];exact h1,λm z' hm hz'=>?_⟩;have hm':m<ys.length:=()
 obtain⟨z2,hz2,vz2⟩:=r.get (aH hm');rw[hz']at hz2;cases hz2;rw[CV vz2 h (fl m hm') f];have:=h2 m hm;simpa using this
def PM{e:aE}{apos cpos:Pos}{co:Ex}{d:qJ}(ho:AE X o co)(ha:AL X (e::es) d)
  (hbase:attributeBase o "index" X.env (eval o X.env)=eval o X.env:=by rfl)
  (hfew:((backTo cpos (starEach (e::es) X.env)).all (λx=>!x.1) && (backToKw cpos (keywordEach [] X.env)).all (λx=>x.1.isSome)
   && decide ((e::es).length+([]:List Keyword).length+(if ([]:List Keyword).isEmpty then 0 else 1)<30))=true:=by rfl)
  (hline:(apos.endLine == cpos.line)=true:=by rfl) (hs:starEach (e::es) X.env=(false,eval e X.env)::starEach es X.env:=by rfl) (hplain:(backTo cpos (starEach es X.env)).any (·.1)=false:=by rfl) :
  AE X (.Call (.Attribute o "index" apos) (e::es) [] cpos) (NK co d):=PE.imp (Rm ho ha hbase hfew hline hs hplain) λσ H Q h9=>by
 room;refine⟨ρ,S,τ,R,r,jJ (jO h) .refl λx S1 h1 ρ1 H1 v e1 R1 v1=>?_⟩;obtain⟨xs,hx,h1⟩:=jM h1;obtain⟨p,vs,hv,hq,_⟩:=B7 R1 v1 hx;refine⟨x.isTup,p,vs,hv,hq,ρ1,S1,τ,R1,r.ext e1,jJ (jO h1) e1 λas S2 h2 ρ2 H2 ws e2 R2 v2=>?_⟩;unfold Rq at h2
 match as,v2,h2 with
 | [],_,h2=>exact h2.elim
 | _::_::_,_,h2=>exact h2.elim
 | [y],v2,h2=>
  obtain⟨w,rfl,hw⟩:=DF v2;obtain⟨ys,hy,h2⟩:=jM h2;obtain⟨⟨f1,f2⟩,h2⟩:=j9 h2;obtain⟨k,hk,h2⟩:=jM h2;obtain⟨p',us,hv',hq',rr⟩:=B7 R2 (v1.ext e2) hy;obtain⟨g1,z,g2,g3,g4⟩:=QB hw f1 rr f2 hk;exact⟨p',w,us,k,z,hv',rfl,hq',Fd hw f1,g1,g2,g3,g4,h2 _ _ _ (e1.trans e2) R2 (.int _)⟩
end
abbrev Sw (o:A)(as:ad)(S:jL):R A:=match o,as with
 | .ref n,[x]=>(match x with
  | .bl b=>opt (jH S n) λxs=>opt (A.A7 xs) λbs=>.ok (.int (bs.countP (· == b):Nat)) S
  | _=>.no)
 | _,_=>.no
theorem B4{K:au}{H:Hp}:∀{xs:ad}{bs:List Bool}{us:List V}{its:ap},A.A7 xs=some bs->AVs K ρ H xs us->Vals us its->xs=bs.map A.bl/\its=bs.map Value.bool
 | [],bs,_,_,h,.nil,.nil=>by cases aW h;exact⟨rfl,rfl⟩
 | x::xs,bs,_,_,h,.cons hx hxs,.cons r rs=>by
  cases x with
  | bl b=>
   have h:(A.A7 xs).map (b::·)=some bs:=h;obtain⟨bs',h1,rfl⟩:=bA.mp h;obtain⟨e1,e2⟩:=B4 h1 hxs rs
   cases hx
   cases r
   exact⟨by rw[e1];rfl,by rw[e2];rfl⟩
  | _=>cases h
abbrev UR (b:Bool):af->Bool
 | .bool c=>c == b
 | _=>false
theorem IX(b:Bool):∀(bs:List Bool),(bs.map Value.bool).countP (UR b)=bs.countP (· == b)
 | []=>rfl
 | c::bs=>by rw[bI,bT,bT,IX b bs];rfl
section
variable {X:Cx}
def wN(hu:X.A.units+64<cLine):Jf X "list.count" (rM X Sw):=λpins s σ H x vs v us Q I rx rv h9=>by
 obtain⟨ρ,S,o,as,R,vo,va,h⟩:=h9
 cases vo with
 | @ref p n hp=>
  match as,va,h with
  | [],_,h=>exact h.elim
  | _::_::_,_,h=>exact h.elim
  | [y],va,h=>
   cases y with
   | bl b=>
    obtain⟨w,rfl,hw⟩:=DF va;kt_k;obtain⟨bs,hbs,h⟩:=jM h;obtain⟨ws,h1,r⟩:=R.lst hp (jU hn)
    cases rx
    obtain⟨u,rfl,ru⟩:=rv.one;obtain⟨its,rv,pl,hsz⟩:=I.list (nH.of h1);obtain⟨⟨cls,dd,data,sl⟩,ho,hc,nn,hd⟩:=id pl.isList;simp only at hc hd;subst hc hd;obtain⟨ex,ei⟩:=B4 hbs r rv;subst ei;refine fQ F.slot_list_count ⟨_,ho,rfl⟩ F.entry_list_count (F.args_list_count_2 _ _) (SeqAt.list_countAt p (bs.map Value.bool).toArray nn dd sl u (UR b)) ⟨ho,λz hz=>?_,.int (bs.countP (· == b):Nat),H,I.tok _,⟨s.toks,by rw[List.toList_toArray,IX]⟩,h _ _ _ .refl R (.int _)⟩
    ·obtain⟨c,_,rfl⟩:=bH.mp (List.mem_toArray.mp hz);exact(Cs I R 12 X.A.in1 (.bl c) (.bl b) (.bl c) w (.bool c) u (c == b) (by rw[in1_units];lia) (.bl c) hw rfl ru rfl).2.1
   | _=>exact h.elim
 | _=>exact h.elim
end
abbrev j8 (S:jL)(n:Nat):Option (List (ae×A)):=match S[n]? with
 | some (.dct xs)=>some xs
 | _=>none
def lY{n:Nat}(h:j8 S n=some xs):S[n]?=some (.dct xs):=by
 unfold j8 at h;split at h
 ·rename_i e;cases h;exact e
 ·cases h
def o4{S:jL}{n:Nat}(h:S[n]?=some (.dct xs)):j8 S n=some xs:=by
 unfold j8;rw[h]
abbrev nB (kvs:List (ae×A))(k:ae):Option A:=(kvs.find? λkv=>decide (kv.1=k)).map (·.2)
abbrev putD (kvs:List (ae×A))(k:ae)(v:A):List (ae×A):=
 if (nB kvs k).isSome=true then kvs.map (λkv=>if kv.1=k then(kv.1,v)else kv)else kvs++[(k,v)]
theorem zM:∀{a b:ae},a.map (Sum.inl:Int->Key)=b.map Sum.inl->a=b
 | [],[],_=>rfl
 | [],_::_,e=>by simp at e
 | _::_,[],e=>by simp at e
 | x::xs,y::ys,e=>by
  rw[bI,bI]at e
  injection e with e1 e2
  injection e1 with e1
  rw[e1,zM e2]
def wJ(ns:ae):(ns.map (Sum.inl:Int->Key)).map kV=ns.map V.int:=by rw[bJ];rfl
section
variable {K:au}{ρ:ar}{H:Hp}
def sI{p:ae×A}{r:List (ae×A)}{k:ae}(e:p.1=k):nB (p::r) k=some p.2:=by simp[nB,d7,e]
def sj{p:ae×A}{r:List (ae×A)}{k:ae}(e:¬p.1=k):nB (p::r) k=nB r k:=by simp[nB,d7,e]
theorem DV.look:∀{kvs:List (ae×A)}{ks:List (List Key×V)}(k:ae),DV K ρ H kvs ks->(nB kvs k).isSome=(vg ks (k.map Sum.inl)).isSome/\∀x,nB kvs k=some x->∃v,vg ks (k.map Sum.inl)=some v/\AV K ρ H x v
 | [],[],k,_=>⟨rfl,λx h=>nomatch h⟩
 | p::r,q::r',k,⟨⟨e,a⟩,t⟩=>by
  by_cases c:p.1=k
  ·have c':q.1=k.map Sum.inl:=by rw[e,c]
   rw[sI c,vc c'];exact⟨rfl,λx h=>by cases h;exact⟨_,rfl,a⟩⟩
  ·have c':¬q.1=k.map Sum.inl:=λz=>c (zM (e.symm.trans z));rw[sj c,uK c'];exact DV.look k t
theorem DV.repl{x:A}{v:V}(h:AV K ρ H x v)(k:ae):∀{kvs:List (ae×A)}{ks:List (List Key×V)},DV K ρ H kvs ks->DV K ρ H (kvs.map λkv=>if kv.1=k then(kv.1,x)else kv) (ks.map λkv=>if kv.1=k.map Sum.inl then(kv.1,v)else kv)
 | [],[],_=>trivial
 | p::r,q::r',⟨⟨e,a⟩,t⟩=>by
  refine⟨?_,DV.repl h k t⟩;dsimp only;by_cases c:p.1=k
  ·rw[aN c,aN (by rw[e,c])];exact⟨e,h⟩
  ·rw[aM c,aM (λz=>c (zM (e.symm.trans z)))];exact⟨e,a⟩
theorem DV.snoc{x:A}{v:V}(h:AV K ρ H x v)(k:ae):∀{kvs:List (ae×A)}{ks:List (List Key×V)},DV K ρ H kvs ks->DV K ρ H (kvs++[(k,x)]) (ks++[(k.map Sum.inl,v)])
 | [],[],_=>⟨⟨rfl,h⟩,trivial⟩
 | p::r,q::r',⟨a,t⟩=>⟨a,DV.snoc h k t⟩
def DV.put{x:A}{v:V}(h:AV K ρ H x v)(k:ae)(d:DV K ρ H kvs ks):DV K ρ H (putD kvs k x) (putK ks (k.map Sum.inl) v):=by
 unfold putD putK;rw[xM,<- (d.look k).1];by_cases c:(nB kvs k).isSome=true
 ·rw[aN c,aN c];exact DV.repl h k d
 ·rw[aM c,aM c];exact DV.snoc h k d
def DV.length:∀{kvs:List (ae×A)}{ks:List (List Key×V)},DV K ρ H kvs ks->kvs.length=ks.length
 | [],[],_=>rfl
 | _::_,_::_,⟨_,t⟩=>dO (·+1) t.length
def Rel.dct{n:Nat}{a:ak}(R:Rel K ρ H S)(ha:ρ[n]?=some a)(hS:S[n]?=some (.dct xs)):∃vs,H a=some (.dT vs)/\DV K ρ H xs vs:=R.at n a _ ha hS
def Rel.putD{S:jL}{n:Nat}{a:ak}(R:Rel K ρ H S)(ha:ρ[n]?=some a)(hS:S[n]?=some (.dct xs))(r:DV K ρ H ys ws):Ext ρ ρ H (upd H a (.dT ws))/\Rel K ρ (upd H a (.dT ws)) (S.set n (.dct ys)):=by
 obtain⟨vs,e,_⟩:=R.at n a _ ha hS;have ex:Ext ρ ρ H (upd H a (.dT ws)):=⟨⟨eE _,λb u i h=>by
  have:b≠a:=by
   intro z;subst z;rw[e]at h;cases h;exact i
  rw[jS this];exact h⟩,λb u h n=>by
  rw[jS (λz=>n (by rw[z];exact aZ ha))];exact h,λ_ h=>.inl h⟩
 refine⟨ex,by rw[bN];exact R.len,R.nd,λm b o h1 h2=>?_⟩;by_cases hm:m=n
 ·subst hm;rw[ha]at h1;cases h1;rw[bM (aK.mp hS).1]at h2
  cases h2
  exact⟨ws,kB,r.ext ex⟩
 ·rw[bK (gr hm)]at h2;have nb:b≠a:=λz=>by
   subst z;obtain⟨l1,e1⟩:=aK.mp ha;obtain⟨l2,e2⟩:=aK.mp h1;exact hm ((c8 R.nd).mp (e2.trans e1.symm))
  have:=R.at m b o h1 h2
  cases o with
  | lst ys=>obtain⟨ws',e',q⟩:=this;exact⟨ws',by rw[jS nb];exact e',q.ext ex⟩
  | dct _|dki _=>obtain⟨ws',e',q⟩:=this;exact⟨ws',by rw[jS nb];exact e',q.ext ex⟩
  | ins _ _=>obtain⟨oo,uu,e'⟩:=this;exact⟨oo,uu,by rw[jS nb];exact e'⟩
end
section
variable {X:Cx}{pos:Pos}{a b:aE}
def Az{H:Hp}{p q:ak}{n:Nat}{ns:ae}(R:Rel X.K ρ H S)(hp:ρ[n]?=some p)(hn:j8 S n=some kvs)(hq:H q=some (.tup vs))(r:AVs X.K ρ H xs vs)(hi:A.ints xs=some ns) :
  ∃ks,H p=some (.dT ks)/\DV X.K ρ H kvs ks/\H q=some (.tup ((ns.map (Sum.inl:Int->Key)).map kV))/\zY H p (.ref q) (vg ks (ns.map Sum.inl)):=by
 obtain⟨ks,e,d⟩:=R.dct hp (lY hn);have z:=qE r hi;subst z;rw[<- wJ]at hq;exact⟨ks,e,d,hq,zY.t e hq⟩
abbrev G9 (x y:A)(S:jL):R A:=match x,y with
 | .ref n,.tup xs=>opt (j8 S n) λkvs=>opt (A.ints xs) λns=>opt (nB kvs ns) λv=>.ok v S
 | _,_=>.no
def Ut(hu:X.A.units+64<cLine):Rg X (r2 X G9):=λvalue slice pins s σ H x y v u Q I rx ry ⟨ρ,S,a,b,R,va,vb,h⟩ hs=>by
 cases va with
 | @ref p n hp=>
  cases vb with
  | @tup q xs vs hq r=>
   obtain⟨kvs,hn,h⟩:=jM h;obtain⟨ns,hi,h⟩:=jM h;obtain⟨z,hz,h⟩:=jM h;obtain⟨ks,e,d,hq',g⟩:=Az R hp hn hq r hi;obtain⟨w,hw,aw⟩:=(d.look ns).2 z hz;rw[hw]at g;exact N6 () value slice pins s σ H _ _ v u Q I rx ry ⟨p,w,rfl,g,h _ _ _ .refl R aw⟩ hs
  | _=>exact h.elim
 | _=>exact h.elim
def L4(hu:X.A.units+64<cLine){ca cb:Ex}(ha:AE X a ca)(hb:AE X b cb)(hs:Ay b:=by exact λ_ _=>rfl):AE X (.Subscript a b pos) (jP G9 ca cb):=PE.imp (OP (Ut hu) ha hb hs) λσ H Q h=>um h
abbrev Q_ (neg:Bool)(x y:A)(S:jL):R A:=match x,y with
 | .tup xs,.ref n=>opt (j8 S n) λkvs=>opt (A.ints xs) λns=>.ok (.bl (if neg then !(nB kvs ns).isSome else(nB kvs ns).isSome)) S
 | _,_=>.no
def KZ(hu:X.A.units+64<cLine):n8 X (compareOp .NotIn) (r2 X (Q_ true)):=λpins s σ H x y v u Q I rx ry h9=>by
 z_go
 cases va with
 | @tup q xs vs hq r=>
  cases vb with
  | @ref p n hp=>
   obtain⟨kvs,hn,h⟩:=jM h;obtain⟨ns,hi,h⟩:=jM h;obtain⟨ks,e,d,hq',g⟩:=Az R hp hn hq r hi;exact G3 (by omega) pins s σ H _ _ v u Q I rx ry ⟨p,_,rfl,g,by rw[<- (d.look ns).1];exact h _ _ _ .refl R (.bl _)⟩
  | _=>exact h.elim
 | _=>exact h.elim
abbrev Cj (o i v:A)(S:jL):R Unit:=match o,i with
 | .ref n,.tup xs=>opt (j8 S n) λkvs=>opt (A.ints xs) λns=>gd (kvs.length<sizeLine) (.ok Unit.unit (S.set n (.dct (putD kvs ns v))))
 | _,_=>.no
abbrev WC (X:Cx):CU:=λo i v H Q=>∃ρ S ao ai av,Rel X.K ρ H S/\AV X.K ρ H ao o/\AV X.K ρ H ai i/\AV X.K ρ H av v/\(Cj ao ai av S).post (λ_ S'=>∀ρ' H',Ext ρ ρ' H H'->Rel X.K ρ' H' S'->Q H') (XE X ρ H)
def MK(hu:X.A.units+64<cLine):GR X (WC X):=λpins s σ H o i v ov iv u Q I ro ri rv h9=>by
 obtain⟨ρ,S,ao,ai,av,R,h1,h2,h3,h⟩:=h9
 cases h1 with
 | @ref p n hp=>
  cases h2 with
  | @tup q xs vs hq r=>
   obtain⟨kvs,hn,h⟩:=jM h;obtain⟨ns,hi,h⟩:=jM h;obtain⟨hl,h⟩:=j9 h;obtain⟨ks,e,d,hq',g⟩:=Az R hp hn hq r hi;obtain⟨ex,R'⟩:=R.putD hp (lY hn) (d.put h3 ns);exact set_dict () pins s σ H _ _ v ov iv u Q I ro ri rv ⟨p,_,rfl,JY.t e hq' (by rw[<- d.length];exact hl),h _ _ ex R'⟩
  | _=>exact h.elim
 | _=>exact h.elim
abbrev GQ (co ci:Ex):Tg:=λa τ S=>(co τ S).bind λo S1=>(ci τ S1).bind λi S2=>(Cj o i a S2).bind λ_ S3=>.ok τ S3
def Ga(hu:X.A.units+64<cLine){co ci:Ex}(ho:AE X o co)(hi:AE X i ci)
  (ha:∀v,assign (.Subscript o i pos) X.env v=(do
   let ov <- holding [v] (eval o X.env)
   let iv <- holding [v,ov] (eval i X.env)
   standAt pos
   holding [v,ov,iv] (setItem ov iv v)
   release [v,ov,iv] []):=by intro _;rfl):AG X (.Subscript o i pos) (GQ co ci):=PG.imp (Ko ho hi (MK hu) ha) λv σ H Q h9=>by
 obtain⟨ρ,S,τ,a,R,r,va,h⟩:=h9;refine⟨ρ,S,τ,R,r,jJ (jO h) .refl λo S1 h1 ρ1 H1 x e1 R1 v1=>⟨ρ1,S1,τ,R1,r.ext e1,jJ (jO h1) e1 λi S2 h2 ρ2 H2 y e2 R2 v2=>?_⟩⟩;refine⟨ρ2,S2,o,i,a,R2,v1.ext e2,v2,va.ext (e1.trans e2),jJ (jO h2) (e1.trans e2) λ_ S3 h3 ρ3 H3 e3 R3=>?_⟩;exact h3 ρ3 H3 σ ((e1.trans e2).trans e3) R3 (r.ext ((e1.trans e2).trans e3))
abbrev xW (ck cv:Ex):Ex:=λτ S=>(ck τ S).bind λk S1=>(cv τ S1).bind λv S2=>match k with
 | .tup xs=>opt (A.ints xs) λns=>.ok (.ref S2.length) (S2++[.dct [(ns,v)]])
 | _=>.no
def Rel.Ui{K:au}{H:Hp}{S:jL}{D:ak}(R:Rel K ρ H S)(hD:H D=some (.dT us))(hn:D∉ρ)(r:DV K ρ H xs vs):Ext0 ρ (ρ++[D]) H (upd H D (.dT vs))/\Rel K (ρ++[D]) (upd H D (.dT vs)) (S++[.dct xs])/\(ρ++[D])[S.length]?=some D:=by
 have ex:Ext0 ρ (ρ++[D]) H (upd H D (.dT vs)):=⟨gu _ _,λb u i h=>by
  have:b≠D:=by
   intro z;subst z;rw[hD]at h;cases h;exact i
  rw[jS this];exact h⟩
 have last:(ρ++[D])[S.length]?=some D:=by rw[<- R.len];simp
 refine⟨ex,⟨by simp[R.len],?_,λn a o h1 h2=>?_⟩,last⟩
 ·rw[cQ];refine⟨R.nd,by simp,λa ha b hb e=>?_⟩;have:b=D:=by simpa using hb
  exact hn (by rw[<- this,<- e];exact ha)
 ·by_cases hs:n<S.length
  ·rw[bC (by rw[R.len];exact hs)]at h1;rw[bC hs]at h2;have na:a≠D:=λz=>hn (by rw[<- z];exact aZ h1);have:=R.at n a o h1 h2
   cases o with
   | lst ys=>obtain⟨ws,e,q⟩:=this;exact⟨ws,by rw[jS na];exact e,AVs.lU ex q⟩
   | dct _|dki _=>obtain⟨ws,e,q⟩:=this;exact⟨ws,by rw[jS na];exact e,q.lU ex⟩
   | ins _ _=>obtain⟨oo,uu,e⟩:=this;exact⟨oo,uu,by rw[jS na];exact e⟩
  ·have e:n=S.length:=by
    have:=(aK.mp h2).1;simp at this
    lia
   subst e;rw[last]at h1
   cases h1
   simp at h2;subst h2;exact⟨vs,kB,r.lU ex⟩
def Em(hu:X.A.units+64<cLine){k v:aE}{ck cv:Ex}(hk:AE X k ck)(hv:AE X v cv):AE X (.Dict [some k] [v] pos) (xW ck cv):=PE.imp (Ku () hk hv) λσ H Q ⟨ρ,S,τ,R,r,h⟩ p hp=>by
 obtain⟨e0,R0⟩:=R.im (u:=.dT []) hp;have np:p∉ρ:=R.IT hp;refine⟨ρ,S,τ,R0,r.ext e0,jJ (jO h) e0 λa S1 h1 ρ1 H1 x e1 R1 v1=>⟨ρ1,S1,τ,R1,(r.ext e0).ext e1,jJ (jO h1) (e0.trans e1) λb S2 h2 ρ2 H2 y e2 R2 v2=>?_⟩⟩;have e12:=e1.trans e2;have hp2:H2 p=some (.dT []):=e12.fr p _ kB np;have np2:p∉ρ2:=λhm=>(e12.nw p hm).elim np λz=>by rw[kB]at z;cases z
 cases v1.ext e2 with
 | @tup q xs vs hq rr=>
  obtain⟨ns,hi,h2⟩:=jM h2;have z:=qE rr hi;subst z;refine⟨hp2,q,ns.map Sum.inl,rfl,by rw[wJ];exact hq,?_⟩;obtain⟨e3,R3,hl⟩:=R2.Ui (xs:=[(ns,b)]) (vs:=[(ns.map Sum.inl,y)]) hp2 np2 ⟨⟨rfl,v2⟩,trivial⟩;refine h2 _ _ _ ⟨⟨(e0.trans e12).pre.trans e3.pre,λc u i hc=>e3.im c u i ((e0.trans e12).im c u i hc)⟩,λc u hc nc=>?_,λc hc=>?_⟩ R3 (.ref hl)
  ·rw[jS (j6 hc hp)];exact(e0.trans e12).fr c u hc nc
  ·rcases bu.mp hc with z|z
   ·exact(e0.trans e12).nw c z
   ·have:c=p:=by simpa using z
    rw[this];exact .inr hp
 | _=>exact h2.elim
end
section
variable {X:Cx}{a b:aE}
abbrev Ho (p:ae×A):A:=.tup [.tup (p.1.map .int),p.2]
abbrev VP (a:A)(S:jL):R Src:=match a with
 | .ref n=>opt (j8 S n) λkvs=>.ok (nK (kvs.map Ho)) (S.set n (.ins "" []))
 | _=>.no
abbrev GH (c:Ex):Ic:=λτ S=>(c τ S).bind λa S1=>VP a S1
theorem Mt{K:au}{H:Hp}:∀{kvs:List (ae×A)}{ks:List (List Key×V)}{i:Nat}{p:ae×A},DV K ρ H kvs ks->kvs[i]?=some p->∃q,ks[i]?=some q/\q.1=p.1.map Sum.inl/\AV K ρ H p.2 q.2
 | [],[],_,_,_,h=>by simp at h
 | a::kvs,b::ks,0,p,⟨z,_⟩,h=>by
  have:a=p:=by simpa using h
  subst this;exact⟨b,rfl,z⟩
 | a::kvs,b::ks,i+1,p,⟨_,t⟩,h=>Mt (kvs:=kvs) (ks:=ks) (i:=i) t (by simpa using h)
def Rel.gone{K:au}{H:Hp}{S:jL}{n:Nat}{a:ak}(R:Rel K ρ H S)(ha:ρ[n]?=some a)(hS:S[n]?=some (.dct xs)):Ext ρ ρ H (upd H a (.frz o u))/\Rel K ρ (upd H a (.frz o u)) (S.set n (.ins "" [])):=by
 obtain⟨vs,e,_⟩:=R.at n a _ ha hS;have ex:Ext ρ ρ H (upd H a (.frz o u)):=⟨⟨eE _,λb u' i h=>by
  have:b≠a:=by
   intro z;subst z;rw[e]at h;cases h;exact i
  rw[jS this];exact h⟩,λb u' h nb=>by
  rw[jS (λz=>nb (by rw[z];exact aZ ha))];exact h,λ_ h=>.inl h⟩
 refine⟨ex,by rw[bN];exact R.len,R.nd,λm b ob h1 h2=>?_⟩;by_cases hm:m=n
 ·subst hm;rw[ha]at h1;cases h1;rw[bM (aK.mp hS).1]at h2
  cases h2
  exact⟨o,u,kB⟩
 ·rw[bK (gr hm)]at h2;have nb:b≠a:=λz=>by
   subst z;obtain⟨l1,e1⟩:=aK.mp ha;obtain⟨l2,e2⟩:=aK.mp h1;exact hm ((c8 R.nd).mp (e2.trans e1.symm))
  have:=R.at m b ob h1 h2
  cases ob with
  | lst ys=>obtain⟨ws',e',q⟩:=this;exact⟨ws',by rw[jS nb];exact e',q.ext ex⟩
  | dct _|dki _=>obtain⟨ws',e',q⟩:=this;exact⟨ws',by rw[jS nb];exact e',q.ext ex⟩
  | ins _ _=>obtain⟨oo,uu,e'⟩:=this;exact⟨oo,uu,by rw[jS nb];exact e'⟩
def HX{apos cpos:Pos}{e:aE}{c:Ex}(ha:AE X e c)(hbase:attributeBase e "items" X.env (eval e X.env)=eval e X.env:=by rfl)(hline:(apos.endLine == cpos.line)=true:=by rfl) :
  AI X (.Tuple elts x1 tpos) (.Call (.Attribute e "items" apos) [] [] cpos) (GH c):=λpins s σ H Q I h9=>by
 room;refine LS ha hbase hline pins s σ H Q I ⟨ρ,S,τ,R,r,jJ (jO h) .refl λx S1 h1 ρ1 H1 v e1 R1 v1=>?_⟩
 cases v1 with
 | @ref p n hp=>
  obtain⟨kvs,hn,h1⟩:=jM h1;obtain⟨ks,g1,dv⟩:=R1.dct hp (lY hn);refine⟨p,ks,rfl,g1,λo ps pl pat=>?_⟩;obtain⟨ex,R2⟩:=R1.gone (o:=o) (u:=.dT ks) hp (lY hn);have dl:=dv.length;refine h1 ρ1 _ _ (e1.trans ex) R2 ⟨λi S2 H2 ρ2 y e2 R3 g=>?_,λS2 H2 ρ2 e2 R3 _=>⟨?_,e2.im _ _ trivial kB⟩⟩
  ·have g:(kvs.map Ho)[i]?=some y:=g;rw[aR]at g;obtain⟨kv,hk,rfl⟩:=bA.mp g;obtain⟨q,hq,q1,q2⟩:=Mt dv hk;have hi:i<ps.length:=by rw[pl];exact(aK.mp hq).1
   obtain⟨k',e3,e4⟩:=pat i ps[i].1 ps[i].2 (aH hi);rw[hq]at e3
   cases e3
   refine⟨⟨ps[i].1,ps[i].2,aH hi,e2.im _ _ trivial kB⟩,λw' H' qq=>?_⟩;obtain⟨T,hT,rfl,hz⟩:=qq;have hz':=hz _ _ (aH hi);subst hz';obtain⟨ex3,R4⟩:=R3.im (u:=.tup [.ref ps[i].1,ps[i].2]) hT;have ka:H2 ps[i].1=some (.tup (k'.map kV)):=e2.im _ _ trivial (ex.toExt0.im _ _ trivial e4);have kk:k'.map kV=kv.1.map V.int:=by rw[show k'=kv.1.map Sum.inl from q1,wJ]
   rw[kk]at ka;exact⟨ex3,R4,.tup kB (.cons ((AV.tup ka (nX _)).ext ex3) (.cons (((q2.lU ex.toExt0).lU e2).ext ex3) .nil))⟩
  ·show(kvs.map Ho).length=ps.length;rw[aL,dl,pl]
 | _=>exact h1.elim
end
abbrev pN (s:Src)(g:Tg)(t:Te)(e:Ex):Nat->Nat->ad->jL->R (ad×ad)
 | 0,_=>λτ S=>if s.fin S then .ok ([],τ) S else .no
 | k+1,i=>λτ S=>opt (s.get i S) λx=>(g x τ S).lK λτ1 S1=>(t τ1 S1).lK λb S2=>match b with
  | true=>(e τ1 S2).lK λy S3=>(pN s g t e k (i+1) τ1 S3).lK λp S4=>.ok (y::p.1,p.2) S4
  | false=>pN s g t e k (i+1) τ1 S2
abbrev oE (s:Src)(g:Tg)(t:Te)(src2:Ic)(g2:Tg)(t2:Te)(e:Ex):Nat->Nat->ad->jL->R (ad)
 | 0,_=>λ_ S=>if s.fin S then .ok [] S else .no
 | k+1,i=>λτ S=>opt (s.get i S) λx=>(g x τ S).lK λτ1 S1=>(t τ1 S1).lK λb S2=>match b with
  | true=>(src2 τ1 S2).lK λs2 S3=>(pN s2 g2 t2 e s2.k 0 τ1 S3).lK λp S4=>(oE s g t src2 g2 t2 e k (i+1) p.2 S4).lK λys S5=>.ok (p.1++ys) S5
  | false=>oE s g t src2 g2 t2 e k (i+1) τ1 S2
abbrev Du (cap:List (bi))(src:Ic)(g:Tg)(t:Te)(src2:Ic)(g2:Tg)(t2:Te)(e:Ex):Ex:=λτ S=>(src τ S).bind λs S1=>(oE s g t src2 g2 t2 e s.k 0 (nN cap τ) S1).lK λys S2=>newL ys S2
def Bk{s:Src}{g:Tg}{t:Te}{e:Ex}{k:Nat}{T:Prop}(h:pN s g t e (k+1) i τ S=.ok (zs,τ') S')
  (q:∀x τ1 S1 b S2,s.get i S=some x->g x τ S=.ok τ1 S1->t τ1 S1=.ok b S2->(b=true->∃y S3 ws,e τ1 S2=.ok y S3/\pN s g t e k (i+1) τ1 S3=.ok (ws,τ') S'/\zs=y::ws)->(b=false->pN s g t e k (i+1) τ1 S2=.ok (zs,τ') S')->T):T:=by
 obtain⟨x,hx,h⟩:=Dm h;obtain⟨τ1,S1,h1,h⟩:=lq h;obtain⟨b,S2,h2,h⟩:=lq h;refine q x τ1 S1 b S2 hx h1 h2 (λhb=>?_) λhb=>?_
 ·subst hb;obtain⟨y,S3,h3,h⟩:=lq h;obtain⟨⟨ws,τ2⟩,S4,h4,h⟩:=lq h
  cases h
  exact⟨y,S3,ws,h3,h4,rfl⟩
 ·subst hb;exact h
def zT{s:Src}{g:Tg}{t:Te}{src2:Ic}{g2:Tg}{t2:Te}{e:Ex}{k:Nat}{T:Prop}(h:oE s g t src2 g2 t2 e (k+1) i τ S=.ok zs S')
  (q:∀x τ1 S1 b S2,s.get i S=some x->g x τ S=.ok τ1 S1->t τ1 S1=.ok b S2->(b=true->∃s2 S3 ps τ2 S4 ws,src2 τ1 S2=.ok s2 S3/\pN s2 g2 t2 e s2.k 0 τ1 S3=.ok (ps,τ2) S4/\oE s g t src2 g2 t2 e k (i+1) τ2 S4=.ok ws S'/\zs=ps++ws)->(b=false->oE s g t src2 g2 t2 e k (i+1) τ1 S2=.ok zs S')->T):T:=by
 obtain⟨x,hx,h⟩:=Dm h;obtain⟨τ1,S1,h1,h⟩:=lq h;obtain⟨b,S2,h2,h⟩:=lq h;refine q x τ1 S1 b S2 hx h1 h2 (λhb=>?_) λhb=>?_
 ·subst hb;obtain⟨s2,S3,h3,h⟩:=lq h;obtain⟨⟨ps,τ2⟩,S4,h4,h⟩:=lq h;obtain⟨ws,S5,h5,h⟩:=lq h
  cases h
  exact⟨s2,S3,ps,τ2,S4,ws,h3,h4,h5,rfl⟩
 ·subst hb;exact h
abbrev WL (K:au)(c:Ic):TI:=λσ H Q=>∃ρ S τ s S',Rel K ρ H S/\SR K ρ H τ σ/\c τ S=.ok s S'/\∀ρ' H' J,Ext ρ ρ' H H'->Rel K ρ' H' S'->JR K s J ρ' H'->Q J H'
section
variable {X:Cx}{pos:Pos}{tg iter tg2 iter2 elt e:aE}{ifs ifs2:List aE}{scope:Scope}{N:am}{cap:List (bi)}{src src2:Ic}{g g2:Tg}{t t2:Te}{c:Ex}
def AI.i0{K:au}(hK:X.K=K)(h:AI X tg e src):PI X tg e (WL K src):=λpins s σ H Q I ⟨ρ,S,τ,a,S',R,r,hc,q⟩=>h pins s σ H Q I ⟨ρ,S,τ,by rw[hK];exact R,by rw[hK];exact r,by rw[hc];exact λρ' H' J e R' v'=>q ρ' H' J e (by rw[<- hK];exact R') (by rw[<- hK];exact v')⟩
def ID(hc:X.calm=true)(Sc:CpScope X scope N cap)(hi:AI X tg iter src)(hg:∀C s₀ H₀ ex,AG (kQ X scope N C s₀ H₀ ex) tg g)(ht:∀C s₀ H₀ ex,SS (kQ X scope N C s₀ H₀ ex) ifs t)(hi2:∀C s₀ H₀ ex,AI (kQ X scope N C s₀ H₀ ex) tg2 iter2 src2)
  (hg2:∀C s₀ H₀ ex,AG (kQ X scope N C s₀ H₀ ex) tg2 g2) (ht2:∀C s₀ H₀ ex,SS (kQ X scope N C s₀ H₀ ex) ifs2 t2) (he:∀C s₀ H₀ ex,AE (kQ X scope N C s₀ H₀ ex) elt c)
  (hs:∀x,foldedSetIterable iter X.env x=pure x:=by intro _;rfl) (hs2:∀env x,foldedSetIterable iter2 env x=pure x:=by intro _ _;rfl):AE X (.ListComp elt [⟨tg,iter,ifs,0⟩,⟨tg2,iter2,ifs2,0⟩] scope pos) (Du cap src g t src2 g2 t2 c):=by
 refine PE.imp (Qx hc Sc hi (g:=SO X.K g) (tc:=Sv X.K t) (wi2:=WL X.K src2) (g2:=SO X.K g2) (tc2:=Sv X.K t2) (te:=U7 X.K c) (λC s₀ H₀ ex=>(hg C s₀ H₀ ex).g0 rfl) (λC s₀ H₀ ex=>ht C s₀ H₀ ex) (λC s₀ H₀ ex=>(hi2 C s₀ H₀ ex).i0 rfl) (λC s₀ H₀ ex=>(hg2 C s₀ H₀ ex).g0 rfl) (λC s₀ H₀ ex=>ht2 C s₀ H₀ ex) (λC s₀ H₀ ex=>(he C s₀ H₀ ex).e0 rfl) hs hs2) λσ H Q h9=>?_;room;refine⟨ρ,S,τ,R,r,jJ (jO h) .refl λs S1 h1 ρ1 H1 J e1 R1 jr D hD=>?_⟩;obtain⟨ys,S2,hcg,h1⟩:=yG h1;obtain⟨hlen,h1⟩:=j9 h1;have h1:wW X ρ H Q (.ref S2.length) (S2++[.lst ys]):=h1;obtain⟨eD,RD⟩:=R1.im (u:=.lst []) hD;refine⟨Cq X.K ρ1 H1 D ys s.k (λ_ _=>True) λm i τ S zs=>oE s g t src2 g2 t2 c m i τ S=.ok zs S2,⟨s.k,.of rfl ⟨eD.toExt0,λa u na hu _=>by rw[jS na];exact hu,λa ha=>.inl ha,R1.IT hD,kB⟩ trivial RD (Ph ((r.ext e1).ext eD) cap) .nil hcg rfl⟩,?_⟩;intro i m σ3 H3 hw;refine hw.el λρ3 S3 τ3 acc zs accV hm o3 _ R3 r3 ac3 cg3 eys=>?_;clear hw
 cases m with
 | zero=>
  left;have cg3:(if s.fin S3 then Am.R.ok [] S3 else .no)=.ok zs S2:=cg3
  cases hf:s.fin S3 with
  | false=>rw[hf]at cg3;cases cg3
  | true=>
   rw[hf]at cg3
   cases cg3
   rw[cX]at eys;subst eys;refine⟨by rw[show i=s.k by lia];exact jr.stop _ H3 ρ3 o3.e0 R3 hf,?_⟩;obtain⟨RT,gt⟩:=R3.take o3.hD o3.nD ac3;exact h1 (ρ3++[D]) H3 _ (e1.trans (o3.end hD)) RT (.ref gt)
 | succ m=>
  right;refine zT cg3 λx τ4 S4 b S5 hx hg4 ht5 hT hF=>?_;have jg:=jr.go i S3 H3 ρ3 x o3.e0 R3 hx;refine⟨jg.1,λv H4 y=>?_⟩;obtain⟨e4,R4,v4⟩:=jg.2 v H4 y;refine⟨ρ3,S3,τ3,x,τ4,S4,R4,r3.ext e4,v4,hg4,λρ5 H5 σ5 e5 R5 r5=>⟨ρ5,S4,τ4,b,S5,R5,r5,ht5,λρ6 H6 e6 R6=>?_⟩⟩;have e36:=(e4.trans e5).trans e6
  cases b with
  | false=>
   dsimp only;rw[aM aY];exact⟨m,c9 _,.of () (o3.stay hD e36) trivial R6 (r5.ext e6) (ac3.ext e36) (hF rfl) eys⟩
  | true=>
   dsimp only;rw[aN rfl];obtain⟨s2,S6,ps,τ7,S7,ws,hs6,ci7,co7,ezs⟩:=hT rfl;refine⟨ρ6,S5,τ4,s2,S6,R6,r5.ext e6,hs6,λρ8 H8 J2 e8 R8 jr2=>?_⟩;have e38:=e36.trans e8;refine⟨Cq X.K ρ1 H1 D (acc++ps) s2.k (λρ' H'=>Ext0 ρ8 ρ' H8 H') λm i τ S qs=>pN s2 g2 t2 c m i τ S=.ok (qs,τ7) S7,⟨s2.k,.of rfl (o3.stay hD e38) ⟨eE _,λ_ _ _ h=>h⟩ R8 (r5.ext (e6.trans e8)) (ac3.ext e38) ci7 rfl⟩,?_⟩;intro i2 m2 σ9 H9 hw;refine hw.el λρ9 S9 τ9 acc9 qs accV9 hm2 o9 e89 R9 r9 ac9 ci9 eqs=>?_;clear hw
   cases m2 with
   | zero=>
    left;have ci9:(if s2.fin S9 then Am.R.ok ([],τ9) S9 else .no)=.ok (qs,τ7) S7:=ci9
    cases hf:s2.fin S9 with
    | false=>rw[hf]at ci9;cases ci9
    | true=>
     rw[hf]at ci9
     cases ci9
     rw[cX]at eqs;subst eqs;exact⟨by rw[show i2=s2.k by lia];exact jr2.stop _ H9 ρ9 e89 R9 hf,m,c9 _,.of () o9 trivial R9 r9 ac9 co7 (by rw[bO,<- ezs,eys])⟩
   | succ m2=>
    right;refine Bk ci9 λx9 τ10 S10 b10 S11 hx9 hg10 ht11 hT9 hF9=>?_;have jg2:=jr2.go i2 S9 H9 ρ9 x9 e89 R9 hx9;refine⟨jg2.1,λv10 H10 y10=>?_⟩;obtain⟨e10,R10,v10'⟩:=jg2.2 v10 H10 y10;refine⟨ρ9,S9,τ9,x9,τ10,S10,R10,r9.ext e10,v10',hg10,λρ11 H11 σ11 e11 R11 r11=>⟨ρ11,S10,τ10,b10,S11,R11,r11,ht11,λρ12 H12 e12 R12=>?_⟩⟩;have e912:=(e10.trans e11).trans e12;have o12:=o9.stay hD e912;have e812:Ext0 ρ8 ρ12 H8 H12:=⟨e89.pre.trans e912.pre,λa u i h=>e912.im a u i (e89.im a u i h)⟩
    cases b10 with
    | false=>
     dsimp only;rw[aM aY];exact⟨m2,c9 _,.of () o12 e812 R12 (r11.ext e12) (ac9.ext e912) (hF9 rfl) eqs⟩
    | true=>
     dsimp only;rw[aN rfl];obtain⟨y,S13,us,he13,ci13,eus⟩:=hT9 rfl;refine⟨ρ12,S11,τ10,y,S13,R12,r11.ext e12,he13,λρ14 H14 w e14 R14 v14=>?_⟩;have o14:=o12.stay hD e14;obtain⟨ex15,R15⟩:=R14.out (ws:=accV9++[w]) o14.hD o14.nD;have l1:=ac9.length;refine⟨accV9,o14.hD,?_,m2,c9 _,.of () (o14.put ex15) ⟨e812.pre.trans e14.pre,λa u i h=>ex15.im a u i (e14.im a u i (e812.im a u i h))⟩ R15 ((r11.ext (e12.trans e14)).lU ex15) (AVs.lU ex15 ((ac9.ext (e912.trans e14)).append (.one v14))) ci13 ?_⟩
     ·have:((acc++ps)++ws).length<=sizeLine:=by rw[bO,<- ezs,eys];exact hlen
      rw[<- eqs,eus,aU,aU,bF]at this
      lia
     ·rw[bO,<- eqs,eus];rfl
end
abbrev Wo (F:ad->jL->R A)(d:qJ):Ex:=λτ S=>(d τ S).bind λas S1=>F as S1
abbrev WN:ap:=[.type "ValueError",.type "Exception",.type "BaseException",.type "object"]
abbrev Oi:List (Str ⊕ Ex)->ad->jL->R Unit
 | [],_,S=>.ok Unit.unit S
 | .inl _::ps,τ,S=>Oi ps τ S
 | .inr e::ps,τ,S=>(e τ S).bind λv S1=>match v with
  | .int i=>gd (i.natAbs.log2<64) (Oi ps τ S1)
  | _=>.no
abbrev Q0 (c:Str)(ps:List (Str ⊕ Ex)):Sm:=λτ S=>.of (Oi ps τ S) λ_ S1=>.ex c S1
abbrev OF (i:Nat):RS->RS
 | .nx τ S=>.nx (τ.set i .unb) S
 | .bk τ S=>.bk (τ.set i .unb) S
 | .ct τ S=>.ct (τ.set i .unb) S
 | .rt a S=>.rt a S
 | _=>.no
abbrev Uq (i n:Nat)(cs:am)(c d:Sm):Sm:=λτ S=>match c τ S with
 | .ex x S1=>if x∈cs then OF i (d ((List.replicate n .unb).set i (.exn x)) S1)else .no
 | r=>r
abbrev VS (f:Str->bd)(c:Ex):Ex:=λτ S=>(c τ S).bind λv S1=>match v with
 | .exn x=>opt (f x) λb=>.ok (.bl b) S1
 | _=>.no
structure ExcK (K:au)(U:ak)(c:Str)(C:ak):Prop where
 n:VB K c C
 q:PySem.W.excIn K C WN "ValueError.__new__" = true
 r:L2.mroIn K C=some (.ref U::WN)
 x:XCls K C
 cl:(PySem.W.clsIn K C).isSome=true
 v:PySem.W.kitOne K (.ref C) (.type "ValueError")=some true
abbrev Xg (tb:List (Str×Bool)):Str->bd:=λx=>tb.lookup x
abbrev Uj (F:ad->jL->R A)(d:qJ):Ex:=λτ S=>match d τ S with
 | .ok as S1=>F as S1
 | _=>.no
section
variable {d:qJ}
abbrev TL (t:Te)(c d:Sm):Sm:=λτ S=>match t τ S with
 | .ok true S1=>c τ S1
 | .ok false S1=>d τ S1
 | _=>.no
end
abbrev O_ (i:Nat)(cs:am)(c d:Sm):Sm:=λτ S=>match c τ S with
 | .ex x S1=>if x∈cs then OF i (d (τ.set i (.exn x)) S1)else .no
 | r=>r
abbrev Vd:Sm:=λ_ _=>.no
def Jh{X:Cx}{st:aF}:AS X st Vd:=PS.imp JI λD σ H ⟨ρ,S,τ,R,r,h⟩=>h.elim
def Hl{K:au}{H:Hp}{a:ak}{ns:ae}{F:ad->jL->R A}(hO:Od H)(hS:nH K H a (ns.map V.int))(h:∃S',F [.frz (ns.map .int)] []=.ok (.bl true) S'):rq K 1 F [.ref a] H (λv _=>v=.bl true) λ_ _ _=>False:=by
 obtain⟨S',h⟩:=h;have fz:Fz K H a (ns.map V.int):=by
  rcases hS with(h|⟨o,h⟩)|h
  ·rcases hO a with z|⟨ob,xs,z⟩
   ·rw[h]at z;cases z
   ·rw[h]at z;cases z
  ·exact .inl ⟨o,h⟩
  ·exact .inr h
 exact⟨rfl,[],[],_,_,S',⟨rfl,List.nodup_nil,λn a o h=>by simp at h⟩,.cons (.frz fz (nX ns)) .nil,h,λρ' H' v _ _ hv=>BA hv⟩
def Hi{P:ap->Prop}(h:∀a0,P [a0]):∀us:ap,us.length=1->P us
 | [_],_=>h _
def L6{P:ap->Prop}(h:∀a0 a1,P [a0,a1]):∀us:ap,us.length=2->P us
 | [_,_],_=>h _ _
def BO{n:Nat}{us:ap}(h:us.length=n+1):∃a t,us=a::t/\t.length=n:=by
 cases us with
 | nil=>simp at h
 | cons a t=>exact⟨a,t,rfl,by simpa using h⟩
def Xa{P:ap->Prop}(h:∀a0 a1 a2,P [a0,a1,a2]):∀us:ap,us.length=3->P us:=λus e=>by
 obtain⟨a0,t0,rfl,e0⟩:=BO e;obtain⟨a1,t1,rfl,e1⟩:=BO e0;obtain⟨a2,t2,rfl,e2⟩:=BO e1
 cases dw.mp e2
 exact h _ _ _
def Xe{P:ap->Prop}(h:∀a0 a1 a2 a3 a4,P [a0,a1,a2,a3,a4]):∀us:ap,us.length=5->P us:=λus e=>by
 obtain⟨a0,t0,rfl,e0⟩:=BO e;obtain⟨a1,t1,rfl,e1⟩:=BO e0;obtain⟨a2,t2,rfl,e2⟩:=BO e1;obtain⟨a3,t3,rfl,e3⟩:=BO e2;obtain⟨a4,t4,rfl,e4⟩:=BO e3
 cases dw.mp e4
 exact h _ _ _ _ _
end Am
namespace Am
open PySem L2
section
variable {α β:Type}{a b:A}{S S1:jL}{τ:ad}{x:α}
@[simp]def R.lJ {f:α->jL->R β}:(R.ok x S).bind f=f x S:=rfl
@[simp]def R.Gh {f:α->jL->R β}{c:Str}:(R.ex c S:R α).bind f=.ex c S:=rfl
@[simp]def R.lg {f:α->jL->R β}:(R.ok x S).lK f=f x S:=rfl
@[simp]def RS.of_ok {f:α->jL->RS}:RS.of (R.ok x S) f=f x S:=rfl
@[simp]def RS.Pq {f:α->jL->RS}{c:Str}:RS.of (R.ex c S:R α) f=.ex c S:=rfl
@[simp]def j3 {f:β->R α}{y:β}:opt (some y) f=f y:=rfl
@[simp]def F6 {r:R α}:gd True r=r:=aN trivial
theorem lC{c:Prop}[Decidable c]{r:R α}(h:c):gd c r=r:=aN h
@[simp]def E7 {i:Nat}:jF i τ S=bif (τ.getD i .unb).nV then .no else .ok (τ.getD i .unb) S:=by unfold jF;cases(τ.getD i .unb).nV<;>rfl
@[simp]def Fj {xs:ad}:A.nV (.tup xs)=false:=rfl
@[simp]def Gn {xs:ad}:A.nV (.frz xs)=false:=rfl
@[simp]def FW {i:Int}:A.nV (.int i)=false:=rfl
@[simp]def JC {i:Bool}:A.nV (.bl i)=false:=rfl
@[simp]def Gz {i:Str}:A.nV (.str i)=false:=rfl
@[simp]def EH {i:Nat}:A.nV (.ref i)=false:=rfl
@[simp]def EA:A.nV .non=false:=rfl
@[simp]def Gs {i j:Int}:A.nV (.rng i j)=false:=rfl
@[simp]def FJ {c:Str}:A.nV (.exn c)=false:=rfl
@[simp]def OS:eC a τ S=.ok a S:=rfl
abbrev UG (f:A->A->jL->R A)(cb:Ex)(τ:ad)(a:A)(S:jL):R A:=(cb τ S).bind (f a)
@[simp]def EM {f:A->A->jL->R A}{cb:Ex}:UG f cb τ a S=(cb τ S).bind (f a):=rfl
@[simp]def EB {f:A->A->jL->R A}{ca cb:Ex}:jP f ca cb τ S=(ca τ S).bind (UG f cb τ):=rfl
@[simp]def HG {f:A->jL->R A}{ca:Ex}:OW f ca τ S=(ca τ S).bind f:=rfl
@[simp]def EE {c:Ex}:r8 c τ S=(c τ S).bind λa S1=>opt (a.Q9 S1) λb=>.ok b S1:=rfl
abbrev aB (a:A)(S:jL):R Bool:=match a with
 | .bl b=>.ok b S
 | _=>.no
@[simp]def OB {b:Bool}:aB (.bl b) S=.ok b S:=rfl
@[simp]def KJ {c:Ex}:ug c τ S=(c τ S).bind aB:=rfl
@[simp]def DS {c:Te}:C8 c τ S=(c τ S).bind λb S1=>.ok (!b) S1:=rfl
abbrev RW (d:Te)(τ:ad)(b:Bool)(S:jL):R Bool:=match b with|true=>d τ S|false=>.ok false S
abbrev VA (d:Te)(τ:ad)(b:Bool)(S:jL):R Bool:=match b with|true=>.ok true S|false=>d τ S
@[simp]def JB {d:Te}:RW d τ true S=d τ S:=rfl
@[simp]def Jj {d:Te}:RW d τ false S=.ok false S:=rfl
@[simp]def Ou {d:Te}:VA d τ true S=.ok true S:=rfl
@[simp]def OE {d:Te}:VA d τ false S=d τ S:=rfl
@[simp]def Gm {c d:Te}:WB c d τ S=(c τ S).bind (RW d τ):=rfl
@[simp]def JD {c d:Te}:SD c d τ S=(c τ S).bind (VA d τ):=rfl
@[simp]def DQ:sU τ S=.ok true S:=rfl
abbrev L_ (d:Ex)(τ:ad)(a:A)(S:jL):R A:=match a with | .bl true=>d τ S | .bl false=>.ok (.bl false) S|_=>.no
abbrev Sy (d:Ex)(τ:ad)(a:A)(S:jL):R A:=match a with | .bl true=>.ok (.bl true) S | .bl false=>d τ S|_=>.no
@[simp]def EV {d:Ex}:L_ d τ (.bl true) S=d τ S:=rfl
@[simp]def D5 {d:Ex}:L_ d τ (.bl false) S=.ok (.bl false) S:=rfl
@[simp]def LI {d:Ex}:Sy d τ (.bl true) S=.ok (.bl true) S:=rfl
@[simp]def Jr {d:Ex}:Sy d τ (.bl false) S=d τ S:=rfl
@[simp]def Ef {c d:Ex}:Ji c d τ S=(c τ S).bind (L_ d τ):=by
 unfold Ji
 cases c τ S with
 | ok a S1=>cases a<;>first|rfl|(rename_i b;cases b<;>rfl)
 | _=>rfl
@[simp]def Lw {c d:Ex}:W4 c d τ S=(c τ S).bind (Sy d τ):=by
 unfold W4
 cases c τ S with
 | ok a S1=>cases a<;>first|rfl|(rename_i b;cases b<;>rfl)
 | _=>rfl
abbrev OG (a:A)(S:jL):R A:=match a with | .bl b=>.ok (.bl !b) S|_=>.no
@[simp]def CD {b:Bool}:OG (.bl b) S=.ok (.bl !b) S:=rfl
@[simp]def DP {c:Ex}:Of c τ S=(c τ S).bind OG:=rfl
abbrev Qw (c d:Ex)(τ:ad)(b:Bool)(S:jL):R A:=match b with|true=>c τ S|false=>d τ S
@[simp]def K7 {c d:Ex}:Qw c d τ true S=c τ S:=rfl
@[simp]def Kq {c d:Ex}:Qw c d τ false S=d τ S:=rfl
@[simp]def Lb {t:Te}{c d:Ex}:Xl t c d τ S=(t τ S).bind (Qw c d τ):=rfl
@[simp]def FZ:jQ τ S=.ok [] S:=rfl
abbrev DE (a:A)(as:ad)(S:jL):R (ad):=.ok (a::as) S
abbrev Ov (d:qJ)(τ:ad)(a:A)(S:jL):R (ad):=(d τ S).bind (DE a)
@[simp]def zc {as:ad}:DE a as S=.ok (a::as) S:=rfl
@[simp]def CF {d:qJ}:Ov d τ a S=(d τ S).bind (DE a):=rfl
@[simp]def Bm {c:Ex}{d:qJ}:jG c d τ S=(c τ S).bind (Ov d τ):=rfl
@[simp]def Fp {d:qJ}:uD d τ S=(d τ S).bind λas S1=>gd (as.length<=sizeLine) (.ok (.tup as) S1):=rfl
@[simp]def Ec {d:qJ}:xw d τ S=(d τ S).bind newL:=rfl
theorem kE{as:ad}(h:as.length<=16777216):newL as S=.ok (.ref S.length) (S++[.lst as]):=lC (by rw[c7];exact h)
@[simp]def BD {f:ad->jL->R A}{d:qJ}:j5 f d τ S=(d τ S).bind f:=rfl
abbrev Wh (r:R A):R A:=match r with
 | .ok a S=>.ok a S
 | _=>.no
@[simp]def L5:Wh (.ok a S)=.ok a S:=rfl
abbrev WJ (f:ad->jL->R A)(as:ad)(S:jL):R A:=Wh (f as S)
@[simp]def HJ {f:ad->jL->R A}{as:ad}:WJ f as S=Wh (f as S):=rfl
@[simp]def Io {f:ad->jL->R A}{d:qJ}:eFn f d τ S=(d τ S).bind (WJ f):=rfl
@[simp]def O1 {g:A->jL->R A}:f1 g [a] S=g a S:=rfl
@[simp]def OD {g:A->A->jL->R A}:f2 g [a,b] S=g a b S:=rfl
abbrev Qs (h:Pt)(τ:ad)(a:A)(l:bb)(S:jL):R A:=(h τ S).bind (HD a l)
abbrev WV (l h:Pt)(τ:ad)(a:A)(S:jL):R A:=(l τ S).bind (Qs h τ a)
@[simp]def Gw {h:Pt}{l:bb}:Qs h τ a l S=(h τ S).bind (HD a l):=rfl
@[simp]def Iw {l h:Pt}:WV l h τ a S=(l τ S).bind (Qs h τ a):=rfl
@[simp]def II {c:Ex}{l h:Pt}:SV c l h τ S=(c τ S).bind (WV l h τ):=rfl
@[simp]def BP:Gr τ S=.ok none S:=rfl
abbrev W7 (a:A)(S:jL):R (bb):=match a with
 | .int i=>.ok (some i) S
 | _=>.no
@[simp]def Gi {i:Int}:W7 (.int i) S=.ok (some i) S:=rfl
@[simp]def BY {c:Ex}:v9 c τ S=(c τ S).bind W7:=rfl
abbrev Rr (f:A->ad->jL->R A)(d:qJ)(τ:ad)(o:A)(S:jL)(_:ad):R A:=(d τ S).bind (f o)
abbrev WU (f:A->ad->jL->R A)(d:qJ)(τ:ad)(o:A)(S:jL):R A:=opt (o.lst? S) (Rr f d τ o S)
@[simp]def FD {f:A->ad->jL->R A}{d:qJ}{xs:ad}:Rr f d τ a S xs=(d τ S).bind (f a):=rfl
@[simp]def Mp {f:A->ad->jL->R A}{d:qJ}:WU f d τ a S=opt (a.lst? S) (Rr f d τ a S):=rfl
@[simp]def Mu {f:A->ad->jL->R A}{c:Ex}{d:qJ}:L3 f c d τ S=(c τ S).bind (WU f d τ):=rfl
@[simp]def FA {f:A->ad->jL->R A}{c:Ex}:Sk f c τ S=(c τ S).bind λo S1=>opt (o.lst? S1) λ_=>f o [] S1:=rfl
@[simp]def lst?_ref {n:Nat}:A.lst? S (.ref n)=jH S n:=rfl
abbrev RS.seq (r:RS)(d:Sm):RS:=match r with
 | .nx τ S=>d τ S
 | r=>r
@[simp]def RS.Mx {d:Sm}:RS.seq (.nx τ S) d=d τ S:=rfl
@[simp]def RS.Lf {d:Sm}:RS.seq (.rt a S) d=.rt a S:=rfl
@[simp]def RS.JT {d:Sm}{c:Str}:RS.seq (.ex c S) d=.ex c S:=rfl
@[simp]def RS.Ir {d:Sm}:RS.seq (.bk τ S) d=.bk τ S:=rfl
@[simp]def RS.KR {d:Sm}:RS.seq (.ct τ S) d=.ct τ S:=rfl
@[simp]def Ep {c d:Sm}:ku c d τ S=RS.seq (c τ S) d:=by unfold ku RS.seq;cases c τ S<;>rfl
@[simp]def Gv:qM τ S=.nx τ S:=rfl
@[simp]def zB:Qk τ S=.bk τ S:=rfl
@[simp]def BX:Uw τ S=.ct τ S:=rfl
@[simp]def Ck {e:Ex}:uA e τ S=RS.of (e τ S) λ_ S1=>.nx τ S1:=rfl
@[simp]def ED {e:Ex}:lH e τ S=RS.of (e τ S) .rt:=rfl
@[simp]def B9:KC τ S=.rt .non S:=rfl
abbrev Vg (c d:Sm)(τ:ad)(b:Bool)(S:jL):RS:=match b with|true=>c τ S|false=>d τ S
@[simp]def O8 {c d:Sm}:Vg c d τ true S=c τ S:=rfl
@[simp]def Pe {c d:Sm}:Vg c d τ false S=d τ S:=rfl
@[simp]def LX {t:Te}{c d:Sm}:A5 t c d τ S=RS.of (t τ S) (Vg c d τ):=rfl
abbrev Ug (g:Tg)(τ:ad)(a:A)(S:jL):RS:=RS.of (g a τ S) .nx
@[simp]def Ed {g:Tg}:Ug g τ a S=RS.of (g a τ S) .nx:=rfl
@[simp]def FL {e:Ex}{g:Tg}:lA e g τ S=RS.of (e τ S) (Ug g τ):=rfl
@[simp]def KI {i:Nat}:kO i a τ S=.ok (τ.set i a) S:=rfl
abbrev Qz (a o:A)(τ:ad)(i:A)(S:jL):R (ad):=(BG o i a S).bind λ_ S3=>.ok τ S3
abbrev W0 (ci:Ex)(τ:ad)(a o:A)(S:jL):R (ad):=(ci τ S).bind (Qz a o τ)
@[simp]def FF {o i:A}:Qz a o τ i S=(BG o i a S).bind λ_ S3=>.ok τ S3:=rfl
@[simp]def L8 {ci:Ex}{o:A}:W0 ci τ a o S=(ci τ S).bind (Qz a o τ):=rfl
@[simp]def Li {co ci:Ex}:SN co ci a τ S=(co τ S).bind (W0 ci τ a):=rfl
@[simp]def Ie {n:Nat}{gs:MD}{xs:ad}:A9 n gs (.tup xs) τ S=gd (xs.length=n) (gs xs τ S):=rfl
@[simp]def Ml:A6 [] τ S=.ok τ S:=rfl
@[simp]def JA {g:Tg}{gs:MD}{as:ad}:sP g gs (a::as) τ S=(g a τ S).bind (gs as):=rfl
abbrev W6 (i j:Nat)(τ:ad)(as:ad)(S:jL):RS:=match as with
 | [a,b]=>.nx ((τ.set i a).set j b) S
 | _=>.no
@[simp]def IV {i j:Nat}:W6 i j τ [a,b] S=.nx ((τ.set i a).set j b) S:=rfl
@[simp]def E9 {i j:Nat}{c:qJ}:VJ i j c τ S=RS.of (c τ S) (W6 i j τ):=rfl
abbrev J_ (i:Nat)(τ:ad)(c:A)(S:jL):RS:=.nx (τ.set i c) S
abbrev S_ (i:Nat)(f:A->A->jL->R A)(τ:ad)(b:A)(S:jL):RS:=.of (f (τ.getD i .unb) b S) (J_ i τ)
@[simp]def BC {i:Nat}:J_ i τ a S=.nx (τ.set i a) S:=rfl
@[simp]def E_ {i:Nat}{f:A->A->jL->R A}:S_ i f τ a S=.of (f (τ.getD i .unb) a S) (J_ i τ):=rfl
@[simp]def Ek {i:Nat}{f:A->A->jL->R A}{e:Ex}:LL i f e τ S=bif (τ.getD i .unb).nV then .no else .of (e τ S) (S_ i f τ):=by
 unfold LL;cases(τ.getD i .unb).nV<;>rfl
abbrev VW (o i:A)(τ:ad)(z:A)(S:jL):RS:=.of (BG o i z S) λ_ S6=>.nx τ S6
abbrev VI (f:A->A->jL->R A)(o i x:A)(τ:ad)(y:A)(S:jL):RS:=.of (f x y S) (VW o i τ)
abbrev VF (ce:Ex)(f:A->A->jL->R A)(o i:A)(τ:ad)(x:A)(S:jL):RS:=.of (ce τ S) (VI f o i x τ)
abbrev Wt (ce:Ex)(f:A->A->jL->R A)(o:A)(τ:ad)(i:A)(S:jL):RS:=.of (I_ o i S) (VF ce f o i τ)
abbrev WS (ci ce:Ex)(f:A->A->jL->R A)(τ:ad)(o:A)(S:jL):RS:=.of (ci τ S) (Wt ce f o τ)
@[simp]def Mm {o i:A}:VW o i τ a S=.of (BG o i a S) λ_ S6=>.nx τ S6:=rfl
@[simp]def Ld {f:A->A->jL->R A}{o i x:A}:VI f o i x τ a S=.of (f x a S) (VW o i τ):=rfl
@[simp]def Jt {ce:Ex}{f:A->A->jL->R A}{o i:A}:VF ce f o i τ a S=.of (ce τ S) (VI f o i a τ):=rfl
@[simp]def IQ {ce:Ex}{f:A->A->jL->R A}{o:A}:Wt ce f o τ a S=.of (I_ o a S) (VF ce f o a τ):=rfl
@[simp]def JG {ci ce:Ex}{f:A->A->jL->R A}:WS ci ce f τ a S=.of (ci τ S) (Wt ce f a τ):=rfl
@[simp]def B_ {co ci ce:Ex}{f:A->A->jL->R A}:wk co ci ce f τ S=RS.of (co τ S) (WS ci ce f τ):=rfl
abbrev RS.end (r:RS):R A:=match r with
 | .rt a S'=>.ok a S'
 | .nx _ S'=>.ok .non S'
 | .ex c S'=>.ex c S'
 | _=>.no
@[simp]def RS.J8:RS.end (.rt a S)=.ok a S:=rfl
@[simp]def RS.LN:RS.end (.nx τ S)=.ok .non S:=rfl
@[simp]def RS.IG {c:Str}:RS.end (.ex c S)=.ex c S:=rfl
theorem uN {N:am}{m:Sm}{as:ad}:mJ N m as S=RS.end (m (as++List.replicate (N.length-as.length) .unb) S):=by
 unfold mJ RS.end;cases m (as++List.replicate (N.length-as.length) .unb) S<;>rfl
@[simp]def Kr {i j:Int}:l_ (.int i) (.int j) S=.ok (.int (i+j)) S:=rfl
@[simp]def Ja {i j:Int}:aSub (.int i) (.int j) S=.ok (.int (i-j)) S:=rfl
@[simp]def Ll {i j:Int}:C_ (.int i) (.int j) S=.ok (.int (i+j)) S:=rfl
theorem J3{i j:Int}(h:-18446744073709551616<i)(h':i<18446744073709551616):vd (.int i) (.int j) S=.ok (.int (i * j)) S:=lC (by unfold Cu;simp;left;exact⟨by omega,by omega⟩)
def mul_r{i j:Int}(h:-18446744073709551616<j)(h':j<18446744073709551616):vd (.int i) (.int j) S=.ok (.int (i * j)) S:=lC (by unfold Cu;simp;right;exact⟨(),()⟩)
def LU{i j:Int}(h:0<j)(h':j<1073741824):E8 (.int i) (.int j) S=.ok (.int (i / j)) S:=lC ⟨h,()⟩
def Br{i j:Int}(h:0<j):zQ (.int i) (.int j) S=.ok (.int (i % j)) S:=lC h
@[simp]def O3 {i j:Int}:F4 (.int i) (.int j) S=.ok (.bl (decide (i<j))) S:=rfl
@[simp]def Pu {i j:Int}:Vm (.int i) (.int j) S=.ok (.bl (decide (i<=j))) S:=rfl
@[simp]def OM {i j:Int}:Cv (.int i) (.int j) S=.ok (.bl (decide (j<i))) S:=rfl
@[simp]def Pn {i j:Int}:Xu (.int i) (.int j) S=.ok (.bl (decide (j<=i))) S:=rfl
@[simp]def O9 {i j:Bool}:GW false (.bl i) (.bl j) S=.ok (.bl (i == j)) S:=rfl
@[simp]def My {i j:Bool}:GW true (.bl i) (.bl j) S=.ok (.bl (i != j)) S:=rfl
@[simp]def IA {i:Int}:Ig (.int i) S=.ok (.int (-i)) S:=rfl
@[simp]def HY {xs:ad}:nh (.tup xs) S=.ok (.int xs.length) S:=rfl
@[simp]def IE {xs:ad}:nh (.frz xs) S=.ok (.int xs.length) S:=rfl
@[simp]def Jp {n:Nat}:nh (.ref n) S=opt (jH S n) λxs=>.ok (.int xs.length) S:=rfl
@[simp]def Mr {i:Int}:SI (.int i) S=.ok (.int (if i<0 then -i else i)) S:=rfl
@[simp]def Et {i j:Int}:Le (.int i) (.int j) S=.ok (.int (if j>i then j else i)) S:=rfl
@[simp]def E2 {i j:Int}:Js (.int i) (.int j) S=.ok (.int (if j<i then j else i)) S:=rfl
@[simp]def FP {i:Int}:OV (.int i) S=.ok (.int i) S:=rfl
@[simp]def FN {i:Bool}:OV (.bl i) S=.ok (.int (if i then 1 else 0)) S:=rfl
@[simp]def zD {i j:Int}:qx (.int i) (.int j) S=.ok (.rng i j) S:=rfl
@[simp]def Ow {xs:ad}{i:Int}:om (.tup xs) (.int i) S=opt (nY xs i) λx=>.ok x S:=rfl
@[simp]def OH {xs:ad}{i:Int}:om (.frz xs) (.int i) S=opt (nY xs i) λx=>.ok x S:=rfl
@[simp]def OO {n:Nat}{i:Int}:om (.ref n) (.int i) S=opt (jH S n) λxs=>opt (nY xs i) λx=>.ok x S:=rfl
@[simp]def KA {n:Nat}{k:Int}:BG (.ref n) (.int k) a S=opt (jH S n) λxs=>opt (yM xs.length k) λj=>.ok Unit.unit (S.set n (.lst (xs.set j a))):=rfl
@[simp]def LA {n:Nat}{i:Int}:I_ (.ref n) (.int i) S=opt (jH S n) λxs=>gd (0<=i) (opt (xs[i.toNat]?) λx=>.ok x S):=rfl
theorem Hg{i j:Int}(h:xN i j):ye (.rng i j) S=.ok (.ref S.length) (S++[.lst ((jX i j).map .int)]):=lC h
def CZ{i j:Int}(h:xN i j):oh (.rng i j) S=.ok (.tup ((jX i j).map .int)) S:=lC h
@[simp]def Ei {xs:ad}:ye (.tup xs) S=.ok (.ref S.length) (S++[.lst xs]):=rfl
@[simp]def E4 {xs:ad}:ye (.frz xs) S=.ok (.ref S.length) (S++[.lst xs]):=rfl
@[simp]def EY {n:Nat}:ye (.ref n) S=opt (jH S n) λxs=>.ok (.ref S.length) (S++[.lst xs]):=rfl
@[simp]def Bv {xs:ad}:oh (.tup xs) S=.ok (.tup xs) S:=rfl
@[simp]def Bh {n:Nat}:oh (.ref n) S=opt (jH S n) λxs=>.ok (.tup xs) S:=rfl
@[simp]def K5 {xs:ad}:Hj (.tup xs) S=.ok (.tup xs.reverse) S:=rfl
@[simp]def J4 {n:Nat}:Hj (.ref n) S=opt (jH S n) λxs=>.ok (.ref S.length) (S++[.lst xs.reverse]):=rfl
@[simp]def Pg {n:Nat}{l u:bb}:HD (.ref n) l u S=opt (jH S n) λxs=>.ok (.ref S.length) (S++[.lst (uY xs l u)]):=rfl
@[simp]def xm {n:Nat}:sJ (.ref n) [a] S=opt (jH S n) λxs=>gd (xs.length<sizeLine) (.ok .non (S.set n (.lst (xs++[a])))):=rfl
@[simp]def Kw {b:Bool}:A.Q9 (.bl b) S=some b:=rfl
@[simp]def Fl {i:Int}:A.Q9 (.int i) S=some (i != 0):=rfl
theorem K2{o:O}:(S++[o])[S.length]?=some o:=by simp
@[simp]def j4 {xs:ad}:jH (S++[.lst xs]) S.length=some xs:=u_ K2
theorem qv{o:O}{n:Nat}(h:jH S n=some xs):jH (S++[o]) n=some xs:=by
 have h':=jU h;exact u_ (by rw[bC (aK.mp h').1];exact h')
def oX{n:Nat}(h:jH S n=some xs):n<S.length:=(aK.mp (jU h)).1
def nE{n:Nat}(h:n<S.length):jH (S.set n (.lst ys)) n=some ys:=u_ (bM h)
def nR{n:Nat}(h:n≠m):jH (S.set n (.lst ys)) m=jH S m:=by unfold jH;rw[bK h]
def DG{xs:ad}{i:Int}{k:Nat}{x:A}(h:i=k)(hx:xs[k]?=some x):nY xs i=some x:=by rw[h];exact M7 hx
def vQ{n:Nat}{i:Int}{k:Nat}(h:i=k)(hk:k<n):yM n i=some k:=by
 subst h;unfold yM;rw[aN (),aN ()];simp
end
structure Kp (b:Nat->Prop)(S S':jL):Prop where
 len:S.length<=S'.length
 obj:∀(n:Nat) (o:O),¬b n->S[n]?=some o->S'[n]?=some o
meta abbrev qB:=Kp λ_=>False
def Kp.lst{b:Nat->Prop}(h:Kp b S S')(n:Nat)(xs:ad)(hb:¬b n)(e:jH S n=some xs):jH S' n=some xs:=u_ (h.obj n _ hb (jU e))
def Kp.dct{b:Nat->Prop}(h:Kp b S S')(n:Nat)(xs:List (ae×A))(hb:¬b n)(e:j8 S n=some xs):j8 S' n=some xs:=o4 (h.obj n _ hb (lY e))
def Kp.refl{b:Nat->Prop}:Kp b S S:=⟨aS _,λ_ _ _ h=>h⟩
def Kp.trans{b:Nat->Prop}(h:Kp b S S1)(h':Kp b S1 S2):Kp b S S2:=⟨bX h.len h'.len,λn xs hb e=>h'.obj n xs hb (h.obj n xs hb e)⟩
def DO{S:jL}{n:Nat}(e:S[n]?=some o):n<S.length:=(aK.mp e).1
def Kp.lay{b:Nat->Prop}{o:O}(h:Kp b S S1):Kp b S (S1++[o]):=⟨bX h.len (by simp),λn xs hb e=>by
 have:=h.obj n xs hb e;rw[bC (DO this)];exact this⟩
def Kp.MJ{b:Nat->Prop}{S S1:jL}(h:Kp b S S1)(hm:b m\/S.length<=m):Kp b S (S1.set m o):=⟨by rw[bN];exact h.len,λn xs hb e=>by
 have:m≠n:=λz=>by
  subst z
  rcases hm with z|z
  ·exact hb z
  ·exact absurd (DO e) ()
 rw[bK this];exact h.obj n xs hb e⟩
def Kp.set{b:Nat->Prop}{S S1:jL}(h:Kp b S S1)(hm:b m\/S.length<=m):Kp b S (S1.set m (.lst ys)):=h.MJ hm
def Kp.old{b c:Nat->Prop}{S:jL}(h:Kp b S S1)(h':Kp c S1 S2)(hc:∀n,n<S.length->¬b n->¬c n):Kp b S S2:=⟨bX h.len h'.len,λn xs hb e=>h'.obj n xs (hc n (DO e) hb) (h.obj n xs hb e)⟩
theorem qQ{t:Te}{c:Sm}(Inv:ad->jL->Prop)(μ:ad->jL->Nat)(Post:RS->Prop)
  (h:∀τ S,Inv τ S->(∃S1,t τ S=.ok false S1/\Post (.nx τ S1))\/(∃S1,t τ S=.ok true S1/\((∃τ' S',c τ S1=.nx τ' S'/\Inv τ' S'/\μ τ' S'<μ τ S)\/(∃a S',c τ S1=.rt a S'/\Post (.rt a S'))))) :
  ∀n τ S,Inv τ S->μ τ S<n->Post (mq t c n τ S)
 | 0,_,_,_,hn=>absurd hn (iK _)
 | n+1,τ,S,hi,hn=>by
  unfold mq
  rcases h τ S hi with⟨S1,e,q⟩|⟨S1,e,⟨τ',S',e2,hi',hm⟩|⟨a,S',e2,q⟩⟩
  ·rw[e];exact q
  ·rw[e];show Post (match c τ S1 with
    | .nx τ' S'=>mq t c n τ' S'
    | .ct τ' S'=>mq t c n τ' S'
    | .bk τ' S'=>.nx τ' S'
    | r=>r)
   rw[e2];exact qQ Inv μ Post h n τ' S' hi' ()
  ·rw[e];show Post (match c τ S1 with
    | .nx τ' S'=>mq t c n τ' S'
    | .ct τ' S'=>mq t c n τ' S'
    | .bk τ' S'=>.nx τ' S'
    | r=>r)
   rw[e2];exact q
theorem DH{s:Src}{g:Tg}{c:Sm}(Inv:Nat->ad->jL->Prop)(Post:RS->Prop)
  (step:∀i τ S,i<s.k->Inv i τ S->∃x τ1 S1,s.get i S=some x/\g x τ S=.ok τ1 S1/\((∃τ' S',c τ1 S1=.nx τ' S'/\Inv (i+1) τ' S')\/(∃a S',c τ1 S1=.rt a S'/\Post (.rt a S'))))
  (fin:∀τ S,Inv s.k τ S->s.fin S=true/\Post (.nx τ S)):∀k i τ S,k+i=s.k->Inv i τ S->Post (o6 s g c k i τ S)
 | 0,i,τ,S,hk,hi=>by
  have:i=s.k:=()
  subst this;obtain⟨hf,q⟩:=fin τ S hi;unfold o6;rw[aN hf];exact q
 | k+1,i,τ,S,hk,hi=>by
  obtain⟨x,τ1,S1,hx,hg,h⟩:=step i τ S () hi;unfold o6;rw[hx];show Post (RS.of (g x τ S) λτ1 S1=>match c τ1 S1 with
   | .nx τ' S'=>o6 s g c k (i+1) τ' S'
   | .ct τ' S'=>o6 s g c k (i+1) τ' S'
   | .bk τ' S'=>.nx τ' S'
   | r=>r)
  rw[hg];show Post (match c τ1 S1 with
   | .nx τ' S'=>o6 s g c k (i+1) τ' S'
   | .ct τ' S'=>o6 s g c k (i+1) τ' S'
   | .bk τ' S'=>.nx τ' S'
   | r=>r)
  rcases h with⟨τ',S',e,hi'⟩|⟨a,S',e,q⟩
  ·rw[e];exact DH Inv Post step fin k (i+1) τ' S' () hi'
  ·rw[e];exact q
def wR{lo hi:Int}{c:Sm}{src:Ic}{τ:ad}(hs:src τ S=.ok (kN lo hi) S1)(Inv:Nat->ad->jL->Prop)(Post:RS->Prop)(h0:Inv 0 τ S1)
  (step:∀(i:Nat) τ S,(i:Int)<hi-lo->Inv i τ S->(∃τ' S',c (τ.set j (.int (lo+i))) S=.nx τ' S'/\Inv (i+1) τ' S')\/(∃a S',c (τ.set j (.int (lo+i))) S=.rt a S'/\Post (.rt a S')))
  (fin:∀τ S,Inv (hi-lo).toNat τ S->Post (.nx τ S)):Post (rD src (kO j) c τ S):=by
 unfold rD;rw[hs];refine DH (s:=kN lo hi) Inv Post (λi τ S hi' h=>?_) (λτ S h=>⟨rfl,fin τ S h⟩) _ 0 τ S1 rfl h0;have hi':i<(hi-lo).toNat:=hi';exact⟨.int (lo+i),_,S,aN hi',rfl,step i τ S () h⟩
def wD{n:Nat}{xs:ad}{g:Tg}{c:Sm}{src:Ic}(hs:src τ S=.ok (mP n xs.length) S1)(Inv:Nat->ad->jL->Prop)(Post:RS->Prop)(h0:Inv 0 τ S1)(hl:∀i τ S,Inv i τ S->jH S n=some xs)
  (step:∀(i:Nat) x τ S,xs[i]?=some x->Inv i τ S->∃τ1 S1,g x τ S=.ok τ1 S1/\((∃τ' S',c τ1 S1=.nx τ' S'/\Inv (i+1) τ' S')\/(∃a S',c τ1 S1=.rt a S'/\Post (.rt a S'))))
  (fin:∀τ S,Inv xs.length τ S->Post (.nx τ S)):Post (rD src g c τ S):=by
 unfold rD;rw[hs];refine DH (s:=mP n xs.length) Inv Post (λi τ S hi' h=>?_) (λτ S h=>⟨?_,fin τ S h⟩) _ 0 τ S1 rfl h0
 ·have hi':i<xs.length:=hi';obtain⟨τ1,S1,e,q⟩:=step i xs[i] τ S (aH hi') h;exact⟨xs[i],τ1,S1,by show(jH S n).bind _=_;rw[hl i τ S h];exact aH hi',e,q⟩
 ·show(match jH S n with
   | some ys=>decide (ys.length<=xs.length)
   | none=>false)=true
  rw[hl _ τ S h];exact bq (aS _)
@[simp]def oW {c:Ex}{τ:ad}{S S1:jL}{j:Int}(h:c τ S=.ok (.int j) S1)(hb:bnd j):oz c τ S=.ok (kN 0 j) S1:=by
 unfold oz;rw[h];exact lC hb
def uF{c d:Ex}{i j:Int}(h:c τ S=.ok (.int i) S1)(h':d τ S1=.ok (.int j) S2)(hb:bnd i)(hb':bnd j):oA c d τ S=.ok (kN i j) S2:=by
 unfold oA;rw[h];show(d τ S1).bind _=_;rw[h'];exact lC ⟨hb,hb'⟩
def R_{c:Ex}(h:c τ S=.ok (.tup xs) S1):qD c τ S=.ok (nK xs) S1:=by unfold qD;rw[h];rfl
def rL{c:Ex}{n:Nat}{xs:ad}(h:c τ S=.ok (.ref n) S1)(hl:jH S1 n=some xs):qD c τ S=.ok (mP n xs.length) S1:=by
 unfold qD;rw[h];show opt (jH S1 n) _=_;rw[hl];rfl
theorem pq{s:Src}{g:Tg}{t:Te}{e:Ex}{P:jL->Prop}{T:ad->Prop}(it:Nat->A)(p:Nat->Bool)(f:Nat->A)
  (hget:∀i S,i<s.k->P S->s.get i S=some (it i)) (hfin:∀S,P S->s.fin S=true)
  (step:∀i τ S,i<s.k->T τ->P S->∃τ1 S1 S2,g (it i) τ S=.ok τ1 S1/\t τ1 S1=.ok (p i) S2/\T τ1/\(p i=false->P S2)/\(p i=true->∃S3,e τ1 S2=.ok (f i) S3/\P S3)) :
  ∀k i τ S,k+i=s.k->T τ->P S->∃S',mw s g t e k i τ S=.ok (((List.range' i k).filter p).map f) S'/\P S'
 | 0,i,τ,S,hk,hT,hP=>⟨S,by unfold mw;rw[aN (hfin S hP)];rfl,hP⟩
 | k+1,i,τ,S,hk,hT,hP=>by
  obtain⟨τ1,S1,S2,hg,ht,hT1,hF,hTr⟩:=step i τ S (by omega) hT hP;unfold mw;rw[hget i S (by omega) hP,j3,hg,R.lg,ht,R.lg,eB,iy]
  cases hp:p i with
  | false=>
   obtain⟨S',h1,h2⟩:=pq it p f hget hfin step k (i+1) τ1 S2 (by omega) hT1 (hF hp);exact⟨S',by simpa using h1,h2⟩
  | true=>
   obtain⟨S3,he,hP3⟩:=hTr hp;obtain⟨S',h1,h2⟩:=pq it p f hget hfin step k (i+1) τ1 S3 (by omega) hT1 hP3;refine⟨S',?_,h2⟩
   skip
   rw[he,R.lg,h1];rfl
def vI{s:Src}{src:Ic}{t:Te}{e:Ex}{S1:jL}(hs:src τ S=.ok s S1)(it:Nat->A)(p:Nat->Bool)(f:Nat->A)(hget:∀i,i<s.k->s.get i S1=some (it i))(hfin:s.fin S1=true)
  (ht:∀i,i<s.k->t (it i::nN cap τ) S1=.ok (p i) S1) (he:∀i,i<s.k->p i=true->e (it i::nN cap τ) S1=.ok (f i) S1) (hl:s.k<=16777216) :
  kM (none::cap) src (kO 0) t e τ S=.ok (.ref S1.length) (S1++[.lst (((List.range s.k).filter p).map f)]):=by
 unfold kM;rw[hs,R.lJ];obtain⟨S',h1,h2⟩:=pq (s:=s) (g:=kO 0) (t:=t) (e:=e) (P:=λS=>S=S1) (T:=λτ'=>∃y,τ'=y::nN cap τ) it p f (λi S hi h=>by subst h;exact hget i hi) (λS h=>by subst h;exact hfin)
  (λi τ' S hi ⟨y,hy⟩ h=>by
   subst h hy;exact⟨it i::nN cap τ,S,S,rfl,ht i hi,⟨_,rfl⟩,λ_=>rfl,λhp=>⟨S,he i hi hp,rfl⟩⟩) s.k 0 (nN (none::cap) τ) S1 rfl ⟨_,rfl⟩ rfl
 subst h2;rw[h1,R.lg,cE];refine kE ?_;rw[aL];refine bX (eG _ _) ?_;rw[List.length_range'];exact hl
def nJ{α β:Type}(xs:List α)(p:α->Bool)(f:α->β):∀(d:α) ,(((List.range xs.length).filter λi=>p (xs.getD i d)).map λi=>f (xs.getD i d))=(xs.filter p).map f:=by
 intro d
 induction xs with
 | nil=>rfl
 | cons x xs ih=>
  rw[bF,gP,iy,iy];have e:((List.filter (λi=>p ((x::xs).getD i d)) (List.map Nat.succ (List.range xs.length))).map λi=>f ((x::xs).getD i d))=(xs.filter p).map f:=by
   rw[iL,bJ];rw[<- ih];rfl
  show List.map _ (if p x=true then _ else _)=List.map f (if p x=true then _ else _);by_cases hp:p x=true
  ·rw[aN hp,aN hp,bI,bI,e];rfl
  ·rw[aM hp,aM hp,e]
def LC{xs:ad}{src:Ic}{t:Te}{e:Ex}{S1:jL}(hs:src τ S=.ok (nK xs) S1)(p:A->Bool)(f:A->A)
  (ht:∀x∈xs,t (x::nN cap τ) S1=.ok (p x) S1) (he:∀x∈xs,p x=true->e (x::nN cap τ) S1=.ok (f x) S1) (hl:xs.length<=16777216) :
  kM (none::cap) src (kO 0) t e τ S=.ok (.ref S1.length) (S1++[.lst ((xs.filter p).map f)]):=by
 have hm:∀i,i<xs.length->xs.getD i .unb∈xs:=λi hi=>by
  rw[aI,aH hi];exact c_ hi
 rw[vI hs (λi=>xs.getD i .unb) (λi=>p (xs.getD i .unb)) (λi=>f (xs.getD i .unb)) (λi hi=>by
  have hi:i<xs.length:=hi;show xs[i]?=_;rw[aI,aH hi];rfl) rfl (λi hi=>ht _ (hm i hi)) (λi hi=>he _ (hm i hi)) hl]
 have:=nJ xs p f .unb;show R.ok _ (S1++[O.lst (((List.range xs.length).filter _).map _)])=_;rw[this]
def LV{xs:ad}{src:Ic}{e:Ex}{S1:jL}(hs:src τ S=.ok (nK xs) S1)(f:A->A)
  (he:∀x∈xs,e (x::nN cap τ) S1=.ok (f x) S1) (hl:xs.length<=16777216) :
  kM (none::cap) src (kO 0) sU e τ S=.ok (.ref S1.length) (S1++[.lst (xs.map f)]):=by
 rw[LC hs (λ_=>true) f (λ_ _=>rfl) (λx hx _=>he x hx) hl,fh.mpr (λ_ _=>rfl)]
def xK{lo hi:Int}{src:Ic}{t:Te}{e:Ex}{S1:jL}(hs:src τ S=.ok (kN lo hi) S1)(p:Int->Bool)(f:Int->A)
  (ht:∀k,lo<=k->k<hi->t (.int k::nN cap τ) S1=.ok (p k) S1) (he:∀k,lo<=k->k<hi->p k=true->e (.int k::nN cap τ) S1=.ok (f k) S1) (hl:(hi-lo).toNat<=16777216) :
  kM (none::cap) src (kO 0) t e τ S=.ok (.ref S1.length) (S1++[.lst (((jX lo hi).filter p).map f)]):=by
 rw[vI hs (λi=>.int (lo+i)) (λi=>p (lo+i)) (λi=>f (lo+i)) (λi hi'=>aN hi') rfl (λi hi'=>ht _ () (by have:i<(hi-lo).toNat:=hi';lia)) (λi hi'=>he _ () (by have:i<(hi-lo).toNat:=hi';lia)) hl];unfold jX;rw[iL,bJ];rfl
@[simp]def IK {cap:List (bi)}{τ:ad}:nN (none::cap) τ=.unb::nN cap τ:=rfl
@[simp]def LZ {cap:List (bi)}{τ:ad}{j:Nat}:nN (some j::cap) τ=τ.getD j .unb::nN cap τ:=rfl
@[simp]def Cg {τ:ad}:nN [] τ=[]:=rfl
theorem Jw{x:A}:nY (x::xs) 0=some x:=DG (k:=0) rfl rfl
def Mz{x:A}:nY (x::y::xs) 1=some y:=DG (k:=1) rfl rfl
def uT{ns:ae}{i:Int}{k:Nat}{x:Int}(h:i=k)(hx:ns[k]?=some x):nY (ns.map A.int) i=some (.int x):=DG h (by rw[aR,hx];rfl)
def mS{j:Int}(h:-4611686018427387904<=j)(h':j<4611686018427387904):bnd j:=⟨(),()⟩
def Bs{i j:Int}(h1:-1000000<=i)(h2:i<=1000000)(h3:-1000000<=j)(h4:j<=1000000)(h5:j-i<=1000):xN i j:=⟨⟨(),(),(),()⟩,()⟩
theorem ints_map:∀(ns:ae),A.ints (ns.map .int)=some ns
 | []=>rfl
 | n::ns=>by show(A.ints (ns.map .int)).map (n::·)=_;rw[ints_map ns];rfl
theorem zx{n:Nat}:∀(xs ys:ae),wu (B5 S (n+1)) (xs.map .int) (ys.map .int)=some (decide (xs=ys))
 | [],[]=>rfl
 | [],_::_=>rfl
 | _::_,[]=>rfl
 | x::xs,y::ys=>by
  skip
  skip
  show Option.map _ (wu (B5 S (n+1)) (xs.map .int) (ys.map .int))=_;rw[zx xs ys]
  skip
  by_cases h1:x=y<;>by_cases h2:xs=ys<;>simp[h1,h2]
@[simp]def Pb {S:jL}{x y:Bool}:HE false (.bl x) (.bl y) S=.ok (.bl (x == y)) S:=rfl
@[simp]def OZ {S:jL}{x y:Bool}:HE true (.bl x) (.bl y) S=.ok (.bl (!(x == y))) S:=rfl
@[simp]def OJ {S:jL}{x y:Int}:HE false (.int x) (.int y) S=.ok (.bl (x == y)) S:=rfl
@[simp]def OL {S:jL}{x y:Int}:HE true (.int x) (.int y) S=.ok (.bl (!(x == y))) S:=rfl
@[simp]def FE {S:jL}:GW false .non .non S=.ok (.bl true) S:=rfl
@[simp]def D0 {S:jL}{xs:ad}:GW false (.tup xs) .non S=.ok (.bl false) S:=rfl
@[simp]def FY {S:jL}{n:Nat}:GW false (.ref n) .non S=.ok (.bl false) S:=rfl
@[simp]def Cd {S:jL}:GW true .non .non S=.ok (.bl false) S:=rfl
@[simp]def Bc {S:jL}{xs:ad}:GW true (.tup xs) .non S=.ok (.bl true) S:=rfl
@[simp]def Ci {S:jL}{n:Nat}:GW true (.ref n) .non S=.ok (.bl true) S:=rfl
@[simp]def Gy {S:jL}{x:A}{c:String}:LY x (.ty c) S=opt (x.kd S) λk=>opt (Dr k c) λb=>.ok (.bl b) S:=rfl
@[simp]def OQ {S:jL}{b:Bool}:A.kd (.bl b) S=some .bl:=rfl
@[simp]def J5 {S:jL}{b:Int}:A.kd (.int b) S=some .int:=rfl
@[simp]def JJ {S:jL}{b:ad}:A.kd (.tup b) S=some .tup:=rfl
@[simp]def HZ {S:jL}:A.kd .non S=some .non:=rfl
@[simp]def Ib {S:jL}{b:Str}:A.kd (.str b) S=some .str:=rfl
@[simp]def J0 {S:jL}{n:Nat}:A.kd (.ref n) S=(jH S n).map λ_=>.lst:=rfl
@[simp]def KQ {S:jL}:newL [] S=.ok (.ref S.length) (S++[.lst []]):=kE (by simp)
@[simp]def Jb {S:jL}{x0:A}:newL [x0] S=.ok (.ref S.length) (S++[.lst [x0]]):=kE (by simp)
@[simp]def LQ {S:jL}{x0 x1:A}:newL [x0,x1] S=.ok (.ref S.length) (S++[.lst [x0,x1]]):=kE (by simp)
@[simp]def IL {S:jL}{x0 x1 x2:A}:newL [x0,x1,x2] S=.ok (.ref S.length) (S++[.lst [x0,x1,x2]]):=kE (by simp)
@[simp]def Kh {S:jL}{x0 x1 x2 x3:A}:newL [x0,x1,x2,x3] S=.ok (.ref S.length) (S++[.lst [x0,x1,x2,x3]]):=kE (by simp)
@[simp]def Jv {S:jL}{x0 x1 x2 x3 x4:A}:newL [x0,x1,x2,x3,x4] S=.ok (.ref S.length) (S++[.lst [x0,x1,x2,x3,x4]]):=kE (by simp)
@[simp]def K9 {S:jL}{x0 x1 x2 x3 x4 x5:A}:newL [x0,x1,x2,x3,x4,x5] S=.ok (.ref S.length) (S++[.lst [x0,x1,x2,x3,x4,x5]]):=kE (by simp)
@[simp]def Jl {S:jL}{x0 x1 x2 x3 x4 x5 x6:A}:newL [x0,x1,x2,x3,x4,x5,x6] S=.ok (.ref S.length) (S++[.lst [x0,x1,x2,x3,x4,x5,x6]]):=kE (by simp)
@[simp]def Lm {S:jL}{x0 x1 x2 x3 x4 x5 x6 x7:A}:newL [x0,x1,x2,x3,x4,x5,x6,x7] S=.ok (.ref S.length) (S++[.lst [x0,x1,x2,x3,x4,x5,x6,x7]]):=kE (by simp)
@[simp]def Ih {S:jL}{x0 x1 x2 x3 x4 x5 x6 x7 x8:A}:newL [x0,x1,x2,x3,x4,x5,x6,x7,x8] S=.ok (.ref S.length) (S++[.lst [x0,x1,x2,x3,x4,x5,x6,x7,x8]]):=kE (by simp)
@[simp]def El {S:jL}{x0 x1 x2 x3 x4 x5 x6 x7 x8 x9:A}:newL [x0,x1,x2,x3,x4,x5,x6,x7,x8,x9] S=.ok (.ref S.length) (S++[.lst [x0,x1,x2,x3,x4,x5,x6,x7,x8,x9]]):=kE (by simp)
theorem AJ{α:Type}{n:Nat}{r:R α}(h:n<=16777216):gd (n<=sizeLine) r=r:=lC (by rw[c7];exact h)
def FO{α:Type}{n:Nat}{r:R α}(h:n<16777216):gd (n<sizeLine) r=r:=lC (by rw[c7];exact h)
def ON {x:A}{xs:ad}:(x::xs).getD 0 .unb=x:=rfl
def OC {x:A}{xs:ad}{n:Nat}:(x::xs).getD (n+1) .unb=xs.getD n .unb:=rfl
def UC {x y:A}{xs:ad}:(x::xs).set 0 y=y::xs:=rfl
def sets {x y:A}{xs:ad}{n:Nat}:(x::xs).set (n+1) y=x::xs.set n y:=rfl
def rep0 {x:A}:List.replicate 0 x=[]:=rfl
def reps {x:A}{n:Nat}:List.replicate (n+1) x=x::List.replicate n x:=rfl
def TY {x:A}{xs ys:ad}:(x::xs)++ys=x::(xs++ys):=rfl
def UT {ys:ad}:[]++ys=ys:=rfl
def kF:type_of% (anI @R.lJ (anI @R.Gh (anI @R.lg (anI @RS.of_ok (anI @RS.Pq (anI @j3 (anI @F6 (anI @E7 (anI @Fj (anI @Gn (anI @FW (anI @JC (anI @Gz (anI @EH (anI @EA (anI @Gs (anI @FJ (anI @OS (anI @EB (anI @HG (anI @EE (anI @OB (anI @KJ (anI @DS (anI @Gm (anI @JD (anI @DQ (anI @EV (anI @D5 (anI @LI (anI @Jr (anI @Ef (anI @Lw (anI @CD (anI @DP (anI @Lb (anI @FZ (anI @Bm (anI @Fp (anI @Ec (anI @BD (anI @L5 (anI @Io (anI @O1 (anI @OD (anI @II (anI @BP (anI @Gi (anI @BY (anI @Mu (anI @FA (anI @lst?_ref (anI @RS.Mx (anI @RS.Lf (anI @RS.JT (anI @RS.Ir (anI @RS.KR (anI @Ep (anI @Gv (anI @zB (anI @BX (anI @Ck (anI @ED (anI @B9 (anI @LX (anI @FL (anI @KI (anI @Li (anI @Ie (anI @Ml (anI @JA (anI @IV (anI @E9 (anI @Ek (anI @B_ (anI @RS.J8 (anI @RS.LN (anI @RS.IG (anI @Kr (anI @Ja (anI @Ll (anI @O3 (anI @Pu (anI @OM (anI @Pn (anI @O9 (anI @My (anI @IA (anI @HY (anI @IE (anI @Jp (anI @Mr (anI @Et (anI @E2 (anI @FP (anI @FN (anI @zD (anI @Ow (anI @OH (anI @OO (anI @KA (anI @LA (anI @Ei (anI @E4 (anI @EY (anI @Bv (anI @Bh (anI @K5 (anI @J4 (anI @Pg (anI @xm (anI @Kw (anI @Fl (anI @j4 (anI @IK (anI @LZ (anI @Cg (anI @Pb (anI @OZ (anI @OJ (anI @OL (anI @FE (anI @D0 (anI @FY (anI @Cd (anI @Bc (anI @Ci (anI @Gy (anI @OQ (anI @J5 (anI @JJ (anI @HZ (anI @Ib (anI @J0 (anI @KQ (anI @Jb (anI @LQ (anI @IL (anI @Kh (anI @Jv (anI @K9 (anI @Jl (anI @Lm (anI @Ih (anI @El (anI @ON (anI @OC (anI @UC (anI @sets (anI @rep0 (anI @reps (anI @TY (anI @UT (anI @uN (anI @EM (anI @JB (anI @Jj (anI @Ou (anI @OE (anI @K7 (anI @Kq (anI @zc (anI @CF (anI @HJ (anI @Gw (anI @Iw (anI @FD (anI @Mp (anI @O8 (anI @Pe (anI @Ed (anI @FF (anI @L8 (anI @BC (anI @E_ (anI @JG (anI @IQ (anI @Jt (anI @Ld (@Mm)))))))))))))))))))))))))))))))))))))))))))))))))))))))))))))))))))))))))))))))))))))))))))))))))))))))))))))))))))))))))))))))))))))))))))))))))))))))))))))))))))))))))))))))))))):=anI @R.lJ (anI @R.Gh (anI @R.lg (anI @RS.of_ok (anI @RS.Pq (anI @j3 (anI @F6 (anI @E7 (anI @Fj (anI @Gn (anI @FW (anI @JC (anI @Gz (anI @EH (anI @EA (anI @Gs (anI @FJ (anI @OS (anI @EB (anI @HG (anI @EE (anI @OB (anI @KJ (anI @DS (anI @Gm (anI @JD (anI @DQ (anI @EV (anI @D5 (anI @LI (anI @Jr (anI @Ef (anI @Lw (anI @CD (anI @DP (anI @Lb (anI @FZ (anI @Bm (anI @Fp (anI @Ec (anI @BD (anI @L5 (anI @Io (anI @O1 (anI @OD (anI @II (anI @BP (anI @Gi (anI @BY (anI @Mu (anI @FA (anI @lst?_ref (anI @RS.Mx (anI @RS.Lf (anI @RS.JT (anI @RS.Ir (anI @RS.KR (anI @Ep (anI @Gv (anI @zB (anI @BX (anI @Ck (anI @ED (anI @B9 (anI @LX (anI @FL (anI @KI (anI @Li (anI @Ie (anI @Ml (anI @JA (anI @IV (anI @E9 (anI @Ek (anI @B_ (anI @RS.J8 (anI @RS.LN (anI @RS.IG (anI @Kr (anI @Ja (anI @Ll (anI @O3 (anI @Pu (anI @OM (anI @Pn (anI @O9 (anI @My (anI @IA (anI @HY (anI @IE (anI @Jp (anI @Mr (anI @Et (anI @E2 (anI @FP (anI @FN (anI @zD (anI @Ow (anI @OH (anI @OO (anI @KA (anI @LA (anI @Ei (anI @E4 (anI @EY (anI @Bv (anI @Bh (anI @K5 (anI @J4 (anI @Pg (anI @xm (anI @Kw (anI @Fl (anI @j4 (anI @IK (anI @LZ (anI @Cg (anI @Pb (anI @OZ (anI @OJ (anI @OL (anI @FE (anI @D0 (anI @FY (anI @Cd (anI @Bc (anI @Ci (anI @Gy (anI @OQ (anI @J5 (anI @JJ (anI @HZ (anI @Ib (anI @J0 (anI @KQ (anI @Jb (anI @LQ (anI @IL (anI @Kh (anI @Jv (anI @K9 (anI @Jl (anI @Lm (anI @Ih (anI @El (anI @ON (anI @OC (anI @UC (anI @sets (anI @rep0 (anI @reps (anI @TY (anI @UT (anI @uN (anI @EM (anI @JB (anI @Jj (anI @Ou (anI @OE (anI @K7 (anI @Kq (anI @zc (anI @CF (anI @HJ (anI @Gw (anI @Iw (anI @FD (anI @Mp (anI @O8 (anI @Pe (anI @Ed (anI @FF (anI @L8 (anI @BC (anI @E_ (anI @JG (anI @IQ (anI @Jt (anI @Ld (@Mm)))))))))))))))))))))))))))))))))))))))))))))))))))))))))))))))))))))))))))))))))))))))))))))))))))))))))))))))))))))))))))))))))))))))))))))))))))))))))))))))))))))))))))))))))))
def bools:(∀b:Bool,cond false b b=b)/\(∀(α:Type) (x y:α),cond false x y=y)/\(∀(α:Type) (x y:α),cond true x y=x):=⟨λ_=>rfl,λ_ _ _=>rfl,λ_ _ _=>rfl⟩
def nI:(∀(x:Str) (xs:am),(x::xs).length=xs.length+1)/\([]:am).length=0/\(∀(x:A) (xs:ad),(x::xs).length=xs.length+1)/\([]:ad).length=0:=⟨λ_ _=>rfl,rfl,λ_ _=>rfl,rfl⟩
section
variable {τ:ad}{S:jL}
def DZ {f:ad->jL->R A}{d:qJ}:Wo f d τ S=(d τ S).bind f:=rfl
abbrev WQ (c:Str):Unit->jL->RS:=λ_ S1=>.ex c S1
def IU {c:Str}{u:Unit}:WQ c u S=.ex c S:=rfl
def y_ {c:Str}{ps:List (Str ⊕ Ex)}:Q0 c ps τ S=RS.of (Oi ps τ S) (WQ c):=rfl
def D7:Oi [] τ S=.ok Unit.unit S:=rfl
def F5 {x:Str}{ps:List (Str ⊕ Ex)}:Oi (.inl x::ps) τ S=Oi ps τ S:=rfl
abbrev Xv (ps:List (Str ⊕ Ex))(τ:ad):A->jL->R Unit:=λv S1=>match v with
 | .int i=>gd (i.natAbs.log2<64) (Oi ps τ S1)
 | _=>.no
def Fg {e:Ex}{ps:List (Str ⊕ Ex)}:Oi (.inr e::ps) τ S=(e τ S).bind (Xv ps τ):=rfl
abbrev RS.try (i n:Nat)(cs:am)(d:Sm):RS->RS
 | .ex x S1=>if x∈cs then OF i (d ((List.replicate n .unb).set i (.exn x)) S1)else .no
 | r=>r
def ER {i n:Nat}{cs:am}{c d:Sm}:Uq i n cs c d τ S=RS.try i n cs d (c τ S):=by
 unfold Uq RS.try;cases c τ S<;>rfl
def JE {i n:Nat}{cs:am}{d:Sm}:RS.try i n cs d (.nx τ S)=.nx τ S:=rfl
def JS {i n:Nat}{cs:am}{d:Sm}{a:A}:RS.try i n cs d (.rt a S)=.rt a S:=rfl
def J7 {i n:Nat}{x:Str}{cs:am}{d:Sm}:RS.try i n (x::cs) d (.ex x S)=OF i (d ((List.replicate n .unb).set i (.exn x)) S):=aN (.head _)
def Kf {i:Nat}{a:A}:OF i (.rt a S)=.rt a S:=rfl
def Kg {i:Nat}:OF i (.nx τ S)=.nx (τ.set i .unb) S:=rfl
abbrev Th (f:Str->bd):A->jL->R A:=λv S1=>match v with
 | .exn x=>opt (f x) λb=>.ok (.bl b) S1
 | _=>.no
def Fc {f:Str->bd}{c:Ex}:VS f c τ S=(c τ S).bind (Th f):=rfl
def IW {x:Str}{b:Bool}{tb:List (Str×Bool)}:Th (Xg ((x,b)::tb)) (.exn x) S=.ok (.bl b) S:=by
 show opt (List.lookup x ((x,b)::tb)) _=_;rw[fX,bW];rfl
abbrev R.Kc {α β:Type}(r:R α)(f:α->jL->R β):R β:=match r with
 | .ok a S=>f a S
 | _=>.no
def By {α β:Type}{a:α}{f:α->jL->R β}:R.Kc (.ok a S) f=f a S:=rfl
def Fe {f:ad->jL->R A}{d:qJ}:Uj f d τ S=R.Kc (d τ S) f:=by unfold Uj R.Kc;cases d τ S<;>rfl
abbrev RS.VT {α:Type}(r:R α)(f:α->jL->RS):RS:=match r with
 | .ok a S=>f a S
 | _=>.no
def LH {α:Type}{a:α}{f:α->jL->RS}:RS.VT (.ok a S) f=f a S:=rfl
def Ft {t:Te}{c d:Sm}:TL t c d τ S=RS.VT (t τ S) (Vg c d τ):=by
 unfold TL RS.VT
 cases t τ S with
 | ok b S1=>cases b<;>rfl
 | ex _ _=>rfl
 | no=>rfl
abbrev RS.Lx (i:Nat)(cs:am)(d:Sm)(τ:ad):RS->RS
 | .ex x S1=>if x∈cs then OF i (d (τ.set i (.exn x)) S1)else .no
 | r=>r
def BN {i:Nat}{cs:am}{c d:Sm}:O_ i cs c d τ S=RS.Lx i cs d τ (c τ S):=by
 unfold O_ RS.Lx;cases c τ S<;>rfl
def Er {i:Nat}{cs:am}{d:Sm}{τ':ad}:RS.Lx i cs d τ (.nx τ' S)=.nx τ' S:=rfl
def D4 {i:Nat}{cs:am}{d:Sm}{a:A}:RS.Lx i cs d τ (.rt a S)=.rt a S:=rfl
def DX {i:Nat}{x:Str}{cs:am}{d:Sm}:RS.Lx i (x::cs) d τ (.ex x S)=OF i (d (τ.set i (.exn x)) S):=aN (.head _)
def Bd:A.A7 []=some []:=rfl
def vJ {b:Bool}{xs:ad}:A.A7 (.bl b::xs)=(A.A7 xs).map (b::·):=rfl
end
def zE:type_of% (anI @DZ (anI @y_ (anI @IU (anI @D7 (anI @F5 (anI @Fg (anI @ER (anI @JE (anI @JS (anI @J7 (anI @Kf (anI @Kg (anI @Fc (anI @IW (anI @Bd (anI @vJ (anI @By (anI @Fe (anI @LH (anI @Ft (anI @BN (anI @Er (anI @D4 (anI @DX (trivial))))))))))))))))))))))))):=anI @DZ (anI @y_ (anI @IU (anI @D7 (anI @F5 (anI @Fg (anI @ER (anI @JE (anI @JS (anI @J7 (anI @Kf (anI @Kg (anI @Fc (anI @IW (anI @Bd (anI @vJ (anI @By (anI @Fe (anI @LH (anI @Ft (anI @BN (anI @Er (anI @D4 (anI @DX (trivial))))))))))))))))))))))))
end Am
namespace L2
open PySem PySem.Spec PyProof.Rows
section
variable {P:aj}{w:ah}{A:aA}{E:af->aC->Prop}{s:aC}{it d:ak}{i ep:Nat}{es:Array DictEntry}{o:Obj}
def Rw{Q:ba->aC->Prop}(hi:s.heap.IsKeyIter it d i es.size ep)(ho:s.heap.get? d=some o)(hd:o.data=.dict es ep)(lt:i<es.size)
  (q:∀h',h'.IsKeyIter it d (i+1) es.size ep->Heap.SameBut it s.heap h'->Q (some es[i].key) { s with heap:=h' }):wpAny (model P w) A (pyNext (.ref it)) Q E s:=by
 have ty:=hi.typeIs;obtain⟨oi,hoi,hci,hdi⟩:=id hi;have own:Builtin.Dict_items.ownsTuple "dict_keyiterator" = false:=by decide
 kpc_g;have n0:¬((i:Int)<0):=by omega
 unfold pyNext;refine aG (fL (cO (name:=Str.ofString "__next__") ty cU (b7 cU ty gp ?_ (gb _))));refine aG (aJ (aG (aG ?_)))
 first
  | refine aG (dU ty (aJ (aG (dH hoi hdi ?_))))
  | refine aG (eV ty (aJ (aG (dH hoi hdi ?_))))
 dsimp[own,b8,bw];show wpAny (model P w) _ (if (Value.ref d == Value.none)=true then _ else _) _ _ s;rw[aM nn];cb_eq;kcj_m;o_rec;kcj_m;refine aJ ?_;dsimp[n0,b8,cC,cT lt];refine aG ?_
 first
  | refine aG (dU ty (aJ (aG (gZ ty ?_))))
  | refine aG (eV ty (aJ (aG (gZ ty ?_))))
 show wpAny (model P w) _ (setField (.ref it) 1 (rawInt ((i:Int)+1)) >>= _) _ _ s;refine aG (gJ hoi hdi (show _ by simp) ?_);have hi':(s.heap.update it (Obj.mapFields λfs=>fs.setIfInBounds 1 (rawInt ((i:Int)+1)))).IsKeyIter it d (i+1) es.size ep:=
  ⟨_,gX _ hoi (Obj.isFreed_of_fields (gz hdi _)),(Obj.cls_mapFields ..).trans hci,by
   rw[gz hdi];simp[rawInt]⟩
 have ty':Shared.TypeIs { s with heap:=s.heap.update it (Obj.mapFields λfs=>fs.setIfInBounds 1 (rawInt ((i:Int)+1)))} (.ref it) "dict_keyiterator" := Heap.IsKeyIter.typeIs (s:={ s with heap:=_ }) hi';refine aG (dj (aG (gZ ty' ?_)))
 skip
 exact aJ (aJ ⟨_,rfl,aJ (q _ hi' (ff ..))⟩)
def Nr{Q:ba->aC->Prop}(hh:A.handled=none)(hi:s.heap.IsKeyIter it d i es.size ep)(ho:s.heap.get? d=some o)(hd:o.data=.dict es ep)(ge:es.size<=i)
  (q:∀h',Heap.ExtBut it s.heap h'->Q none { s with heap:=h' }):wpAny (model P w) A (pyNext (.ref it)) Q E s:=by
 have ty:=hi.typeIs;obtain⟨oi,hoi,hci,hdi⟩:=id hi;have own:Builtin.Dict_items.ownsTuple "dict_keyiterator" = false:=by decide
 kpc_g;have n0:¬((i:Int)<0):=by omega
 unfold pyNext;refine aG (fL (cO (name:=Str.ofString "__next__") ty cU (b7 cU ty gp ?_ (gb _))));refine aG (aJ (aG (aG ?_)))
 first
  | refine aG (dU ty (aJ (aG (dH hoi hdi ?_))))
  | refine aG (eV ty (aJ (aG (dH hoi hdi ?_))))
 dsimp[own,b8,bw];show wpAny (model P w) _ (if (Value.ref d == Value.none)=true then _ else _) _ _ s;rw[aM nn];cb_eq;kcj_m;o_rec;kcj_m;refine aJ ?_;dsimp[n0,b8,cC,dI ge];refine aG ?_
 first
  | refine aG (dU ty (aJ ?_))
  | refine aG (eV ty (aJ ?_))
 show wpAny (model P w) _ (setField (.ref it) 0 .none >>= _) _ _ s;refine aG (gJ hoi hdi (show _ by simp) ?_)
 skip
 refine aG ?_;dsimp[newExc,newTuple];refine aG (bD (aG (m:=firstArgMember _ _) (wpAny_of_eq (a:=Value.none) (by first|rfl|(dsimp[firstArgMember];rfl)) (bD ?_ (by size_fits)))) (by size_fits));dsimp[raiseNew];have hn:A.in1.handled=none:=hh;refine aG (wpAny_handled (?_));rw[hn];refine aG (aJ (wpAny_throw (?_)));kj_on
def CN{Q:af->aC->Prop}(ty:s.TypeIs (.ref d) "dict")(hs:(d == sysModules)=false)(ho:s.heap.get? d=some o)(hd:o.data=.dict es ep)
  (q:Q (.ref s.heap.objs.size) { s with heap:=s.heap.push { cls:=.type "dict_keyiterator",data:=.fields #[.ref d,.int 0 0,.int es.size 0,.int ep 0]}}):wpAny (model P w) A (pyIter (.ref d)) Q E s:=by
 refine gK ty PySem.F.slot_dict_iter (b7 PySem.F.slot_dict_iter ty PySem.F.entry_dict_iter ?_ (PySem.F.args_dict_iter_1 _));delta Builtin.«dict.__iter__»;refine aG ?_;delta Builtin.Dict.dictSlotNone;refine aG (gY ty ?_)
 skip
 refine aJ ?_;show wpAny (model P w) _ (Builtin.Dict.showsAll d >>= _) _ _ s;delta Builtin.Dict.showsAll;have nd:¬((d == sysModules)=true):=by rw[hs];exact aY
 rw[aM nd];refine aG (aJ (aG (dg ho hd (aG (dM ho hd ?_)))));refine aG (bD (aJ ⟨_,rfl, "dict_keyiterator",_,⟨_,bg _ rfl,rfl⟩,cU.lookup,?_⟩));simpa[rawInt]using q
end
section
variable {P:aj}{w:ah}
def GF{A:aA}(hh:A.handled=none)(it d:ak)(ne:d≠it){es:Array DictEntry}{o:Obj}(hd:o.data=.dict es ep) :
  Walks P w A it [it,d] [it] es.size (λi v=>(es[i]?).map (λe=>e.key)=some v) (λi h=>h.IsKeyIter it d i es.size ep/\h.get? d=some o) where
 sub:=λb hb=>by
  rw[br.mp hb];exact aP ..
 frame:=λ_ _ _ st hk=>⟨st.1.at λx e=>hk it (aP ..) x e,hk d (aQ _ (aP ..)) o st.2⟩
 item:=λi s Q E lt st q=>Rw st.1 st.2 hd lt λh' k1 k2=>q _ h' s.toks (by rw[cT lt];rfl) ⟨k1,k2.extBut d o ne st.2⟩ λb x nb e=>k2.extBut b x (λz=>nb (br.mpr z)) e
 done:=λs Q E st q=>Nr hh st.1 st.2 hd (aS _) λh' k=>q h' s.toks λb x nb e=>k b x (λz=>nb (br.mpr z)) e
 self:=λ_ _ _ _ st q=>wpAny_pyIter_keyiter st.1 q
def N5{es:Array DictEntry}{o:Obj}(hs:(d == sysModules)=false)(hc:o.cls=.type "dict")(hd:o.data=.dict es ep) :
  PySem.W.KdlSrc P w "dict" d d es.size (λi v=>(es[i]?).map (λe=>e.key)=some v) (λh=>h.get? d=some o) where
 type:=λ_ hm=>⟨o,hm,hc⟩
 there:=λ_ hm=>⟨aX hm,aX hm⟩
 keep:=λ_ _ hm hk=>hk d (.inl rfl) o hm
 notList:=by decide
 notTuple:=by decide
 hint:=λ_ _ _ _ hm hq=>PySem.W.kdl_hint_dict ⟨o,hm,hc⟩ hq
 iter:=λ_ s hh hm=>⟨_,_,(λ_ _ hq=>CN ⟨o,hm,hc⟩ hs hm hd hq),GF hh _ d (bE (aX hm)) hd,⟨⟨_,bg _ rfl,rfl,rfl⟩,aO _ hm⟩⟩
end
section
variable {X:Cx}
def QL{H:Hp}{s:aC}{kvs:List (List Key×V)}(I:Inv X pins σ H s)(ed:H d=some (.dT kvs)) :
  ∃(ob:Obj) (es:Array DictEntry) (ep:Nat) (rs:ar),s.heap.get? d=some ob/\ob.cls=.type "dict" /\ ob.data=.dict es ep/\(d == sysModules)=false/\kvs.length<=sizeLine/\rs.length=kvs.length/\es.size=kvs.length /\
   (∀i:Nat,(es[i]?).map (λe:DictEntry=>e.key)=(rs[i]?).map Value.ref)/\∀(i:Nat) r p,rs[i]?=some r->kvs[i]?=some p->H r=some (.tup (p.1.map kV)):=by
 obtain⟨z,hd,xs,rel,dd⟩:=CC I.hok ed;obtain⟨ob,es,ep,g1,g2,g3,g4,g5,g6⟩:=id dd;obtain⟨kl,kt⟩:=kt_at rel;have hes:es.size=xs.length:=by have:=dO List.length g4;simpa using this
 refine⟨ob,es,ep,xs.map λy=>y.2.1,g1,g2.1,g3,hd,z,by rw[aL,kl],by rw[hes,kl],λi=>?_,λi r p e1 e2=>?_⟩
 ·rw[<- c5,g4,aR,aR,jC,jC]
  cases xs[i]?<;>rfl
 ·obtain⟨y,h1,h2,h3,h4⟩:=kt i p e2;rw[aR,h1]at e1
  cases e1
  exact h3
end
section
variable {P:aj}{w:ah}{A:aA}{E:af->aC->Prop}{s:aC}{it d:ak}{i ep:Nat}{es:Array DictEntry}{o:Obj}
def Q7{Q:ba->aC->Prop}(hi:s.heap.IsValIter it d i es.size ep)(ho:s.heap.get? d=some o)(hd:o.data=.dict es ep)(lt:i<es.size)
  (q:∀h',h'.IsValIter it d (i+1) es.size ep->Heap.SameBut it s.heap h'->Q (some es[i].val) { s with heap:=h' }):wpAny (model P w) A (pyNext (.ref it)) Q E s:=by
 have ty:=hi.typeIs;obtain⟨oi,hoi,hci,hdi⟩:=id hi;have own:Builtin.Dict_items.ownsTuple "dict_valueiterator" = false:=by decide
 kpc_g;have n0:¬((i:Int)<0):=()
 unfold pyNext;refine aG (fL (cO (name:=Str.ofString "__next__") ty cK (b7 cK ty f6 ?_ (fW _))));refine aG (aJ (aG (aG ?_)));refine aG (dW ty (aJ (aG (dH hoi hdi ?_))));dsimp[own,b8,bw];show wpAny (model P w) _ (if (Value.ref d == Value.none)=true then _ else _) _ _ s;rw[aM nn];cb_eq;kcj_m;o_rec;kcj_m;refine aJ ?_;dsimp[n0,b8,cC,cT lt];refine aG (aG (dW ty (aJ (aG (g_ ty ?_)))));show wpAny (model P w) _ (setField (.ref it) 1 (rawInt ((i:Int)+1)) >>= _) _ _ s;refine aG (gJ hoi hdi (show _ by simp) ?_);have hi':(s.heap.update it (Obj.mapFields λfs=>fs.setIfInBounds 1 (rawInt ((i:Int)+1)))).IsValIter it d (i+1) es.size ep:=
  ⟨_,gX _ hoi (Obj.isFreed_of_fields (gz hdi _)),(Obj.cls_mapFields ..).trans hci,by
   rw[gz hdi];simp[rawInt]⟩
 have ty':Shared.TypeIs { s with heap:=s.heap.update it (Obj.mapFields λfs=>fs.setIfInBounds 1 (rawInt ((i:Int)+1)))} (.ref it) "dict_valueiterator" := Heap.IsValIter.typeIs (s:={ s with heap:=_ }) hi';refine aG (dj (aG (g_ ty' (aG (g_ ty' ?_)))));show wpAny (model P w) _ (pure es[i].val) _ _ _;exact aJ (aJ ⟨_,rfl,aJ (q _ hi' (ff ..))⟩)
def NZ{Q:ba->aC->Prop}(hh:A.handled=none)(hi:s.heap.IsValIter it d i es.size ep)(ho:s.heap.get? d=some o)(hd:o.data=.dict es ep)(ge:es.size<=i)
  (q:∀h',Heap.ExtBut it s.heap h'->Q none { s with heap:=h' }):wpAny (model P w) A (pyNext (.ref it)) Q E s:=by
 have ty:=hi.typeIs;obtain⟨oi,hoi,hci,hdi⟩:=id hi;have own:Builtin.Dict_items.ownsTuple "dict_valueiterator" = false:=by decide
 kpc_g;have n0:¬((i:Int)<0):=()
 unfold pyNext;refine aG (fL (cO (name:=Str.ofString "__next__") ty cK (b7 cK ty f6 ?_ (fW _))));refine aG (aJ (aG (aG ?_)));refine aG (dW ty (aJ (aG (dH hoi hdi ?_))));dsimp[own,b8,bw];show wpAny (model P w) _ (if (Value.ref d == Value.none)=true then _ else _) _ _ s;rw[aM nn];cb_eq;kcj_m;o_rec;kcj_m;refine aJ ?_;dsimp[n0,b8,cC,dI ge];refine aG (aG (dW ty (aJ ?_)));show wpAny (model P w) _ (setField (.ref it) 0 .none >>= _) _ _ s;refine aG (gJ hoi hdi (show _ by simp) ?_);show wpAny (model P w) _ (newExc (.type "StopIteration") [] >>= _) _ _ _;refine aG ?_;dsimp[newExc,newTuple];refine aG (bD (aG (m:=firstArgMember _ _) (wpAny_of_eq (a:=Value.none) (by first|rfl|(dsimp[firstArgMember];rfl)) (bD ?_ (by size_fits)))) (by size_fits));dsimp[raiseNew];have hn:A.in1.handled=none:=hh;refine aG (wpAny_handled (?_));rw[hn];refine aG (aJ (wpAny_throw (?_)));kj_on
def CJ{v:ak}{Q:af->aC->Prop}(hv:s.heap.IsValuesView v d)(ho:s.heap.get? d=some o)(hd:o.data=.dict es ep)
  (q:Q (.ref s.heap.objs.size) { s with heap:=s.heap.push { cls:=.type "dict_valueiterator",data:=.fields #[.ref d,.int 0 0,.int es.size 0,.int ep 0]}}):wpAny (model P w) A (pyIter (.ref v)) Q E s:=by
 obtain⟨ov,hov,hcv,hdv⟩:=id hv;refine gK hv.typeIs iG (b7 iG hv.typeIs PySem.F.entry_dict_values_iter ?_ (PySem.F.args_dict_values_iter_1 _));delta Builtin.«dict_values.__iter__»;refine aG (aJ (aG ?_));delta Builtin.Dict_items.dictOf;refine aG (eg hov hdv (x:=.ref d) rfl (aJ (aG ?_)));delta Builtin.Dict_items.newIterator;refine aG (dg ho hd (aG (dM ho hd ?_)));have own:Builtin.Dict_items.ownsTuple "dict_valueiterator" = false:=by decide
 dsimp[own,bw,b8];refine bD (aJ ⟨_,rfl, "dict_valueiterator",_,⟨_,bg _ rfl,rfl⟩,cK.lookup,?_⟩);simpa[rawInt]using q
def C1{Q:af->aC->Prop}(ty:s.TypeIs (.ref d) "dict")(hd:(d == sysModules)=false)
  (q:Q (.ref s.heap.objs.size) { s with heap:=s.heap.push { cls:=.type "dict_values",data:=.fields #[.ref d]}}):wpAny (model P w) A (call (.builtin "dict.values") [.ref d]) Q E s:=by
 refine b7 PySem.F.slot_dict_values ty PySem.F.entry_dict_values ?_ (PySem.F.args_dict_values_1 _);delta Builtin.«dict.values»;refine aG ?_;delta Builtin.Dict.noArgs;refine aG (gY ty ?_);show wpAny (model P w) _ (pure d) _ _ s;refine aJ ?_;show wpAny (model P w) _ (Builtin.Dict.showsAll d >>= _) _ _ s;delta Builtin.Dict.showsAll;have nd:¬((d == sysModules)=true):=by rw[hd];exact aY
 rw[aM nd];exact aG (aJ (aG (bD (aJ ⟨_,rfl,q⟩))))
end
section
variable {P:aj}{w:ah}
def GI{A:aA}(hh:A.handled=none)(it d:ak)(ne:d≠it){es:Array DictEntry}{o:Obj}(hd:o.data=.dict es ep) :
  Walks P w A it [it,d] [it] es.size (λi v=>(es[i]?).map (λe=>e.val)=some v) (λi h=>h.IsValIter it d i es.size ep/\h.get? d=some o) where
 sub:=λb hb=>by
  rw[br.mp hb];exact aP ..
 frame:=λ_ _ _ st hk=>⟨let⟨x,e,r⟩:=st.1;⟨x,hk it (aP ..) x e,r⟩,hk d (aQ _ (aP ..)) o st.2⟩
 item:=λi s Q E lt st q=>Q7 st.1 st.2 hd lt λh' k1 k2=>q _ h' s.toks (by rw[cT lt];rfl) ⟨k1,k2.extBut d o ne st.2⟩ λb x nb e=>k2.extBut b x (λz=>nb (br.mpr z)) e
 done:=λs Q E st q=>NZ hh st.1 st.2 hd (aS _) λh' k=>q h' s.toks λb x nb e=>k b x (λz=>nb (br.mpr z)) e
 self:=λ_ _ _ _ st q=>wpAny_pyIter_valiter st.1 q
def MQ{r:ak}{es:Array DictEntry}{o:Obj}(hd:o.data=.dict es ep) :
  PySem.W.KdlSrc P w "dict_values" r d es.size (λi v=>(es[i]?).map (λe=>e.val)=some v) (λh=>h.IsValuesView r d/\h.get? d=some o) where
 type:=λ_ hm=>hm.1.typeIs
 there:=λ_ hm=>⟨let⟨_,ho,_⟩:=hm.1;aX ho,aX hm.2⟩
 keep:=λ_ _ hm hk=>⟨let⟨o,ho,x⟩:=hm.1;⟨o,hk r (.inl rfl) o ho,x⟩,hk d (.inr rfl) o hm.2⟩
 notList:=by decide
 notTuple:=by decide
 hint:=λ_ _ _ _ hm hq=>PySem.W.kdl_hint_values hm.1.typeIs hq
 iter:=λ_ s hh hm=>⟨_,_,(λ_ _ hq=>CJ hm.1 hm.2 hd hq),GI hh _ d (bE (aX hm.2)) hd,⟨⟨_,bg _ rfl,rfl,rfl⟩,aO _ hm.2⟩⟩
end
section
variable {X:Cx}
def Pc{H:Hp}{s:aC}{kvs:List (List Key×V)}(I:Inv X pins σ H s)(ed:H d=some (.dT kvs)) :
  ∃(ob:Obj) (es:Array DictEntry) (ep:Nat) (us:ap),s.heap.get? d=some ob/\ob.cls=.type "dict" /\ ob.dict=none/\ob.data=.dict es ep/\(d == sysModules)=false/\kvs.length<=sizeLine/\es.size=kvs.length/\Vals (kvs.map (·.2)) us/\∀i:Nat,(es[i]?).map (λe:DictEntry=>e.val)=us[i]?:=by
 obtain⟨z,hd,xs,rel,dd⟩:=CC I.hok ed;obtain⟨ob,es,ep,g1,g2,g3,g4,g5,g6⟩:=id dd;have hes:es.size=xs.length:=by have:=dO List.length g4;simpa using this
 refine⟨ob,es,ep,xs.map (·.2.2),g1,g2.1,g2.2.1,g3,hd,z,by rw[hes,(kt_at rel).1],?_,λi=>?_⟩
 ·clear g4 g5 g6 dd hes ed z
  induction rel with
  | nil=>exact .nil
  | cons a _ ih=>exact .cons a.2.2 ih
 ·rw[<- c5,g4,aR,aR,jC]
  cases xs[i]?<;>rfl
def DJ(hc:X.calm=true):j_ X (.type "list") (λxs H Q=>∃(d:ak) (kvs:List (List Key×V)),xs=[.ref d]/\H d=some (.dT kvs) /\
  ∀(rs:ar) l,rs.length=kvs.length->(∀(i:Nat) r p,rs[i]?=some r->kvs[i]?=some p->H r=some (.tup (p.1.map kV)))->H l=none->Q (.ref l) (upd H l (.lst (rs.map V.ref)))):=by
 w_up;obtain⟨d,kvs,rfl,ed,q⟩:=h;kcf_m
 cases rx
 obtain⟨ob,es,ep,rs,g1,g2,g3,g4,g5,g6,g7,g8,g9⟩:=QL I ed;refine PySem.W.kdl_call (N5 g4 g2 g3) (I.ok.hd hc) g1 (by rw[g7];exact g5) λh' tk acc c' hk hl hacc=>?_;have ea:acc.toList=rs.map Value.ref:=by
  refine bR λj=>?_;rw[c5,aR,<- g8 j]
  cases e:acc[j]? with
  | some v=>exact(hacc.2 j v e).symm
  | none=>
   have:acc.size<=j:=i7.mp e;rw[dI (by rw[<- hacc.1];exact this)];rfl
 refine⟨.ref s.heap.objs.size,_,I.laid (o:=.lst (rs.map V.ref)) (t':=tk) hk (aS _) ⟨by rw[aL,g6];exact g5,rs.map Value.ref,c',vU rs,by rw[<- ea];simpa using hl⟩,rfl,q rs _ g6 g9 I.fresh⟩
abbrev Xs (to:TE):TE:=λσ H Q=>to σ H λx H1=>∃d kvs,x=.ref d/\H1 d=some (.dT kvs)/\∀(r:ak) (o:Obj),o.cls=.type "dict_values" -> o.data=.fields #[.ref d]->H1 r=none->Q (.ref r) (upd H1 r (.frz o (.own r)))
def M5{apos cpos:Pos}{e:aE}{to:TE}(he:PE X e to)(hbase:attributeBase e "values" X.env (eval e X.env)=eval e X.env:=by rfl)(hline:(apos.endLine == cpos.line)=true:=by rfl) :
  PE X (.Call (.Attribute e "values" apos) [] [] cpos) (Xs to):=by
 x_go;refine gE hbase hline (kW (he pins s σ H _ I h) λv s1 h9=>?_);obtain⟨x,H1,I1,r1,d,kvs,ex,ed,q1⟩:=h9;subst ex
 cases r1
 obtain⟨ob,es,ep,us,g1,g2,g3,g4,g5,_⟩:=Pc I1 ed;refine⟨"dict", "dict.values",PySem.F.plainAttrs_dict,PySem.F.slot_dict_values,PySem.F.type_dict_values,⟨ob,g1,g2⟩,λa ea=>?_,dF rfl (iQ (C1 ⟨ob,g1,g2⟩ g5 ?_))⟩
 ·cases ea
  exact⟨ob,g1,g3⟩
 have hn:(s1.heap.push { cls:=.type "dict_values",data:=.fields #[.ref d]}).get? s1.heap.objs.size=some { cls:=.type "dict_values",data:=.fields #[.ref d]}:=bg _ rfl;exact⟨.ref s1.heap.objs.size,_,I1.laid (o:=.frz { cls:=.type "dict_values",data:=.fields #[.ref d]} (.own s1.heap.objs.size)) (t':=s1.toks) (λb o eb=>aO _ eb) (aS _) ⟨hn,_,hn⟩,rfl,q1 _ _ rfl rfl I1.fresh⟩
def C7(hc:X.calm=true):j_ X (.type "list") (λxs H Q=>∃(r d:ak) (o:Obj) (u:HO) (kvs:List (List Key×V)),xs=[.ref r]/\H r=some (.frz o u)/\o.cls=.type "dict_values" /\ o.data=.fields #[.ref d]/\H d=some (.dT kvs) /\
  ∀l,H l=none->Q (.ref l) (upd H l (.lst (kvs.map (·.2))))):=by
 w_up;obtain⟨r',d,o,u,kvs,rfl,er,oc,od,ed,q⟩:=h;obtain⟨v,rfl,rx⟩:=vals1 r
 cases rx
 obtain⟨ob,es,ep,us,g1,g2,g3,g4,g5,g6,g7,g8,g9⟩:=Pc I ed;have ho:s.heap.get? r'=some o:=(show kR _ _ H s.heap r' (.frz o u)from I.hok r' _ er).1;refine PySem.W.kdl_call (MQ g4) (I.ok.hd hc) ⟨⟨o,ho,oc,od⟩,g1⟩ (by rw[g7];exact g6) λh' tk acc c' hk hl hacc=>?_;have ea:acc.toList=us:=by
  refine bR λj=>?_;rw[c5,<- g9 j]
  cases e:acc[j]? with
  | some v=>exact(hacc.2 j v e).symm
  | none=>
   have:acc.size<=j:=i7.mp e;rw[dI (by rw[<- hacc.1];exact this)];rfl
 refine⟨.ref s.heap.objs.size,_,I.laid (o:=.lst (kvs.map (·.2))) (t':=tk) hk (aS _) ⟨by rw[aL];exact g6,us,c',g8,by rw[<- ea];simpa using hl⟩,rfl,q _ I.fresh⟩
end
end L2
namespace Am
open PySem PySem.Spec PyProof.Rows L2
section
abbrev UA (p:ae×A):A:=.tup (p.1.map .int)
end
section
@[irreducible] noncomputable def big:Nat:=2 ^ 4096
end
abbrev kA (p:Int×Int):A:=.ktu [.int p.1,.int p.2]
section
variable {X:Cx}
abbrev Mj (x:A)(S:jL):R A:=match x with
 | .ref n=>opt (j8 S n) λkvs=>.ok (.ref S.length) (S++[.lst (kvs.map UA)])
 | _=>.no
def Oe(hc:X.calm=true):j_ X (.type "list") (rN X (f1 Mj)):=j_.imp (DJ hc) λvs H Q h0=>by
 kd_p;clear h0
 cases hv with
 | ref hp=>
  rename_i p n;obtain⟨kvs,hn,h⟩:=jM h;obtain⟨ks,g1,dv⟩:=R.dct hp (lY hn);refine⟨p,ks,rfl,g1,λrs l hl hh hl'=>?_⟩;have dl:=dv.length;have av:AVs X.K ρ H (kvs.map UA) (rs.map V.ref):=by
   have e1:kvs.map UA=(List.range rs.length).map λi=>UA (kvs.getD i ([],.non)):=by
    refine iz (by simp[hl,dl]) λi h1 h2=>?_;simp at h1;simp[aH h1]
   have e2:rs.map V.ref=(List.range rs.length).map λi=>V.ref (rs.getD i 0):=by
    refine iz (by simp) λi h1 h2=>?_;simp at h1;simp[aH h1]
   rw[e1,e2];refine Dw λi hi=>?_;have hi:=cV.mp hi;have h1:i<kvs.length:=by rw[dl,<- hl];exact hi
   obtain⟨q,hq,q1,_⟩:=Mt dv (aH h1);have:=hh i _ q (aH hi) hq;rw[q1,wJ]at this;rw[aI,aH h1,aI,aH hi];exact .tup this (nX _)
  exact lN R av .refl h l hl'
 | _=>exact h.elim
abbrev UB (a:A)(S:jL):R A:=match a with
 | .ref n=>opt (j8 S n) λkvs=>.ok (.ref S.length) (S++[.lst (kvs.map (·.2))])
 | _=>.no
abbrev TU (c:Ex):Ex:=λτ S=>(c τ S).bind λa S1=>UB a S1
theorem KL{K:au}{H:Hp}:∀{kvs:List (ae×A)}{ks:List (List Key×V)},DV K ρ H kvs ks->AVs K ρ H (kvs.map (·.2)) (ks.map (·.2))
 | [],[],_=>.nil
 | _::_,_::_,⟨z,t⟩=>.cons z.2 (KL t)
def K8{x:Str}{p apos cpos:Pos}{e:aE}{c:Ex}(hc:X.calm=true)(hm:X.mg x=none)(hv:bootBuiltins x=some (.type "list"))(ha:AE X e c)(hg:Gl X x:=by rfl)(hn:x ≠ "__name__" := by decide)(hdb:(x == ("__debug__" : Str))=false:=by decide)
  (hbase:attributeBase e "values" X.env (eval e X.env)=eval e X.env:=by rfl) (hline:(apos.endLine == cpos.line)=true:=by rfl)
  (he:starEach [.Call (.Attribute e "values" apos) [] [] cpos] X.env=(false,eval (.Call (.Attribute e "values" apos) [] [] cpos) X.env)::starEach [] X.env:=by rfl) (hpl:(backTo pos (starEach [] X.env)).any (·.1)=false:=by rfl) :
  AE X (.Call (.Name x p) [.Call (.Attribute e "values" apos) [] [] cpos] [] pos) (TU c):=
 PE.imp (zH (C7 hc) hg hm hv (ur (M5 ha hbase hline) zN he) hn hdb he hpl) λσ H Q h9=>by
  room;refine⟨ρ,S,τ,R,r,jJ (jO h) .refl λa S1 h1 ρ1 H1 v e1 R1 v1=>?_⟩
  cases v1 with
  | ref hp=>
   rename_i p' n;obtain⟨kvs,hn,h1⟩:=jM h1;obtain⟨ks,g1,dv⟩:=R1.dct hp (lY hn);refine⟨p',ks,rfl,g1,λr' o oc od hr=>?_⟩;obtain⟨ex,R2⟩:=R1.im (u:=.frz o (.own r')) hr;exact⟨r',p',o,_,ks,rfl,kB,oc,od,by rw[jS (j6 g1 hr)];exact g1,lN R2 ((KL dv).ext ex) (e1.trans ex) h1⟩
  | _=>exact h1.elim
end
abbrev u9 (o:A)(as:ad)(S:jL):R A:=match o,as with
 | .ref n,[x]=>(match x with
  | .int b=>opt (jH S n) λxs=>opt (A.ints xs) λbs=>.ok (.int (bs.countP (· == b):Nat)) S
  | _=>.no)
 | _,_=>.no
abbrev isIn (b:Int):af->Bool
 | .int c _=>c == b
 | _=>false
theorem Je(b:Int):∀{bs:ae}{its:ap},Vals (bs.map V.int) its->its.countP (isIn b)=bs.countP (· == b)/\∀z∈its,∃c t,z=.int c t
 | [],_,.nil=>⟨rfl,nofun⟩
 | c::bs,_::its,.cons r rs=>by
  obtain⟨h1,h2⟩:=Je b (bs:=bs) rs;obtain⟨t,rfl⟩:=r;refine⟨by rw[bT,bT,h1];rfl,λz hz=>?_⟩
  rcases bP.mp hz with rfl|hz
  ·exact⟨c,t,rfl⟩
  ·exact h2 z hz
section
variable {X:Cx}
def HS(hu:X.A.units+64<cLine):Jf X "list.count" (rM X u9):=λpins s σ H x vs v us Q I rx rv h9=>by
 obtain⟨ρ,S,o,as,R,vo,va,h⟩:=h9
 cases vo with
 | @ref p n hp=>
  match as,va,h with
  | [],_,h=>exact h.elim
  | _::_::_,_,h=>exact h.elim
  | [y],va,h=>
   cases y with
   | int b=>
    obtain⟨w,rfl,hw⟩:=DF va;kt_k;obtain⟨bs,hbs,h⟩:=jM h;obtain⟨ws,h1,r⟩:=R.lst hp (jU hn)
    cases rx
    obtain⟨u,rfl,ru⟩:=rv.one;obtain⟨its,rv,pl,hsz⟩:=I.list (nH.of h1);obtain⟨⟨cls,dd,data,sl⟩,ho,hc,nn,hd⟩:=id pl.isList;simp only at hc hd;subst hc hd;have ew:=qE r hbs;subst ew;obtain⟨c1,c2⟩:=Je b rv;refine fQ F.slot_list_count ⟨_,ho,rfl⟩ F.entry_list_count (F.args_list_count_2 _ _) (SeqAt.list_countAt p its.toArray nn dd sl u (isIn b)) ⟨ho,λz hz=>?_,.int (bs.countP (· == b):Nat),H,I.tok _,⟨s.toks,by rw[List.toList_toArray,c1]⟩,h _ _ _ .refl R (.int _)⟩
    ·obtain⟨c,t,rfl⟩:=c2 z (List.mem_toArray.mp hz);exact(Cs I R 12 X.A.in1 (.int c) (.int b) (.int c) w (.int c t) u (c == b) (by rw[in1_units];lia) (.int c) hw ⟨t,rfl⟩ ru rfl).2.1
   | _=>exact h.elim
 | _=>exact h.elim
end
abbrev Df (K:au)(x:Str)(st:aF):Prop:=∃(f:ak) (fd:FuncData),PySem.W.nsIn K mainGlobals x=some (some (.ref f))/\Fun K x x st f fd
inductive En (P:aj) (w:ah) (K:au) (mg:Str->ba) (base:aq):Prop
 | mk (h:aq) (X:K.In h) (G:h.Ns mainGlobals mg)
section
variable {P:aj}{w:ah}{K:au}{mg:Str->ba}{base:aq}{x:Str}{st:aF}{ps:am}{k:Nat}{F:ad->jL->R A}
def En.at(E:En P w K mg base){f:ak}(h:PySem.W.nsIn K mainGlobals x=some (some (.ref f))):mg x=some (.ref f):=by
 obtain⟨_,X,G⟩:=E;exact gq X G h
def Df.of{f:ak}{kV pm ct:af}(a:PySem.W.nsIn K mainGlobals x=some (some (.ref f)))(l:K.lookup f=some ⟨oc,od,.func (PySem.W.fnOf x x (sD st) (pB st) (jV st) .none kV doc pm an cdv ct),osl⟩)(c:PySem.W.codeIn K cdv x=true)(k:PySem.W.keepIn K (.ref f)=true):Df K x st:=⟨f,_,a,QG l c k⟩
meta abbrev Bi (x:Str)(st:aF)(ps:am):Prop:=∀us:ap,us.length=ps.length->∀(kV doc pm:af) (an:Option ak) (cdv ct:af),bindArgs (PySem.W.fnOf x x (sD st) (pB st) (jV st) .none kV doc pm an cdv ct) ⟨us,[]⟩=pure (ps.zip us)
def Df.get(d:Df K x st)(E:En P w K mg base)(b:Bi x st ps):∃f fd,Fun K x x st f fd/\mg x=some (.ref f)/\PySem.W.keepIn K (.ref f)=true/\Binds K fd ps []:=by
 obtain⟨f,fd,a,F⟩:=d;exact⟨f,fd,F,E.at a,F.kp,F.binds λkV doc pm an cdv ct us hl=>b us hl kV doc pm an cdv ct⟩
def Df.kA(d:Df K x st)(E:En P w K mg base)(h:∀{f fd},Fun K x x st f fd->FnOk P w K mg base qy k f fd ps (rq K ps.length F))(b:Bi x st ps):qP P w K mg base k x ps F:=by
 obtain⟨f,fd,a,c,e,g⟩:=d.get E b;exact⟨f,fd,h a,c,e,g⟩
end
section
variable {X:Cx}{pos p:Pos}{e1 e2 e3:aE}{x p1 p2 p3:Str}{k K0:Nat}{F:ad->jL->R A}{c1 c2 c3:Ex}
def zO(G:qP X.prog X.w X.K X.mg X.base k x [p1] F)(hr:Room K0 X.A)(h1:AE X e1 c1)(hk:k<=K0:=by decide)(hg:Gl X x:=by rfl)(hdb:(x == ("__debug__" : Str))=false:=by decide)(s1:starEach [e1] X.env=(false,eval e1 X.env)::starEach [] X.env:=by rfl)(hp:(backTo pos (starEach [] X.env)).any (·.1)=false:=by rfl):AE X (.Call (.Name x p) [e1] [] pos) (eFn F (jG c1 jQ)):=F0 G (hr.mono hk) (jI h1 jT s1) (l6 wU) hg hdb s1 hp
def yN(G:qP X.prog X.w X.K X.mg X.base k x [p1,p2] F)(hr:Room K0 X.A)(h1:AE X e1 c1)(h2:AE X e2 c2)(hk:k<=K0:=by decide)(hg:Gl X x:=by rfl)(hdb:(x == ("__debug__" : Str))=false:=by decide)(s1:starEach [e1,e2] X.env=(false,eval e1 X.env)::starEach [e2] X.env:=by rfl)(s2:starEach [e2] X.env=(false,eval e2 X.env)::starEach [] X.env:=by rfl)(hp:(backTo pos (starEach [e2] X.env)).any (·.1)=false:=by rfl):AE X (.Call (.Name x p) [e1,e2] [] pos) (eFn F (jG c1 (jG c2 jQ))):=F0 G (hr.mono hk) (jI h1 (jI h2 jT s2) s1) (l6 (l6 wU)) hg hdb s1 hp
def WZ(G:qP X.prog X.w X.K X.mg X.base k x [p1,p2,p3] F)(hr:Room K0 X.A)(h1:AE X e1 c1)(h2:AE X e2 c2)(h3:AE X e3 c3)(hk:k<=K0:=by decide)(hg:Gl X x:=by rfl)(hdb:(x == ("__debug__" : Str))=false:=by decide)(s1:starEach [e1,e2,e3] X.env=(false,eval e1 X.env)::starEach [e2,e3] X.env:=by rfl)(s2:starEach [e2,e3] X.env=(false,eval e2 X.env)::starEach [e3] X.env:=by rfl)(s3:starEach [e3] X.env=(false,eval e3 X.env)::starEach [] X.env:=by rfl)(hp:(backTo pos (starEach [e2,e3] X.env)).any (·.1)=false:=by rfl):AE X (.Call (.Name x p) [e1,e2,e3] [] pos) (eFn F (jG c1 (jG c2 (jG c3 jQ)))):=F0 G (hr.mono hk) (jI h1 (jI h2 (jI h3 jT s3) s2) s1) (l6 (l6 (l6 wU))) hg hdb s1 hp
def vh{N P:am}{sc:Scope}(a:sc.kind=.function)(b:sc.isCoroutine=false)(c:sc.isGenerator=false)(h:N.Nodup/\N.take P.length=P/\(∀x∈P,sc.names.lookup x=some .local\/sc.names.lookup x=some .cell)/\∀y∈sc.names,y.2≠.free):FnScope N P sc:=⟨a,b,c,h.1,h.2.1,h.2.2.1,h.2.2.2⟩
end
end Am
namespace Bl
open L2
abbrev cnt:ae->Int->Int
 | [],_=>0
 | x::l,j=>(if j<=x then 1 else 0)+cnt l j
abbrev Below (xs ys:ae):Prop:=∀(i:Nat) (j:Int),cnt (xs.take i) j<=cnt (ys.take i) j
def Below.refl(xs:ae):Below xs xs:=λ_ _=>eo _
def Below.trans{a c:ae}(h:Below a b)(k:Below b c):Below a c:=λi j=>Int.le_trans (h i j) (k i j)
def cnt_append(a b:ae)(j:Int):cnt (a++b) j=cnt a j+cnt b j:=by
 induction a with
 | nil=>simp[cnt]
 | cons x a ih=>rw[List.cons_append,cnt,cnt,ih];lia
def qj{a:ae}(p:a.Perm b)(j:Int):cnt a j=cnt b j:=by
 induction p with
 | nil=>rfl
 | cons x _ ih=>rw[cnt,cnt,ih]
 | swap x y l=>rw[cnt,cnt,cnt,cnt];lia
 | trans _ _ h1 h2=>exact h1.trans h2
def take_snoc{l:ae}{i:Nat}(h:i<l.length):l.take (i+1)=l.take i++[l[i]]:=by
 rw[jD,aH h];rfl
def kY{l:ae}{i:Nat}(h:i<l.length)(j:Int):cnt (l.take (i+1)) j=cnt (l.take i) j+(if j<=l[i]then 1 else 0):=by
 rw[take_snoc h,cnt_append,cnt,cnt];lia
def wF{l:ae}{p:Nat}(h:p<l.length)(v:Int)(i:Nat)(j:Int) :
  cnt ((l.set p v).take i) j=cnt (l.take i) j+(if p<i then(if j<=v then 1 else 0)-(if j<=l[p]then 1 else 0)else 0):=by
 induction l generalizing p i with
 | nil=>cases h
 | cons x l ih=>
  cases i with
  | zero=>simp[cnt]
  | succ i=>
   cases p with
   | zero=>
    show(if j<=v then 1 else 0)+cnt (l.take i) j=(if j<=x then 1 else 0)+cnt (l.take i) j+_;rw[aN (jq _)];show _=(if j<=x then 1 else 0)+cnt (l.take i) j+((if j<=v then 1 else 0)-(if j<=x then 1 else 0))
    lia
   | succ p=>
    show(if j<=x then 1 else 0)+cnt ((l.set p v).take i) j=(if j<=x then 1 else 0)+cnt (l.take i) j+_;have hp:p<l.length:=gR h;rw[ih hp];by_cases z:p<i
    ·rw[aN z,aN (Nat.succ_lt_succ z)];show _=(if j<=x then 1 else 0)+cnt (l.take i) j+((if j<=v then 1 else 0)-(if j<=l[p]then 1 else 0))
     lia
    ·rw[aM z,aM (λy=>z (gR y))]
     lia
def v_{l:ae}{p q:Nat}(hp:p<l.length)(hq:q<l.length)(hpq:p<q)(h:l[p]<l[q]):Below l ((l.set p l[q]).set q l[p]):=by
 intro i j;have hq':q<(l.set p l[q]).length:=by rw[bN];exact hq
 rw[wF hq',wF hp];have e:(l.set p l[q])[q]=l[q]:=by rw[List.getElem_set_ne (bE hpq)]
 rw[e]
 (repeat' split)<;>lia
def JO(l:ae)(i:Nat)(j:Int):cnt (l.drop i) j=cnt l j-cnt (l.take i) j:=by
 have:=cnt_append (l.take i) (l.drop i) j;rw[b_]at this
 lia
abbrev n_ (a b:ae):Prop:=a.length=b.length/\∀(p:Nat) (h:p<a.length),b[(a[p]-1).toNat]?=some ((p:Int)+1)
abbrev lO (f:Int->Int):ae->Int
 | []=>0
 | x::l=>f x+lO f l
def Dv{f:Int->Int}{a:ae}(p:a.Perm b):lO f a=lO f b:=by
 induction p with
 | nil=>rfl
 | cons x _ ih=>rw[lO,lO,ih]
 | swap x y l=>rw[lO,lO,lO,lO];lia
 | trans _ _ h1 h2=>exact h1.trans h2
theorem rF{f g:Int->Int}:∀{l:ae},(∀x∈l,f x=g x)->lO f l=lO g l
 | [],_=>rfl
 | x::l,h=>by rw[lO,lO,h x aP,rF λy hy=>h y (aQ _ hy)]
def KH(b:ae)(j:Int):∀(i s:Nat),lO (λt=>if t<=(s:Int)+i then(if j<=(b.getD (t-1-s).toNat 0)then 1 else 0)else 0) (jX ((s:Int)+1) ((s:Int)+1+b.length))=cnt (b.take i) j:=by
 induction b with
 | nil=>
  intro i s;have:jX ((s:Int)+1) ((s:Int)+1+(([]:ae).length:Nat))=[]:=by
   apply dw.mp;rw[kL];simp
  rw[this];simp[lO,cnt]
 | cons x b ih=>
  intro i s;have er:jX ((s:Int)+1) ((s:Int)+1+((x::b).length:Nat))=((s:Int)+1)::jX (((s+1:Nat):Int)+1) (((s+1:Nat):Int)+1+b.length):=by
   unfold jX;rw[show((s:Int)+1+((x::b).length:Nat)-((s:Int)+1)).toNat=b.length+1 by rw[bF];lia,show(((s+1:Nat):Int)+1+b.length-(((s+1:Nat):Int)+1)).toNat=b.length by lia,gP,bI,bJ];refine List.cons_eq_cons.mpr ⟨(),?_⟩;apply cD;intro k _;show(s:Int)+1+((k+1:Nat):Int)=_
   lia
  rw[er,lO]
  cases i with
  | zero=>
   have z:lO (λt=>if t<=(s:Int)+(0:Nat)then(if j<=((x::b).getD (t-1-s).toNat 0)then 1 else 0)else 0) (jX (((s+1:Nat):Int)+1) (((s+1:Nat):Int)+1+b.length))=lO (λ_=>0) (jX (((s+1:Nat):Int)+1) (((s+1:Nat):Int)+1+b.length)):=rF λt ht=>by
    have:=kG.mp ht;rw[aM ()]
   rw[z,aM ()];have zz:∀l:ae,lO (λ_=>0) l=0:=λl=>by
    induction l with
    | nil=>rfl
    | cons y l ih=>rw[lO,ih];rfl
   rw[zz];rfl
  | succ i=>
   have:=ih i (s+1);show _=(if j<=x then 1 else 0)+cnt (b.take i) j;rw[<- this,aN (),show((s:Int)+1-1-s).toNat=0 by lia]
   skip
   congr 1;refine rF λt ht=>?_;have ht':=kG.mp ht;have e1:(t-1-(s:Int)).toNat=(t-1-((s+1:Nat):Int)).toNat+1:=()
   rw[e1,List.getD_cons_succ];by_cases z:t<=(s:Int)+((i+1:Nat):Int)
   ·have z':t<=((s+1:Nat):Int)+i:=()
    rw[aN z,aN z']
   ·have z':¬t<=((s+1:Nat):Int)+i:=()
    rw[aM z,aM z']
theorem yK(i:Int)(q:Nat):∀(a:ae) (s:Nat) (f:Int->Int),(∀(p:Nat) (h:p<a.length),f a[p]=if q<=s+p then(if a[p]<=i then 1 else 0)else 0)->lO f a=((a.drop (q-s)).length:Int)-cnt (a.drop (q-s)) (i+1)
 | [],s,f,_=>by simp[lO,cnt]
 | x::a,s,f,hf=>by
  have h0:=hf 0 (jq _);have ih:=yK i q a (s+1) f λp h=>by
   have:=hf (p+1) (Nat.succ_lt_succ h);rw[show s+1+p=s+(p+1)by lia];exact this
  rw[lO,ih];have h0':f x=if q<=s then(if x<=i then 1 else 0)else 0:=h0
  rw[h0'];by_cases z:q<=s
  ·rw[show q-s=0 by lia,show q-(s+1)=0 by lia,aN z];show _=(((x::a).length:Nat):Int)-cnt (x::a) (i+1);rw[cnt,bF,i6];split<;>split<;>lia
  ·rw[aM z,show q-s=(q-(s+1))+1 by lia];show 0+_=((a.drop (q-(s+1))).length:Int)-cnt (a.drop (q-(s+1))) (i+1)
   lia
def NQ(n:Nat)(i:Int)(h0:0<=i)(h1:i<=n):cnt (jX 1 (n+1)) (i+1)=n-i:=by
 unfold jX;rw[show((n:Int)+1-1).toNat=n by lia]
 induction n with
 | zero=>simp[cnt];lia
 | succ n ih=>
  rw[jy,bU,cnt_append];show _+((if i+1<=1+(n:Int)then 1 else 0)+0)=_;by_cases z:i<=n
  ·rw[ih z,aN ()];lia
  ·have e:i=(n:Int)+1:=()
   rw[aM ()];have:cnt ((List.range n).map λk:Nat=>(1:Int)+k) (i+1)=0:=by
    have z2:∀l:ae,(∀x∈l,x<i+1)->cnt l (i+1)=0:=λl=>by
     induction l with
     | nil=>intro _;rfl
     | cons x l ih=>intro h;rw[cnt,aM (by have:=h x aP;lia),ih λy hy=>h y (aQ _ hy)];rfl
    refine z2 _ λx hx=>?_;obtain⟨k,hk,rfl⟩:=bH.mp hx;have:=cV.mp hk
    lia
   rw[this];lia
def uP{a b:ae}{n:Nat}(p:a.Perm (jX 1 (n+1)))(h:n_ a b){i q:Nat}(hi:i<=n)(hq:q<=n):cnt (b.take i) ((q:Int)+1)=(i:Int)-q+cnt (a.take q) ((i:Int)+1):=by
 have hla:a.length=n:=by rw[p.length_eq,kL];lia
 have hlb:b.length=n:=by rw[<- h.1,hla]
 have s1:=KH b ((q:Int)+1) i 0;rw[hlb]at s1;have s2:lO (λt=>if t<=((0:Nat):Int)+i then(if (q:Int)+1<=(b.getD (t-1-((0:Nat):Int)).toNat 0)then 1 else 0)else 0) a=((a.drop (q-0)).length:Int)-cnt (a.drop (q-0)) ((i:Int)+1):=yK i q a 0 _ λk hk=>by
  have e:=h.2 k hk;have e2:b.getD (a[k]-1-((0:Nat):Int)).toNat 0=(k:Int)+1:=by
   rw[show a[k]-1-((0:Nat):Int)=a[k]-1 by lia,aI,e];rfl
  skip
  rw[e2]
  (repeat' split)<;>first|rfl|lia
 have s3:=Dv (f:=λt=>if t<=((0:Nat):Int)+i then(if (q:Int)+1<=(b.getD (t-1-((0:Nat):Int)).toNat 0)then 1 else 0)else 0) p;have er:jX (((0:Nat):Int)+1) (((0:Nat):Int)+1+n)=jX 1 (n+1):=by
  rw[show(((0:Nat):Int)+1)=1 by lia,show((1:Int)+n)=n+1 by lia]
 rw[er]at s1;have c1:=JO a q ((i:Int)+1);rw[qj p,NQ n i () ()]at c1;rw[jo,cN,hla]at s2
 lia
def C4{a b a' b':ae}{n:Nat}(pa:a.Perm (jX 1 (n+1)))(pb:b.Perm (jX 1 (n+1)))(ha:n_ a a')(hb:n_ b b')(pa':a'.Perm (jX 1 (n+1)))(pb':b'.Perm (jX 1 (n+1))):Below a' b' ↔ Below a b:=by
 have la:a.length=n:=by rw[pa.length_eq,kL];lia
 have lb:b.length=n:=by rw[pb.length_eq,kL];lia
 have out:∀{x y:ae},x.Perm (jX 1 (n+1))->y.Perm (jX 1 (n+1))->(∀(i q:Nat),i<=n->q<=n->cnt (x.take i) ((q:Int)+1)<=cnt (y.take i) ((q:Int)+1))->Below x y:=by
  intro x y px py h i j;have lx:x.length=n:=by rw[px.length_eq,kL];lia
  have ly:y.length=n:=by rw[py.length_eq,kL];lia
  have low:∀(l:ae),(∀z∈l,j<=z)->cnt l j=l.length:=λl=>by
   induction l with
   | nil=>intro _;rfl
   | cons z l ih=>intro hh;rw[cnt,aN (hh z aP),ih λy hy=>hh y (aQ _ hy),bF];lia
  have high:∀(l:ae),(∀z∈l,z<j)->cnt l j=0:=λl=>by
   induction l with
   | nil=>intro _;rfl
   | cons z l ih=>intro hh;rw[cnt,aM (by have:=hh z aP;lia),ih λy hy=>hh y (aQ _ hy)];rfl
  have rx:∀z∈x,1<=z/\z<(n:Int)+1:=λz hz=>kG.mp (px.mem_iff.mp hz);have ry:∀z∈y,1<=z/\z<(n:Int)+1:=λz hz=>kG.mp (py.mem_iff.mp hz);by_cases z1:j<=1
  ·rw[low _ λz hz=>by have:=(rx z (bL hz)).1;lia,low _ λz hz=>by have:=(ry z (bL hz)).1;lia,bB,bB,lx,ly];exact eo _
  ·by_cases z2:(n:Int)+1<=j
   ·rw[high _ λz hz=>by have:=(rx z (bL hz)).2;lia,high _ λz hz=>by have:=(ry z (bL hz)).2;lia];exact eo _
   ·obtain⟨q,rfl⟩:∃q:Nat,j=(q:Int)+1:=⟨(j-1).toNat,()⟩;by_cases hi:i<=n
    ·exact h i q hi ()
    ·rw[cF (),cF (),qj px,qj py];exact eo _
 constructor
 ·intro h;refine out pa pb λq i hq hi=>?_;have:=h i ((q:Int)+1);rw[uP pa ha hi hq,uP pb hb hi hq]at this
  lia
 ·intro h;refine out pa' pb' λi q hi hq=>?_;rw[uP pa ha hi hq,uP pb hb hi hq];have:=h q ((i:Int)+1)
  lia
def GO{x y:ae}{n:Nat}(px:x.Perm (jX 1 (n+1)))(py:y.Perm (jX 1 (n+1))):(∀(i q:Nat),i<n->q<n->cnt (x.take (i+1)) ((q:Int)+1)<=cnt (y.take (i+1)) ((q:Int)+1)) ↔ Below x y:=by
 have lx:x.length=n:=by rw[px.length_eq,kL];lia
 have ly:y.length=n:=by rw[py.length_eq,kL];lia
 constructor
 ·intro h i j;have rx:∀z∈x,1<=z/\z<(n:Int)+1:=λz hz=>kG.mp (px.mem_iff.mp hz);have ry:∀z∈y,1<=z/\z<(n:Int)+1:=λz hz=>kG.mp (py.mem_iff.mp hz);have low:∀(l:ae),(∀z∈l,j<=z)->cnt l j=l.length:=λl=>by
   induction l with
   | nil=>intro _;rfl
   | cons z l ih=>intro hh;rw[cnt,aN (hh z aP),ih λy hy=>hh y (aQ _ hy),bF];lia
  have high:∀(l:ae),(∀z∈l,z<j)->cnt l j=0:=λl=>by
   induction l with
   | nil=>intro _;rfl
   | cons z l ih=>intro hh;rw[cnt,aM (by have:=hh z aP;lia),ih λy hy=>hh y (aQ _ hy)];rfl
  by_cases z1:j<=1
  ·rw[low _ λz hz=>by have:=(rx z (bL hz)).1;lia,low _ λz hz=>by have:=(ry z (bL hz)).1;lia,bB,bB,lx,ly];exact eo _
  ·by_cases z2:(n:Int)+1<=j
   ·rw[high _ λz hz=>by have:=(rx z (bL hz)).2;lia,high _ λz hz=>by have:=(ry z (bL hz)).2;lia];exact eo _
   ·obtain⟨q,rfl⟩:∃q:Nat,j=(q:Int)+1:=⟨(j-1).toNat,()⟩;by_cases hi:i<=n
    ·cases i with
     | zero=>simp[cnt]
     | succ i=>exact h i q () ()
    ·rw[cF (),cF (),qj px,qj py];exact eo _
 ·exact λh i q _ _=>h (i+1) ((q:Int)+1)
end Bl
namespace Am
open PySem L2 Bl
abbrev mK:Nat->Int->ae->ae
 | 0,_,ms=>ms
 | _+1,_,[]=>[]
 | x+1,d,m::ms=>(m+d)::mK x d ms
theorem vn:∀(x:Nat) (d:Int) (ms:ae),(mK x d ms).length=ms.length
 | 0,_,_=>rfl
 | _+1,_,[]=>rfl
 | x+1,d,m::ms=>dO (·+1) (vn x d ms)
theorem sA:∀(x:Nat) (d:Int) (ms:ae) (j:Nat),(mK x d ms)[j]?=(ms[j]?).map λm=>if j<x then m+d else m
 | 0,d,ms,j=>by simp[mK]
 | _+1,_,[],j=>by simp[mK]
 | x+1,d,m::ms,0=>by simp[mK]
 | x+1,d,m::ms,j+1=>by
  show(mK x d ms)[j]?=_;rw[sA x d ms j];simp
theorem xg:∀(x:Nat) (d:Int) (ms:ae) (m:Int),ms[x]?=some m->(mK x d ms).set x (m+d)=mK (x+1) d ms
 | 0,d,[],m,h=>by simp at h
 | 0,d,k::ms,m,h=>by simp at h;subst h;rfl
 | x+1,d,[],m,h=>by simp at h
 | x+1,d,k::ms,m,h=>by
  show(k+d)::(mK x d ms).set x (m+d)=(k+d)::mK (x+1) d ms;rw[xg x d ms m (by simpa using h)]
abbrev qf (n:Nat)(xs ys:ae)(t:Nat):ae:=(List.range n).map λ(j:Nat)=>cnt (xs.take t) ((j:Int)+1)-cnt (ys.take t) ((j:Int)+1)
def nQ{n:Nat}{t:Nat}:(qf n xs ys t).length=n:=by simp[qf]
def qe{n:Nat}{xs ys:ae}{t j:Nat}(h:j<n):(qf n xs ys t)[j]?=some (cnt (xs.take t) ((j:Int)+1)-cnt (ys.take t) ((j:Int)+1)):=by
 unfold qf;rw[aR,cj h];rfl
def N8{n:Nat}:qf n xs ys 0=List.replicate n 0:=by
 unfold qf;refine bR λj=>?_;rw[aR,gC];by_cases hj:j<n
 ·rw[cj hj,aN hj];simp[cnt]
 ·rw[bG (by simpa using hj),aM hj];rfl
def Dl{n:Nat}{xs ys:ae}{t:Nat}(hx:t<xs.length)(hy:t<ys.length):mK ys[t].toNat (-1) (mK xs[t].toNat 1 (qf n xs ys t))=qf n xs ys (t+1):=by
 refine bR λj=>?_;rw[sA,sA];by_cases hj:j<n
 ·rw[qe hj,qe hj,kY hx,kY hy,eN,eN];congr 1;have e1:(j<xs[t].toNat)=((j:Int)+1<=xs[t]):=by apply propext;lia
  have e2:(j<ys[t].toNat)=((j:Int)+1<=ys[t]):=by apply propext;lia
  dsimp[e1,e2];split<;>split<;>lia
 ·rw[bG (by rw[nQ];lia),bG (by rw[nQ];lia)];rfl
theorem yE:∀{ns:ae},ns≠[]->∃m,maxOf ns=some m
 | [],h=>absurd rfl h
 | [x],_=>⟨x,rfl⟩
 | x::y::ys,_=>by
  obtain⟨m,e⟩:=yE (ns:=y::ys) (by simp);exact⟨if m>x then m else x,by show(maxOf (y::ys)).map _=_;rw[e];rfl⟩
def Ln{n:Nat}{ns:ae}(h:jH S n=some (ns.map .int))(h0:ns≠[]):∃m,Lr (.ref n) S=.ok (.int m) S/\m∈ns/\∀a∈ns,a<=m:=by
 obtain⟨m,e⟩:=yE h0;refine⟨m,?_,xX e⟩;show opt (jH S n) _=_;rw[h,j3,ints_map,j3,e,j3]
def O0{S:jL}{n:Nat}{x:A}{k:Nat}(h:jH S n=some [x])(hk:k<=16777216):vd (.ref n) (.int k) S=.ok (.ref S.length) (S++[.lst (List.replicate k x)]):=by
 show opt (jH S n) _=_;rw[h,j3];have e:(List.replicate k [x]).flatten=List.replicate k x:=by
  induction k with
  | zero=>rfl
  | succ k ih=>rw[dc,dY,ih ()];rfl
 rw[lC ⟨(),(),by rw[c7,cC];simpa using hk⟩,cC,e]
def BR{xs:ae}{n:Int}(h:xs.Perm (jX 1 (n+1)))(hn:0<=n):(xs.length:Int)=n:=by
 rw[h.length_eq,kL];lia
def BQ{xs:ae}{n x:Int}(h:xs.Perm (jX 1 (n+1)))(hx:x∈xs):1<=x/\x<=n:=by
 have:=kG.mp (h.mem_iff.mp hx)
 lia
end Am
namespace Tb
abbrev fg (r:ae)(x:Int):Nat:=r.findIdx λy=>decide (x<y)
abbrev put:List (ae)->Int->List (ae)
 | [],x=>[[x]]
 | r::rs,x=>if fg r x=r.length then(r++[x])::rs else r.set (fg r x) x::put rs (r.getD (fg r x) 0)
abbrev row:List (ae)->Int->Nat
 | [],_=>0
 | r::rs,x=>if fg r x=r.length then 0 else row rs (r.getD (fg r x) 0)+1
abbrev add:List (ae)->Nat->Int->List (ae)
 | [],_,k=>[[k]]
 | q::qs,0,k=>(q++[k])::qs
 | q::qs,i+1,k=>q::add qs i k
abbrev gs (r:ae)(x:Int):ag:=(List.range r.length).filter λk=>decide (x<r.getD k 0)
end Tb
namespace Am
open PySem L2
abbrev Rows (S:jL):ag->List (ae)->Prop
 | [],[]=>True
 | r::rs,x::T=>jH S r=some (x.map .int)/\Rows S rs T
 | _,_=>False
structure Tab (S:jL)(n:Nat)(rs:ag)(T:List (ae)):Prop where
 top:jH S n=some (rs.map .ref)
 rows:Rows S rs T
 nd:(n::rs).Nodup
def eq_nil{a:Nat}{xs:ad}(h:jH S a=some xs)(h':jH S b=some []):B5 S 12 (.ref a) (.ref b)=some xs.isEmpty:=by
 show(jH S a).bind (λxs=>(jH S b).bind λys=>wu (B5 S 11) xs ys)=_;rw[h,dB,h',dB]
 cases xs<;>rfl
def Uh{a:Nat}{xs ys:ae}(h:jH S a=some (xs.map .int))(h':jH S b=some (ys.map .int)):B5 S 12 (.ref a) (.ref b)=some (decide (xs=ys)):=by
 show(jH S a).bind (λxs=>(jH S b).bind λys=>wu (B5 S 11) xs ys)=_;rw[h,dB,h',dB];exact zx xs ys
def Lc{a:A}{k:Bool}(h:B5 S 12 a b=some k):HE true a b S=.ok (.bl (!k)) S:=by unfold HE;rw[h];rfl
def KU{xs:ad}{n:Nat}{src:Ic}{t:Te}{e:Ex}{S:jL}(hs:src τ S=.ok (mP n xs.length) S)(hx:jH S n=some xs)(p:A->Bool)(f:A->A)
  (ht:∀x∈xs,t (x::nN cap τ) S=.ok (p x) S) (he:∀x∈xs,p x=true->e (x::nN cap τ) S=.ok (f x) S) (hl:xs.length<=16777216) :
  kM (none::cap) src (kO 0) t e τ S=.ok (.ref S.length) (S++[.lst ((xs.filter p).map f)]):=by
 have hm:∀i,i<xs.length->xs.getD i .unb∈xs:=λi hi=>by
  rw[aI,aH hi];exact c_ hi
 rw[vI hs (λi=>xs.getD i .unb) (λi=>p (xs.getD i .unb)) (λi=>f (xs.getD i .unb)) (λi hi=>by
  have hi:i<xs.length:=hi;show(jH S n).bind _=_;rw[hx,dB,aI,aH hi];rfl) (by
   show(match jH S n with
    | some ys=>decide (ys.length<=xs.length)
    | none=>false)=true
   rw[hx];simp) (λi hi=>ht _ (hm i hi)) (λi hi=>he _ (hm i hi)) hl]
 have:=nJ xs p f .unb;show R.ok _ (S++[O.lst (((List.range xs.length).filter _).map _)])=_;rw[this]
def getD_at{r:ae}{k:Nat}(h:k<r.length):r[k]?=some (r.getD k 0):=by rw[aI,aH h];rfl
end Am
namespace Wd
open Bl L2
abbrev ex (l:ae)(k:Nat):ae:=(l.set (k-1) (l.getD k 0)).set k (l.getD (k-1) 0)
abbrev led (l:ae)(w:ag):ae:=w.foldl ex l
def j7{l:ae}{k:Nat}(h:k<l.length):l.getD k 0=l[k]:=by rw[aI,aH h];rfl
def zy{l:ae}{k:Nat}(h0:1<=k)(h:k<l.length):ex l k=(l.set (k-1) l[k]).set k (l[k-1]'()):=by
 unfold ex;rw[j7 h,j7 (show k-1<l.length by lia)]
def mz(l:ae)(k:Nat):(ex l k).length=l.length:=by unfold ex;rw[bN,bN]
theorem wK:∀(w:ag) (l:ae),(led l w).length=l.length
 | [],_=>rfl
 | k::w,l=>by show(led (ex l k) w).length=_;rw[wK w,mz]
def zR{l:ae}{k:Nat}(h0:1<=k)(h:k<l.length):(ex l k).Perm l:=by
 rw[zy h0 h];exact List.set_set_perm () h
theorem uV:∀{w:ag}{l:ae},(∀k∈w,1<=k/\k<l.length)->(led l w).Perm l
 | [],_,_=>dS _
 | k::w,l,h=>by
  have hk:=h k (aP ..);show(led (ex l k) w).Perm l;exact(uV λm hm=>by rw[mz];exact h m (aQ _ hm)).trans (zR hk.1 hk.2)
def wY(a b:ag)(l:ae):led l (a++b)=led (led l a) b:=List.foldl_append
def vO{l:ae}{k:Nat}(h0:1<=k)(h:k<l.length)(i:Nat)(j:Int) :
  cnt ((ex l k).take i) j=cnt (l.take i) j+(if i=k then(if j<=l[k]then 1 else 0)-(if j<=l[k-1]'()then 1 else 0)else 0):=by
 rw[zy h0 h];have hq':k<(l.set (k-1) l[k]).length:=by rw[bN];exact h
 rw[wF hq',wF (show k-1<l.length by lia)];have e:(l.set (k-1) l[k])[k]=l[k]:=by rw[List.getElem_set_ne ()]
 rw[e];by_cases h1:i=k
 ·rw[aN h1,aN (show k-1<i by lia),aM (show ¬k<i by lia)];lia
 ·by_cases h2:k<i
  ·rw[aM h1,aN (show k-1<i by lia),aN h2];lia
  ·rw[aM h1,aM (show ¬k-1<i by lia),aM h2];lia
def up{l:ae}{k:Nat}(h0:1<=k)(h:k<l.length)(hr:l[k-1]'()<l[k]):Below l (ex l k):=by
 rw[zy h0 h];exact v_ () h () hr
def lift{u w:ae}{k:Nat}(hl:u.length=w.length)(h0:1<=k)(h:k<w.length)(hr:w[k-1]'()<w[k])(hb:Below u w):Below (ex u k) (ex w k):=by
 have hu:k<u.length:=()
 intro i j;rw[vO h0 hu,vO h0 h];by_cases hi:i=k
 ·subst hi;rw[aN rfl,aN rfl];have b1:=hb (i-1) j;have b2:=hb i j;have b3:=hb (i+1) j;have c1:=kY (l:=u) (i:=i-1) () j;have c2:=kY (l:=w) (i:=i-1) () j;have c3:=kY (l:=u) (i:=i) hu j;have c4:=kY (l:=w) (i:=i) h j;rw[show i-1+1=i by lia]at c1 c2;rw[c3,c4]at b3;rw[c1,c2]at b2 b3;rw[c1,c2];revert b1 b2 b3
  (repeat' split)<;>intros<;>lia
 ·rw[aM hi,aM hi];have:=hb i j
  lia
abbrev kj:ae->ag->Prop
 | _,[]=>True
 | l,k::w=>1<=k/\k<l.length/\l.getD (k-1) 0<l.getD k 0/\kj (ex l k) w
theorem kj.snoc:∀{w:ag}{l:ae}{k:Nat},kj l w->1<=k->k<l.length->(led l w).getD (k-1) 0<(led l w).getD k 0->kj l (w++[k])
 | [],l,k,_,h0,h1,h2=>⟨h0,h1,h2,trivial⟩
 | m::w,l,k,h,h0,h1,h2=>⟨h.1,h.2.1,h.2.2.1,kj.snoc h.2.2.2 h0 (by rw[mz];exact h1) h2⟩
theorem kj.drop:∀{a b:ag}{l:ae},kj l (a++b)->kj (led l a) b
 | [],_,_,h=>h
 | _::a,b,l,h=>kj.drop (a:=a) h.2.2.2
theorem kj.valid:∀{w:ag}{l:ae},kj l w->∀k∈w,1<=k/\k<l.length
 | [],_,_,k,hk=>by cases hk
 | m::w,l,h,k,hk=>by
  rcases bP.mp hk with z|z
  ·rw[z];exact⟨h.1,h.2.1⟩
  ·have:=kj.valid h.2.2.2 k z;rw[mz]at this;exact this
theorem xP:∀{w:ag}{l:ae},kj l w->Below l (led l w)
 | [],l,_=>Below.refl l
 | k::w,l,h=>by
  have h0:=h.1;have h1:=h.2.1;have h2:=h.2.2.1;rw[j7 h1,j7 (show k-1<l.length by lia)]at h2;exact(up h0 h1 h2).trans (xP h.2.2.2)
abbrev sw (k:Nat)(x:Int):Int:=if x=k then(k:Int)+1 else if x=(k:Int)+1 then k else x
def ex_map(f:Int->Int){l:ae}{k:Nat}(h0:1<=k)(h:k<l.length):ex (l.map f) k=(ex l k).map f:=by
 rw[zy h0 h,zy h0 (by rw[aL];exact h),gS,gS,dR,dR]
theorem wB(f:Int->Int):∀{w:ag}{l:ae},(∀k∈w,1<=k/\k<l.length)->led (l.map f) w=(led l w).map f
 | [],_,_=>rfl
 | k::w,l,h=>by
  have hk:=h k (aP ..);show led (ex (l.map f) k) w=(led (ex l k) w).map f;rw[ex_map f hk.1 hk.2,wB f λm hm=>by rw[mz];exact h m (aQ _ hm)]
def sH{n p:Nat}(h:p<n):(jX 1 ((n:Int)+1))[p]?=some ((p:Int)+1):=by
 unfold jX;rw[aR,cj ()];simp;lia
def jY(n:Nat):(jX 1 ((n:Int)+1)).length=n:=by rw[kL];lia
def nF{l:ae}{k:Nat}(h0:1<=k)(h:k<l.length)(p:Nat):(ex l k)[p]?=if p=k then l[k-1]? else if p=k-1 then l[k]? else l[p]?:=by
 rw[zy h0 h,jc];by_cases h1:k=p
 ·rw[aN h1,aN h1.symm,aN (by rw[bN];lia),aH]
 ·rw[aM h1,aM (λz=>h1 z.symm),jc];by_cases h2:k-1=p
  ·rw[aN h2,aN h2.symm,aN (),aH]
  ·rw[aM h2,aM (λz=>h2 z.symm)]
def Lv{n k:Nat}(h0:1<=k)(h:k<n):ex (jX 1 ((n:Int)+1)) k=(jX 1 ((n:Int)+1)).map (sw k):=by
 apply bR;intro p;rw[nF h0 (by rw[jY];exact h),aR];by_cases hp:p<n
 ·rw[sH hp,sH h,sH (show k-1<n by lia)];show _=some (sw k ((p:Int)+1));unfold sw;by_cases h1:p=k
  ·rw[aN h1,aM (),aN ()];congr 1;lia
  ·rw[aM h1];by_cases h2:p=k-1
   ·rw[aN h2,aN ()]
   ·rw[aM h2,aM (),aM ()]
 ·have e:(jX 1 ((n:Int)+1))[p]?=none:=bG (by rw[jY];lia);rw[aM (),aM (),e];rfl
def G5{A B:ae}{k:Nat}(h0:1<=k)(h:k<A.length)(hb:n_ A B):n_ (ex A k) (B.map (sw k)):=by
 refine⟨by rw[mz,aL];exact hb.1,λp hp=>?_⟩;rw[mz]at hp;have hg:(ex A k)[p]'(by rw[mz];exact hp)=if p=k then A[k-1]'()else if p=k-1 then A[k]else A[p]:=by
  have:=nF h0 h p;rw[aH (by rw[mz];exact hp)]at this;by_cases h1:p=k
  ·rw[aN h1,aH (show k-1<A.length by lia)]at this;rw[aN h1];exact aW this
  ·rw[aM h1]at this;rw[aM h1];by_cases h2:p=k-1
   ·rw[aN h2,aH h]at this;rw[aN h2];exact aW this
   ·rw[aM h2,aH hp]at this;rw[aM h2];exact aW this
 rw[hg,aR];by_cases h1:p=k
 ·rw[aN h1,hb.2 (k-1) ()];show some (sw k _)=_;unfold sw;rw[aN ()];congr 1;lia
 ·rw[aM h1];by_cases h2:p=k-1
  ·rw[aN h2,hb.2 k h];show some (sw k _)=_;unfold sw;rw[aM (),aN ()];congr 1;lia
  ·rw[aM h2,hb.2 p hp];show some (sw k _)=_;unfold sw;rw[aM (),aM ()]
theorem oO{n:Nat}:∀(w:ag),(∀k∈w,1<=k/\k<n)->n_ (led (jX 1 ((n:Int)+1)) w.reverse) (led (jX 1 ((n:Int)+1)) w)
 | [],_=>⟨rfl,λp hp=>by
  have hp:p<n:=by rw[show([]:ag).reverse=[]from rfl]at hp;have:p<(jX 1 ((n:Int)+1)).length:=hp;rw[jY]at this;exact this
  have e:(jX 1 ((n:Int)+1))[p]'(by rw[jY];exact hp)=(p:Int)+1:=by
   have:=sH hp;rw[aH (by rw[jY];exact hp)]at this;exact aW this
  show(jX 1 ((n:Int)+1))[(((jX 1 ((n:Int)+1))[p]'(by rw[jY];exact hp))-1).toNat]?=_;rw[e,show((p:Int)+1-1).toNat=p by lia];exact sH hp⟩
 | k::w,h=>by
  have hk:=h k (aP ..);have hw:=λm hm=>h m (aQ k hm);have ih:=oO w hw;rw[dX,wY];show n_ (ex (led (jX 1 ((n:Int)+1)) w.reverse) k) (led (ex (jX 1 ((n:Int)+1)) k) w);rw[Lv hk.1 hk.2,wB (sw k) (λm hm=>by rw[jY];exact hw m hm)];exact G5 hk.1 (by rw[wK,jY];exact hk.2) ih
end Wd
namespace Iv
open L2 Bl
abbrev inv:ae->Nat
 | []=>0
 | x::l=>l.countP (λy=>decide (y<x))+inv l
abbrev kT (a b:ae):Nat:=(a.map λx=>b.countP λy=>decide (y<x)).sum
def nO(x:Int)(a b:ae):kT (x::a) b=b.countP (λy=>decide (y<x))+kT a b:=rfl
theorem kc:∀(a b:ae),inv (a++b)=inv a+inv b+kT a b
 | [],b=>by show inv b=0+inv b+0;lia
 | x::a,b=>by
  show(a++b).countP _+inv (a++b)=(a.countP _+inv a)+inv b+kT (x::a) b;rw[i8,kc a b,nO];lia
theorem qT:∀{a b:ag},a.Perm b->a.sum=b.sum
 | _,_,.nil=>rfl
 | _,_,.cons x h=>by rw[bV,bV,qT h]
 | _,_,.swap x y l=>by rw[bV,bV,bV,bV];lia
 | _,_,.trans h k=>(qT h).trans (qT k)
def Fi{a:ae}(b:ae)(h:a.Perm a'):kT a b=kT a' b:=qT (h.map _)
def D8(a:ae){b:ae}(h:b.Perm b'):kT a b=kT a b':=by
 unfold kT;congr 1;refine cD λx _=>h.countP_eq _
def AZ{M:ae}{x y:Int}(h:∀m∈M,m<x\/y<m)(hxy:x<y):M.countP (λm=>decide (m<x))=M.countP (λm=>decide (m<y)):=by
 refine gT λm hm=>?_;rw[gA,gA]
 rcases h m hm with z|z<;>omega
theorem wc:∀{M:ae}{x y:Int},(∀m∈M,m<x\/y<m)->x<y->kT M [x]=kT M [y]
 | [],_,_,_,_=>rfl
 | m::M,x,y,h,hxy=>by
  rw[nO,nO,wc (λm' hm=>h m' (aQ _ hm)) hxy];congr 1;have:=h m (aP ..);dsimp[bT,iM];by_cases c:x<m
  ·rw[bq c,bq (show y<m by omega)]
  ·rw[bh c,bh (show ¬y<m by omega)]
def mid{M:ae}{x y:Int}(h:∀m∈M,m<x\/y<m)(hxy:x<y):inv ([y]++M++[x])=inv ([x]++M++[y])+1:=by
 rw[kc,kc,kc ([x]++M),kc [x]];have e1:kT [y] M=kT [x] M:=by
  show M.countP _+0=M.countP _+0;rw[AZ h hxy]
 have e2:kT ([y]++M) [x]=1+kT M [x]:=by
  show[x].countP _+kT M [x]=_;rw[bT,bq hxy];rfl
 have e3:kT ([x]++M) [y]=kT M [y]:=by
  show[y].countP _+kT M [y]=_;rw[bT,bh (by lia:¬y<x)];simp
 rw[e1,e2,e3,wc h hxy]
 skip
 lia
def qY(M:ae)(x y:Int):([y]++M++[x]).Perm ([x]++M++[y]):=by
 refine(List.perm_append_comm (l₁:=[y]++M) (l₂:=[x])).trans ?_
 skip
 exact .cons x (List.perm_append_comm (l₁:=[y]) (l₂:=M))
def step{P M R:ae}{x y:Int}(h:∀m∈M,m<x\/y<m)(hxy:x<y):inv (P++([y]++M++[x])++R)=inv (P++([x]++M++[y])++R)+1:=by
 have p:=qY M x y;rw[kc,kc P,kc (P++([x]++M++[y])),kc P,mid h hxy,D8 P p,Fi R (p.append_left P)]
 lia
theorem tP:∀(l:ae),inv l<=l.length * l.length
 | []=>aS _
 | x::l=>by
  show l.countP _+inv l<=(l.length+1) * (l.length+1);have h1:=List.countP_le_length (p:=λy=>decide (y<x)) (l:=l);have h2:=tP l;rw[Nat.add_mul,Nat.mul_add]
  lia
def Eh(x v:Int):cnt [x] v=if v<=x then 1 else 0:=by show(if v<=x then 1 else 0)+0=_;lia
theorem Bg:∀(l:ae) {v w:Int},v<=w->cnt l w<=cnt l v
 | [],_,_,_=>eo _
 | x::l,v,w,h=>by
  have:=Bg l h;show(if w<=x then 1 else 0)+cnt l w<=(if v<=x then 1 else 0)+cnt l v;split<;>split<;>lia
theorem E1:∀(l:ae) {v w:Int},(∀m∈l,m<v\/w<=m)->v<=w->cnt l v=cnt l w
 | [],_,_,_,_=>rfl
 | x::l,v,w,h,hvw=>by
  have:=E1 l (λm hm=>h m (aQ _ hm)) hvw;have:=h x (aP ..);show(if v<=x then 1 else 0)+cnt l v=(if w<=x then 1 else 0)+cnt l w;split<;>split<;>lia
def CL{P M R B:ae}{x y z:Int}(hb:Below (P++([x]++M++[y])++R) (P++z::B))(hxy:x<y)(hyz:y<=z)(hM:∀m∈M,m<x\/z<m):Below (P++([y]++M++[x])++R) (P++z::B):=by
 intro p v;have h0:=hb p v;by_cases c1:p<=P.length
 ·have e:∀L:ae,(P++L).take p=P.take p:=λL=>by rw[iH c1]
  rw[bO,e,e]at h0 ⊢;exact h0
 ·by_cases c2:p<=P.length+1+M.length
  ·obtain⟨q,hq⟩:∃q,p=P.length+(q+1):=⟨p-P.length-1,()⟩;have ea:∀(u w:Int),(P++([u]++M++[w])++R).take p=P++(u::M.take q):=λu w=>by
    rw[bO,hq,jj,cF (),show P.length+(q+1)-P.length=q+1 by lia];congr 1;show(u::((M++[w])++R)).take (q+1)=_;rw[List.take_succ_cons,bO,iH ()]
   have eb:(P++z::B).take p=P++(z::B.take q):=by
    rw[hq,jj,cF (),show P.length+(q+1)-P.length=q+1 by lia,List.take_succ_cons]
   rw[ea,eb,cnt_append,cnt_append]at h0 ⊢;have h1:=hb p (z+1);rw[ea,eb,cnt_append,cnt_append]at h1;have f:∀(u t:Int) (L:ae),cnt (u::L) t=(if t<=u then 1 else 0)+cnt L t:=λ_ _ _=>rfl;rw[f,f]at h0 h1 ⊢;by_cases c3:x<v/\v<=y
   ·rw[aM (),aM ()]at h1;rw[aN c3.2,aN ()];have g1:cnt (M.take q) v=cnt (M.take q) (z+1):=E1 _ (λm hm=>by
     rcases hM m (bL hm)with t|t
     ·left;lia
     ·right;lia) ()
    have g2:=Bg (B.take q) (show v<=z+1 by lia)
    lia
   ·have:(if v<=y then(1:Int)else 0)=if v<=x then 1 else 0:=by
     by_cases d:v<=x
     ·rw[aN d,aN ()]
     ·rw[aM d,aM (λt=>c3 ⟨(),t⟩)]
    rw[this];exact h0
  ·have ea:∀(u w:Int),(P++([u]++M++[w])++R).take p=P++([u]++M++[w])++R.take (p-(P.length+1+M.length+1)):=λu w=>by
    have l:(P++([u]++M++[w])).length=P.length+1+M.length+1:=by simp;lia
    rw[jj,cF (by rw[l];lia),l]
   rw[ea]at h0 ⊢;have:=qj (((qY M x y).append_left P).append_right (R.take (p-(P.length+1+M.length+1)))) v;rw[this];exact h0
abbrev sw (a:ae)(i j:Nat):ae:=(a.set i (a.getD j 0)).set j (a.getD i 0)
def z6(a:ae)(i j:Nat):(sw a i j).length=a.length:=by unfold sw;rw[bN,bN]
def split{a:ae}(hij:i<j)(hj:j<a.length):∃P M R:ae,a=P++([a.getD i 0]++M++[a.getD j 0])++R/\P=a.take i/\(∀m∈M,∃k,i<k/\k<j/\a[k]?=some m)/\sw a i j=P++([a.getD j 0]++M++[a.getD i 0])++R:=by
 have gi:a.getD i 0=a[i]:=by rw[aI,aH ()];rfl
 have gj:a.getD j 0=a[j]:=by rw[aI,aH hj];rfl
 obtain⟨M,hM⟩:∃M,M=(a.drop (i+1)).take (j-i-1):=⟨_,rfl⟩;have lM:M.length=j-i-1:=by rw[hM,bB,cN];lia
 have ea:a=a.take i++([a.getD i 0]++M++[a.getD j 0])++a.drop (j+1):=by
  have h1:a.drop i=a[i]::a.drop (i+1):=bZ ();have h2:a.drop (i+1)=M++a.drop j:=by
   rw[hM];have:=b_ (j-i-1) (a.drop (i+1));rw[List.drop_drop,show i+1+(j-i-1)=j by lia]at this;exact this.symm
  have h3:a.drop j=a[j]::a.drop (j+1):=bZ hj
  conv=>lhs;rw[<- b_ i a,h1,h2,h3]
  rw[gi,gj];simp
 refine⟨a.take i,M,a.drop (j+1),ea,rfl,λm hm=>?_,?_⟩
 ·rw[hM]at hm;obtain⟨k,hk⟩:=eO hm;have hlt:k<j-i-1:=by
   have:=(aK.mp hk).1;rw[bB]at this;lia
  rw[dm hlt,fG]at hk;exact⟨i+1+k,(),(),hk⟩
 ·have key:∀(P R:ae) (x y x' y':Int),P.length=i->((P++([x]++M++[y])++R).set i y').set j x'=P++([y']++M++[x'])++R:=λP R x y x' y' lP=>by
   rw[bO,di _ _ (),lP,fZ];show(P++(y'::((M++[y])++R))).set j x'=_;rw[di _ _ (),lP,show j-i=(j-i-1)+1 by lia,List.set_cons_succ,bO,di _ _ (),lM,fZ];simp
  have:=key (a.take i) (a.drop (j+1)) (a.getD i 0) (a.getD j 0) (a.getD i 0) (a.getD j 0) (by rw[bB];lia);rw[<- ea]at this;exact this
def oK{a:ae}{i:Nat}(h:i<a.length):a[i]?=some (a.getD i 0):=by rw[aI,aH h];rfl
def part{a b:ae}{n:Nat}(pa:a.Perm (jX 1 ((n:Int)+1)))(pb:b.Perm (jX 1 ((n:Int)+1)))(la:a.length=n)(lb:b.length=n)(hb:Below a b)(hi:a.take i=b.take i)(hin:i<n)(hne:a.getD i 0≠b.getD i 0) :
  a.getD i 0<b.getD i 0/\∃j,i<j/\j<n/\a.getD j 0=b.getD i 0:=by
 have hx:=oK (a:=a) (i:=i) ();have hy:=oK (a:=b) (i:=i) ();have ta:a.take (i+1)=a.take i++[a.getD i 0]:=by rw[jD,hx];rfl
 have tb:b.take (i+1)=b.take i++[b.getD i 0]:=by rw[jD,hy];rfl
 have h:=hb (i+1) (a.getD i 0);rw[ta,tb,hi,cnt_append,cnt_append,Eh,Eh,aN (eo _)]at h;have hle:a.getD i 0<=b.getD i 0:=by
  by_cases c:a.getD i 0<=b.getD i 0
  ·exact c
  ·rw[aM c]at h;lia
 refine⟨(),?_⟩;have hm:b.getD i 0∈a:=(pa.trans pb.symm).mem_iff.mpr (aZ hy);obtain⟨j,hj⟩:=eO hm;have hjn:j<n:=by have:=(aK.mp hj).1;lia
 have nb:b.Nodup:=pb.nodup_iff.mpr (mV _ _);refine⟨j,?_,hjn,?_⟩
 ·rcases Nat.lt_trichotomy j i with c|c|c
  ·have e:(a.take i)[j]?=some (b.getD i 0):=by rw[dm c];exact hj
   rw[hi,dm c]at e;obtain⟨h1,g1⟩:=aK.mp e;obtain⟨h2,g2⟩:=aK.mp hy;exact absurd ((c8 nb).mp (g1.trans g2.symm)) ()
  ·subst c;rw[hx]at hj;exact absurd (aW hj) hne
  ·exact c
 ·rw[aI,hj];rfl
def M6{a b:ae}{n:Nat}(la:a.length=n)(lb:b.length=n)(hb:Below a b)(hi:a.take i=b.take i)(hij:i<j)(hj:j<n)(h1:a.getD i 0<a.getD j 0)(h2:a.getD j 0<=b.getD i 0)(hno:∀k,i<k->k<j->¬(a.getD i 0<a.getD k 0/\a.getD k 0<=b.getD i 0))(nd:a.Nodup) :
  Below (sw a i j) b/\inv (sw a i j)=inv a+1/\(sw a i j).Perm a:=by
 obtain⟨P,M,R,ea,eP,hM,es⟩:=split hij (show j<a.length by lia);have eb:b=P++b.getD i 0::b.drop (i+1):=by
  have:b.drop i=b.getD i 0::b.drop (i+1):=by
   rw[bZ ()];congr 1;rw[aI,aH ()];rfl
  conv=>lhs;rw[<- b_ i b,this,<- hi,<- eP]
 have hgap:∀m∈M,m<a.getD i 0\/b.getD i 0<m:=λm hm=>by
  obtain⟨k,k1,k2,hk⟩:=hM m hm;have e:a.getD k 0=m:=by rw[aI,hk];rfl
  have:=hno k k1 k2;rw[e]at this;have hne:m≠a.getD i 0:=λz=>by
   have hx:=oK (a:=a) (i:=i) ();rw[<- z]at hx;obtain⟨q1,g1⟩:=aK.mp hk;obtain⟨q2,g2⟩:=aK.mp hx;exact absurd ((c8 nd).mp (g1.trans g2.symm)) ()
  lia
 have hgap2:∀m∈M,m<a.getD i 0\/a.getD j 0<m:=λm hm=>by
  rcases hgap m hm with t|t
  ·exact .inl t
  ·right;lia
 refine⟨?_,?_,?_⟩
 ·rw[es,eb];refine CL ?_ h1 h2 hgap;rw[<- ea,<- eb];exact hb
 ·rw[es,step hgap2 h1,<- ea]
 ·rw[es];have:=((qY M (a.getD i 0) (a.getD j 0)).append_left P).append_right R;rw[<- ea]at this;exact this
end Iv
namespace Nu
open PySem L2
abbrev sX:Nat->Nat
 | 0=>1
 | n+1=>(n+1) * sX n
theorem Gp:∀n,0<sX n
 | 0=>Nat.one_pos
 | n+1=>Nat.mul_pos (jq _) (Gp n)
def Bj(n:Nat):sX n<=sX (n+1):=Nat.le_mul_of_pos_left _ (jq _)
def KG{a:Nat}(h:a<=b):sX a<=sX b:=by
 induction h with
 | refl=>exact aS _
 | step _ ih=>exact bX ih (Bj _)
abbrev rank:ae->Nat
 | []=>0
 | x::xs=>(xs.filter (· < x)).length * sX xs.length+rank xs
abbrev Tr:Nat->ae->Nat->ae
 | 0,_,_=>[]
 | n+1,l,m=>l.getD (m / sX n) 0::Tr n (l.eraseIdx (m / sX n)) (m % sX n)
def GK{l:ae}{q:Nat}(hs:l.Pairwise (· < ·))(h:q<l.length):((l.eraseIdx q).filter (· < l[q])).length=q:=by
 have e:l=l.take q++l[q]::l.drop (q+1):=by rw[d_,b_]
 rw[gW,i9];have hs':=hs;rw[e,cA]at hs';obtain⟨_,h2,h3⟩:=hs';rw[fh.mpr λa ha=>bq (h3 a ha _ (aP ..)),List.filter_eq_nil_iff.mpr λa ha z=>?_]
 ·rw[cX,bB];lia
 ·have z:=dJ z;have:=(cH.mp h2).1 a ha
  lia
def qC{l:ae}{i:Nat}(h:i<l.length):(l[i]::l.eraseIdx i).Perm l:=by
 have e:l=l.take i++l[i]::l.drop (i+1):=by rw[d_,b_]
 rw[gW];exact(List.perm_middle.symm).trans (by rw[<- e])
def MS{l:ae}{q:Nat}(h:q<l.length):l.getD q 0=l[q]:=by rw[aI,aH h];rfl
theorem F2:∀(n:Nat) (l xs:ae),l.length=n->l.Pairwise (· < ·)->xs.Perm l->rank xs<sX n/\Tr n l (rank xs)=xs
 | 0,l,xs,hl,_,hp=>by
  have:l=[]:=List.eq_nil_of_length_eq_zero hl;subst this;have:=hp.eq_nil;subst this;exact⟨Nat.one_pos,rfl⟩
 | n+1,l,[],hl,_,hp=>by have:=hp.length_eq;rw[hl]at this;cases this
 | n+1,l,x::xs,hl,hs,hp=>by
  have hx:x∈l:=hp.mem_iff.mp (aP ..);obtain⟨j,hj,ej⟩:=List.getElem_of_mem hx;have hp':xs.Perm (l.eraseIdx j):=by
   have h1:=qC hj;rw[ej]at h1;exact(hp.trans h1.symm).cons_inv
  have le:(l.eraseIdx j).length=n:=by rw[List.length_eraseIdx,aN hj];lia
  obtain⟨h1,h2⟩:=F2 n (l.eraseIdx j) xs le (hs.sublist (List.eraseIdx_sublist ..)) hp';have hc:(xs.filter (· < x)).length=j:=by
   rw[(hp'.filter _).length_eq,<- ej];exact GK hs hj
  have lx:xs.length=n:=by rw[hp'.length_eq,le]
  have er:rank (x::xs)=j * sX n+rank xs:=by
   show(xs.filter (· < x)).length * sX xs.length+rank xs=_;rw[hc,lx]
  have ed:(j * sX n+rank xs) / sX n=j:=by
   rw[mul_comm,Nat.mul_add_div (Gp n),Nat.div_eq_of_lt h1];rfl
  have em:(j * sX n+rank xs) % sX n=rank xs:=by
   rw[mul_comm,Nat.mul_add_mod,Nat.mod_eq_of_lt h1]
  rw[er];refine⟨?_,?_⟩
  ·show _<(n+1) * sX n
   calc j * sX n+rank xs<j * sX n+sX n:=()
    _=(j+1) * sX n:=(Nat.succ_mul _ _).symm
    _<=(n+1) * sX n:=Nat.mul_le_mul_right _ ()
  ·show l.getD ((j * sX n+rank xs) / sX n) 0::Tr n (l.eraseIdx ((j * sX n+rank xs) / sX n)) ((j * sX n+rank xs) % sX n)=_;rw[ed,em,MS hj,ej,h2]
def Jz(i j:Int):(jX i j).Pairwise (· < ·):=by
 unfold jX;rw[dG];exact gI.imp λh=>()
end Nu
namespace Fw
open PySem L2 Bl
open Wd (ex led)
meta abbrev rg (n:Nat):ae:=jX 1 ((n:Int)+1)
def zJ{l:ae}{k:Nat}(h0:1<=k)(h:k<l.length):ex (ex l k) k=l:=by
 apply bR;intro p;have h':k<(ex l k).length:=by rw[Wd.mz];exact h
 rw[Wd.nF h0 h',Wd.nF h0 h,Wd.nF h0 h,Wd.nF h0 h];by_cases c3:p=k
 ·rw[aN c3,aM (),aN rfl,c3]
 ·rw[aM c3];by_cases c2:p=k-1
  ·rw[aN c2,aN rfl,c2]
  ·rw[aM c2,aM c3,aM c2]
def Ot{l:ae}{k:Nat}(h0:1<=k)(h:k<l.length):(ex l k).getD k 0=l.getD (k-1) 0:=by
 rw[aI,Wd.nF h0 h,aN rfl,aI]
def Ox{l:ae}{k:Nat}(h0:1<=k)(h:k<l.length):(ex l k).getD (k-1) 0=l.getD k 0:=by
 rw[aI,Wd.nF h0 h,aM (),aN rfl,aI]
def vM{l:ae}{k:Nat}(h0:1<=k)(h:k<l.length)(hr:l.getD (k-1) 0<l.getD k 0):Iv.inv (ex l k)=Iv.inv l+1:=by
 obtain⟨P,M,R,e,_,hM,es⟩:=Iv.split (a:=l) (i:=k-1) (j:=k) () h;have:=Iv.step (P:=P) (M:=M) (R:=R) (x:=l.getD (k-1) 0) (y:=l.getD k 0) (λm hm=>by obtain⟨_,_,_,_⟩:=hM m hm;lia) hr;rw[<- es,<- e]at this;exact this
def uf{l:ae}{k:Nat}(h0:1<=k)(h:k<l.length)(hr:l.getD k 0<l.getD (k-1) 0):Iv.inv l=Iv.inv (ex l k)+1:=by
 have:=vM (l:=ex l k) h0 (by rw[Wd.mz];exact h) (by rw[Ot h0 h,Ox h0 h];exact hr);rw[zJ h0 h]at this;exact this
abbrev Va (n:Nat)(w:ag):Prop:=∀k∈w,1<=k/\k<n
def Va.tail{n k:Nat}{w:ag}(h:Va n (k::w)):Va n w:=λj hj=>h j (aQ _ hj)
def Va.head{n k:Nat}{w:ag}(h:Va n (k::w)):1<=k/\k<n:=h k (aP ..)
theorem uG:∀{w:ag}{l:ae},Va l.length w->led (led l w) w.reverse=l
 | [],l,_=>rfl
 | k::w,l,h=>by
  rw[dX,Wd.wY];show led (led (led (ex l k) w) w.reverse) [k]=l;rw[uG (w:=w) (l:=ex l k) (by rw[Wd.mz];exact h.tail)];exact zJ h.head.1 h.head.2
theorem C6:∀{l:ae},l.Pairwise (·<=·)->Iv.inv l=0
 | [],_=>rfl
 | x::l,h=>by
  show l.countP (λy=>decide (y<x))+Iv.inv l=0;rw[C6 (cH.mp h).2,iS.mpr λa ha z=>by have:=dJ z;have:=(cH.mp h).1 a ha;lia]
def rO(n:Nat):Iv.inv (rg n)=0:=C6 (Fv _ _)
abbrev Av (l:ae)(k:Nat):Prop:=1<=k/\k<l.length/\l.getD k 0<l.getD (k-1) 0
def Pw{l:ae}(h:∀k,¬Av l k):l.Pairwise (·<=·):=by
 have key:∀d i,i+d<l.length->l.getD i 0<=l.getD (i+d) 0:=by
  intro d
  induction d with
  | zero=>intro i _;exact eo _
  | succ d ih=>
   intro i hi;have h1:=ih i ();have h2:¬l.getD (i+d+1) 0<l.getD (i+d) 0:=λz=>h (i+d+1) ⟨(),hi,z⟩;rw[<- iC];lia
 rw[dN];intro i j hi hj hij;have:=key (j-i) i ();rw[show i+(j-i)=j by lia,Wd.j7 hi,Wd.j7 hj]at this;exact this
def Ew{l:ae}{n:Nat}(p:l.Perm (rg n))(h:∀k,¬Av l k):l=rg n:=
 gg (λx y _ _ h1 h2=>jx h1 h2) (Pw h) (Fv _ _) p
def NU(h:0<Iv.inv l):∃k,Av l k:=by
 refine f9 λz=>?_;rw[C6 (Pw λk hk=>z ⟨k,hk⟩)]at h;exact absurd h (fK _)
abbrev Dn:ae->ag->Prop
 | l,[]=>∀k,¬Av l k
 | l,k::ks=>(Av l k/\∀j,Av l j->k<=j)/\Dn (ex l k) ks
def xB{l:ae}{n k:Nat}(p:l.Perm (rg n))(h0:1<=k)(h:k<l.length):(ex l k).Perm (rg n):=(Wd.zR h0 h).trans p
def Dn.va:∀{ks:ag}{l:ae},Dn l ks->Va l.length ks
 | [],l,_=>λk hk=>absurd hk (by simp)
 | k::ks,l,h=>λj hj=>by
  rcases bP.mp hj with rfl|z
  ·exact⟨h.1.1.1,h.1.1.2.1⟩
  ·have:=h.2.va j z
   rwa [Wd.mz]at this
theorem Dn.led:∀{ks:ag}{l:ae}{n:Nat},Dn l ks->l.Perm (rg n)->led l ks=rg n
 | [],l,n,h,p=>Ew p h
 | k::ks,l,n,h,p=>Dn.led (ks:=ks) h.2 (xB p h.1.1.1 h.1.1.2.1)
theorem Gb:∀(m:Nat) (l:ae),Iv.inv l<=m->∃ks,Dn l ks
 | 0,l,h=>⟨[],λk hk=>by have:=uf hk.1 hk.2.1 hk.2.2;lia⟩
 | m+1,l,h=>by
  by_cases c:∃k,Av l k
  ·obtain⟨k,hk,hmin⟩:∃k,Av l k/\∀j,Av l j->k<=j:=by
    obtain⟨k,hk⟩:=c
    induction k using Nat.strongRecOn with
    | ind k ih=>
     by_cases z:∃j,Av l j/\j<k
     ·obtain⟨j,hj,hlt⟩:=z;exact ih j hlt hj
     ·exact⟨k,hk,λj hj=>Nat.le_of_not_lt λy=>z ⟨j,hj,y⟩⟩
   have:=uf hk.1 hk.2.1 hk.2.2;obtain⟨ks,hks⟩:=Gb m (ex l k) ();exact⟨k::ks,⟨hk,hmin⟩,hks⟩
  ·exact⟨[],λk hk=>c ⟨k,hk⟩⟩
def Ez{l:ae}{n k:Nat}(p:l.Perm (rg n))(h0:1<=k)(h:k<l.length):l.getD (k-1) 0≠l.getD k 0:=λz=>by
 have nd:l.Nodup:=p.nodup_iff.mpr (mV _ _);rw[Wd.j7 h,Wd.j7 (show k-1<l.length by lia)]at z;have:=(c8 nd).mp z
 lia
def GG{a c:ae}{n:Nat}(pa:a.Perm (rg n))(h1:n_ a b)(h2:n_ b c):a=c:=by
 have l1:=h1.1;have l2:=h2.1;refine iz () λq hq hq'=>?_;have e1:=h1.2 q hq;have hm:=(kG.mp (pa.mem_iff.mp (c_ hq)));obtain⟨hb,eb⟩:=aK.mp e1;have e2:=h2.2 _ hb;rw[eb,show((q:Int)+1-1).toNat=q by lia,aH hq']at e2;have:=aW e2
 lia
structure Two (n:Nat)(o u:ae):Prop where
 po:o.Perm (rg n)
 pu:u.Perm (rg n)
 ou:n_ o u
def Two.lu{n:Nat}{u:ae}(t:Two n o u):u.length=n:=by rw[t.pu.length_eq,Wd.jY]
def Two.lo{n:Nat}{o:ae}(t:Two n o u):o.length=n:=by rw[t.po.length_eq,Wd.jY]
def Two.led{n:Nat}(t:Two n o u)(h:Dn u ks):Wd.led (rg n) ks=o:=by
 have v:Va n ks:=by have:=h.va;rwa [t.lu]at this
 have e:=h.led t.pu;have e2:u=Wd.led (rg n) ks.reverse:=by rw[<- e,uG (by rw[t.lu];exact v)]
 have b:=Wd.oO ks v;rw[<- show u=Wd.led (jX 1 ((n:Int)+1)) ks.reverse from e2]at b;exact(GG t.po t.ou b).symm
def Two.uo{n:Nat}(t:Two n o u):n_ u o:=by
 obtain⟨ks,h⟩:=Gb _ u (aS _);have v:Va n ks:=by have:=h.va;rwa [t.lu]at this
 have e:=h.led t.pu;have e2:u=Wd.led (rg n) ks.reverse:=by rw[<- e,uG (by rw[t.lu];exact v)]
 have b:=Wd.oO ks v;rw[<- show u=Wd.led (jX 1 ((n:Int)+1)) ks.reverse from e2,show Wd.led (jX 1 ((n:Int)+1)) ks=o from t.led h]at b;exact b
def Two.flip{n:Nat}(t:Two n o u):Two n u o:=⟨t.pu,t.po,t.uo⟩
end Fw
namespace Ti
open PySem L2 Bl
open Wd (ex led)
open Fw (rg Va Av)
inductive Mv:ag->ag->Prop
 | comm (P R:ag) (a b:Nat) (h:a+2<=b\/b+2<=a):Mv (P++a::b::R) (P++b::a::R)
 | braid (P R:ag) (a b:Nat) (h:a+1=b\/b+1=a):Mv (P++a::b::a::R) (P++b::a::b::R)
inductive Con:ag->ag->Prop
 | refl (u:ag):Con u u
 | step {u v w:ag} (h:Con u v) (m:Mv v w):Con u w
def pm{n:Nat}{w:ag}(h:Va n w):(led (rg n) w).Perm (rg n):=Wd.uV (by rw[Wd.jY];exact h)
def ln{n:Nat}{w:ag}:(led (rg n) w).length=n:=by rw[Wd.wK,Wd.jY]
end Ti
namespace Rd
open PySem L2
open Ti (Mv Con)
meta abbrev up (v:ag):ae:=v.map λk:Nat=>(k:Int)
def K4{v:ag}{p:Nat}(h:p+1<v.length):v=v.take p++v.getD p 0::v.getD (p+1) 0::v.drop (p+2):=by
 have g:∀q,q<v.length->v.getD q 0=v[q]!:=λq hq=>by simp[aI,hq]
 rw[show v.getD p 0=v[p]by rw[aI,aH ()];rfl,show v.getD (p+1) 0=v[p+1]by rw[aI,aH h];rfl,
  d_,d_,b_]
theorem uC:∀(N:Nat) (l:ag),l.Nodup->(∀x∈l,x<N)->l.length<=N
 | 0,l,_,h=>by
  cases l with
  | nil=>exact aS _
  | cons x l=>exact absurd (h x (aP ..)) (iK _)
 | N+1,l,hn,h=>by
  by_cases c:N∈l
  ·have h1:=uC N (l.erase N) (hn.erase N) λx hx=>by
    have h1:=(List.Nodup.mem_erase_iff hn).mp hx;have:=h x h1.2;have:=h1.1
    lia
   have:=List.length_erase_of_mem c;have:=gQ c
   lia
  ·have:=uC N l hn λx hx=>by
    have:=h x hx;have:x≠N:=λz=>c (z ▸ hx)
    lia
   lia
abbrev code:ag->Nat
 | []=>0
 | a::r=>(a-1)+8 * code r
abbrev EG (L:Nat)(w:ag):Prop:=w.length=L/\∀k∈w,1<=k/\k<=8
theorem Fb:∀{L:Nat}{w:ag},EG L w->code w<8 ^ L
 | 0,[],_=>by show 0<8 ^ 0;decide
 | L+1,a::r,h=>by
  have h1:=Fb (L:=L) (w:=r) ⟨Nat.succ.inj h.1,λk hk=>h.2 k (aQ _ hk)⟩;have h2:=h.2 a (aP ..);show(a-1)+8 * code r<8 ^ (L+1);rw[Nat.pow_succ]
  lia
 | 0,_::_,h=>by cases h.1
 | _+1,[],h=>by cases h.1
theorem code_inj:∀{L:Nat}{w v:ag},EG L w->EG L v->code w=code v->w=v
 | 0,[],[],_,_,_=>rfl
 | L+1,a::r,b::t,h,h',e=>by
  have h2:=h.2 a (aP ..);have h3:=h'.2 b (aP ..);have e:(a-1)+8 * code r=(b-1)+8 * code t:=e;have e1:a=b:=()
  have e2:code r=code t:=()
  rw[e1,code_inj (L:=L) ⟨Nat.succ.inj h.1,λk hk=>h.2 k (aQ _ hk)⟩ ⟨Nat.succ.inj h'.1,λk hk=>h'.2 k (aQ _ hk)⟩ e2]
 | 0,_::_,_,h,_,_=>by cases h.1
 | 0,[],_::_,_,h,_=>by cases h.1
 | _+1,[],_,h,_,_=>by cases h.1
 | _+1,_::_,[],_,h,_=>by cases h.1
def few{L:Nat}{ws:List (ag)}(hL:L<=8)(hn:ws.Nodup)(h:∀w∈ws,EG L w):ws.length<=16777216:=by
 have h1:=uC (8 ^ L) (ws.map code) (by
  unfold List.Nodup;rw[dG];exact eW (λha hb hne z=>hne (code_inj (h _ ha) (h _ hb) z)) hn) λx hx=>by
  obtain⟨w,hw,rfl⟩:=bH.mp hx;exact Fb (h w hw)
 rw[aL]at h1;exact bX h1 (bX (Nat.pow_le_pow_right ⋯ hL) ⋯)
meta abbrev En:=ag×Option (ag)
structure Bf (s:ag)(es:List En)(done:Nat):Prop where
 nd:(es.map (·.1)).Nodup
 hd:es[0]?=some (s,none)
 pr:∀i w q,es[i]?=some (w,q)->(i=0/\q=none)\/∃j r u,j<i/\es[j]?=some (u,r)/\q=some u/\Mv u w
 co:∀w∈es.map (·.1),Con s w
 cl:∀i w q,i<done->es[i]?=some (w,q)->∀w',Mv w w'->w'∈es.map (·.1)
 le:done<=es.length
end Rd
namespace Stp
open PySem L2 Iv
abbrev mm (a:ae)(i j:Nat):ae:=(a.drop (i+1)).take (j-i-1)
abbrev A8 (x y m:Int):Bool:=decide (x<m) && decide (m<y)
theorem TR{x y:Int}(hxy:x<y):∀{M:ae},(∀m∈M,m≠x/\m≠y)->M.countP (λm=>decide (m<y))=M.countP (λm=>decide (m<x))+M.countP (A8 x y)
 | [],_=>rfl
 | m::M,h=>by
  have ih:=TR hxy (M:=M) λk hk=>h k (aQ _ hk);have hm:=h m (aP ..);rw[bT,bT,bT,ih];unfold A8;by_cases c:m<x
  ·rw[bq c,bq (show m<y by lia),bh (show ¬x<m by lia)];simp;lia
  ·rw[bh c,bq (show x<m by lia)];by_cases c2:m<y
   ·rw[bq c2];simp;lia
   ·rw[bh c2];simp
theorem Tp{x y:Int}(hxy:x<y):∀{M:ae},(∀m∈M,m≠x/\m≠y)->kT M [x]=kT M [y]+M.countP (A8 x y)
 | [],_=>rfl
 | m::M,h=>by
  have ih:=Tp hxy (M:=M) λk hk=>h k (aQ _ hk);have hm:=h m (aP ..);rw[nO,nO,ih,bT (l:=M)];dsimp[bT,iM];unfold A8;by_cases c:x<m
  ·rw[bq c];by_cases c2:m<y
   ·rw[bq c2,bh (show ¬y<m by lia)];simp;lia
   ·rw[bh c2,bq (show y<m by lia)];simp;lia
  ·rw[bh c,bh (show ¬y<m by lia)];simp
def V2{M:ae}{x y:Int}(h:∀m∈M,m≠x/\m≠y)(hxy:x<y):inv ([y]++M++[x])=inv ([x]++M++[y])+1+2 * M.countP (A8 x y):=by
 rw[kc,kc,kc ([x]++M),kc [x]];have e1:kT [y] M=kT [x] M+M.countP (A8 x y):=by
  show M.countP _+0=M.countP _+0+_;rw[TR hxy h];lia
 have e2:kT ([y]++M) [x]=1+kT M [x]:=by
  show[x].countP _+kT M [x]=_;rw[bT,bq hxy];rfl
 have e3:kT ([x]++M) [y]=kT M [y]:=by
  show[y].countP _+kT M [y]=_;rw[bT,bh (by lia:¬y<x)];simp
 rw[e1,e2,e3,Tp hxy h];show 0+inv M+_+0+_=0+inv M+_+0+_+1+_
 lia
def IZ{P M R:ae}{x y:Int}(h:∀m∈M,m≠x/\m≠y)(hxy:x<y):inv (P++([y]++M++[x])++R)=inv (P++([x]++M++[y])++R)+1+2 * M.countP (A8 x y):=by
 have p:=qY M x y;rw[kc,kc P,kc (P++([x]++M++[y])),kc P,V2 h hxy,D8 P p,Fi R (p.append_left P)]
 lia
def parts{a:ae}(hij:i<j)(hj:j<a.length):a=a.take i++([a.getD i 0]++mm a i j++[a.getD j 0])++a.drop (j+1):=by
 have gi:a.getD i 0=a[i]:=by rw[aI,aH ()];rfl
 have gj:a.getD j 0=a[j]:=by rw[aI,aH hj];rfl
 have h1:a.drop i=a[i]::a.drop (i+1):=bZ ();have h2:a.drop (i+1)=mm a i j++a.drop j:=by
  have:=b_ (j-i-1) (a.drop (i+1));rw[List.drop_drop,show i+1+(j-i-1)=j by lia]at this;exact this.symm
 have h3:a.drop j=a[j]::a.drop (j+1):=bZ hj
 conv=>lhs;rw[<- b_ i a,h1,h2,h3]
 rw[gi,gj];simp
def US{a:ae}(hij:i<j)(hj:j<a.length):sw a i j=a.take i++([a.getD j 0]++mm a i j++[a.getD i 0])++a.drop (j+1):=by
 have lM:(mm a i j).length=j-i-1:=by unfold mm;rw[bB,cN];lia
 have key:∀(P R:ae) (x y x' y':Int),P.length=i->((P++([x]++mm a i j++[y])++R).set i y').set j x'=P++([y']++mm a i j++[x'])++R:=λP R x y x' y' lP=>by
  rw[bO,di _ _ (),lP,fZ];show(P++(y'::((mm a i j++[y])++R))).set j x'=_;rw[di _ _ (),lP,show j-i=(j-i-1)+1 by lia,List.set_cons_succ,bO,di _ _ (),lM,fZ];simp
 have:=key (a.take i) (a.drop (j+1)) (a.getD i 0) (a.getD j 0) (a.getD i 0) (a.getD j 0) (by rw[bB];lia);rw[<- parts hij hj]at this;exact this
def Us{a:ae}(nd:a.Nodup)(hij:i<j)(hj:j<a.length):∀m∈mm a i j,m≠a.getD i 0/\m≠a.getD j 0:=λm hm=>by
 have e:=parts hij hj;rw[e]at nd;have nd2:=(cQ.mp (cQ.mp nd).1).2.1;have n3:=cQ.mp nd2;have n4:=cQ.mp n3.1;exact⟨λz=>n4.2.2 _ (br.mpr rfl) m hm z.symm,λz=>n3.2.2 m (a_ _ hm) _ (br.mpr rfl) z⟩
abbrev G4 (a:ae)(i j:Nat):Bool:=!(mm a i j).any λm=>A8 (if a.getD j 0<a.getD i 0 then a.getD j 0 else a.getD i 0) (if a.getD j 0>a.getD i 0 then a.getD j 0 else a.getD i 0) m
def M_(p:Int->Bool)(M:ae):(!M.any p)=decide (M.countP p=0):=by
 by_cases h:M.countP p=0
 ·rw[bq h];rw[iS]at h;dsimp[Bool.not_eq_true',List.any_eq_false];exact h
 ·rw[bh h];have:M.any p=true:=by
   rw[List.any_eq_true];refine f9 λz=>h (iS.mpr λa ha hp=>z ⟨a,ha,hp⟩)
  rw[this];rfl
def Sd{a:ae}(nd:a.Nodup)(hij:i<j)(hj:j<a.length):(decide (a.getD i 0<a.getD j 0) && G4 a i j)=(decide (a.getD i 0<a.getD j 0) && decide (inv (sw a i j)=inv a+1)):=by
 by_cases c:a.getD i 0<a.getD j 0
 ·have e:=IZ (P:=a.take i) (R:=a.drop (j+1)) (Us nd hij hj) c;rw[<- US hij hj,<- parts hij hj]at e;unfold G4;rw[M_,aM (),aN c,bq c,jh,jh,jk];show(mm a i j).countP (A8 (a.getD i 0) (a.getD j 0))=0 ↔ _
  lia
 ·rw[bh c];rfl
def Np{a:ae}(hij:i<j)(hj:j<a.length):(sw a i j).Perm a:=by
 have e:=parts hij hj;rw[US hij hj]
 conv=>rhs;rw[e]
 exact((qY _ _ _).append_left _).append_right _
def Vx{a:ae}(hij:i<j)(hj:j<a.length):(sw a i j).getD i 0=a.getD j 0:=by
 unfold sw;rw[aI,bK (),bM ()];rfl
def Wr{a:ae}(hij:i<j)(hj:j<a.length):(sw a i j).getD j 0=a.getD i 0:=by
 unfold sw;rw[aI,bM (by rw[bN];exact hj)];rfl
def H_{a:ae}(hij:i<j)(hj:j<a.length):sw (sw a i j) i j=a:=by
 have h1:=Vx hij hj;have h2:=Wr hij hj;unfold sw at h1 h2 ⊢;rw[h1,h2];apply bR;intro k;by_cases c:k=j
 ·subst c;rw[bM (by dsimp[bN];exact hj),Iv.oK hj]
 ·rw[bK ()];by_cases c2:k=i
  ·subst c2;rw[bM (by dsimp[bN];lia),Iv.oK ()]
  ·rw[bK (),bK (),bK ()]
end Stp
namespace Cw
open PySem L2 Bl
open Wd (ex sw)
open Fw (rg)
abbrev rs (n:Nat):ag:=(jX 1 (n:Int)).map Int.toNat
def Jm{n k:Nat}(h:k∈rs n):1<=k/\k<n:=by
 obtain⟨z,hz,rfl⟩:=bH.mp h;have:=kG.mp hz
 lia
abbrev sm (n:Nat)(f:Nat->Nat):Nat:=((rs n).map f).sum
theorem sL:∀{l:ag}{f g:Nat->Nat},(∀k∈l,f k=g k)->(l.map f).sum=(l.map g).sum
 | [],_,_,_=>rfl
 | k::l,f,g,h=>by
  rw[bI,bI,bV,bV,h k (aP ..),sL λj hj=>h j (aQ _ hj)]
def q_{n:Nat}{f g:Nat->Nat}(h:∀k,1<=k->k<n->f k=g k):sm n f=sm n g:=sL λk hk=>h k (Jm hk).1 (Jm hk).2
theorem xV:∀(l:ag),(l.map λ_=>0).sum=0
 | []=>rfl
 | _::l=>by rw[bI,bV,xV l]
theorem sum_add:∀(l:ag) (f g:Nat->Nat),(l.map λk=>f k+g k).sum=(l.map f).sum+(l.map g).sum
 | [],_,_=>rfl
 | k::l,f,g=>by
  rw[bI,bI,bI,bV,bV,bV,sum_add l f g];lia
theorem Bq(b:ag)(f:Nat->Nat->Nat):∀(a:ag),(a.map λk=>(b.map λj=>f k j).sum).sum=(b.map λj=>(a.map λk=>f k j).sum).sum
 | []=>(xV b).symm
 | k::a=>by
  rw[bI,bV,Bq b f a,<- sum_add];rfl
abbrev cR (n:Nat):Nat->ae->Nat
 | 0,_=>1
 | m+1,l=>sm n λk=>if Iv.inv (ex l k)=m then cR n m (ex l k)else 0
abbrev cL (n:Nat):Nat->ae->Nat
 | 0,_=>1
 | m+1,l=>sm n λk=>if Iv.inv (l.map (sw k))=m then cL n m (l.map (sw k))else 0
theorem two{n:Nat}{o:ae}(p:o.Perm (rg n)):∃u,Fw.Two n o u:=by
 obtain⟨ks,h⟩:=Fw.Gb _ o (aS _);have lo:o.length=n:=by rw[p.length_eq,Wd.jY]
 have v:Fw.Va n ks:=by have:=h.va;rwa [lo]at this
 have e:=h.led p;have e2:o=Wd.led (rg n) ks.reverse:=by rw[<- e,Fw.uG (by rw[lo];exact v)]
 have b:=Wd.oO ks v;rw[<- show o=Wd.led (jX 1 ((n:Int)+1)) ks.reverse from e2]at b;exact⟨_,p,Wd.uV (by rw[Wd.jY];exact v),b⟩
def Vp{n k:Nat}{l:ae}(p:l.Perm (rg n))(h0:1<=k)(h:k<n):(ex l k).Perm (rg n):=Fw.xB p h0 (by rw[p.length_eq,Wd.jY];exact h)
def Vo{n k:Nat}{l:ae}(p:l.Perm (rg n))(h0:1<=k)(h:k<n):(l.map (sw k)).Perm (rg n):=by
 obtain⟨u,t⟩:=two p;exact(t.step h0 h).po
def V_{n k:Nat}{l:ae}(p:l.Perm (rg n))(h0:1<=k)(h:k<n):Iv.inv l=Iv.inv (ex l k)+1\/Iv.inv (ex l k)=Iv.inv l+1:=by
 have hl:k<l.length:=by rw[p.length_eq,Wd.jY];exact h
 have ne:=Fw.Ez p h0 hl;by_cases c:l.getD (k-1) 0<l.getD k 0
 ·exact .inr (Fw.vM h0 hl c)
 ·exact .inl (Fw.uf h0 hl ())
def WH{n k:Nat}{l:ae}(p:l.Perm (rg n))(h0:1<=k)(h:k<n):Iv.inv l=Iv.inv (l.map (sw k))+1\/Iv.inv (l.map (sw k))=Iv.inv l+1:=by
 obtain⟨u,t⟩:=two p;rw[(t.step h0 h).inv,t.inv];exact V_ t.pu h0 h
def H_(k:Nat)(x:Int):sw k (sw k x)=x:=by
 unfold sw;by_cases a:x=k
 ·rw[aN a,aM (),aN rfl,a]
 ·rw[aM a];by_cases b:x=(k:Int)+1
  ·rw[aN b,aN rfl,b]
  ·rw[aM b,aM a,aM b]
def Jq(k:Nat)(l:ae):(l.map (sw k)).map (sw k)=l:=by
 rw[bJ]
 conv=>rhs;rw[<- map_id l]
 exact cD λx _=>H_ k x
def zero{n:Nat}{l:ae}(p:l.Perm (rg n))(h:Iv.inv l=0):l=rg n:=Fw.Ew p λk hk=>by
 have:=Fw.uf hk.1 hk.2.1 hk.2.2
 lia
def one{n k:Nat}{l:ae}(p:l.Perm (rg n))(h0:1<=k)(h:k<n):Iv.inv (ex l k)=0 ↔ Iv.inv (l.map (sw k))=0:=by
 have hl:k<l.length:=by rw[p.length_eq,Wd.jY];exact h
 have e2:ex (rg n) k=(rg n).map (sw k):=Wd.Lv h0 h;constructor
 ·intro z;have e:=zero (Vp p h0 h) z;have e1:=Fw.zJ h0 hl;rw[e,e2]at e1;rw[<- e1,Jq,Fw.rO]
 ·intro z;have e:=zero (Vo p h0 h) z;have e1:=Jq k l;rw[e,<- e2]at e1;rw[<- e1,Fw.zJ h0 (by rw[Wd.jY];exact h),Fw.rO]
def comm{n k:Nat}{l:ae}(j:Nat)(p:l.Perm (rg n))(h0:1<=k)(h:k<n):ex (l.map (sw j)) k=(ex l k).map (sw j):=Wd.ex_map _ h0 (by rw[p.length_eq,Wd.jY];exact h)
def F_(c:Prop)[Decidable c](n:Nat)(f:Nat->Nat):(if c then sm n f else 0)=sm n λj=>if c then f j else 0:=by
 by_cases h:c
 ·rw[aN h];exact sL λk _=>(aN h).symm
 ·rw[aM h];exact(xV (rs n)).symm.trans (sL λk _=>(aM h).symm)
theorem same(n:Nat):∀(m:Nat),(∀l:ae,l.Perm (rg n)->Iv.inv l=m->cR n m l=cL n m l)/\(∀l:ae,l.Perm (rg n)->Iv.inv l=m+1->cR n (m+1) l=cL n (m+1) l)
 | 0=>⟨λl _ _=>rfl,λl p _=>q_ λk h0 h=>by
   by_cases c:Iv.inv (ex l k)=0
   ·rw[aN c,aN ((one p h0 h).mp c)];rfl
   ·rw[aM c,aM λz=>c ((one p h0 h).mpr z)]⟩
 | m+1=>⟨(same n m).2,λl p hi=>by
   obtain⟨i0,i1⟩:=same n m;have e1:cR n (m+1+1) l=sm n λk=>sm n λj=>if Iv.inv ((ex l k).map (sw j))=m then cL n m ((ex l k).map (sw j))else 0:=by
    refine q_ λk h0 h=>?_;rw[show(if Iv.inv (ex l k)=m+1 then cR n (m+1) (ex l k)else 0)=(if Iv.inv (ex l k)=m+1 then cL n (m+1) (ex l k)else 0)from ?_]
    ·show(if Iv.inv (ex l k)=m+1 then sm n _ else 0)=_;rw[F_];refine q_ λj j0 hj=>?_;by_cases c:Iv.inv (ex l k)=m+1
     ·rw[aN c]
     ·rw[aM c,aM λz=>?_];have:=V_ p h0 h;have:=WH (Vp p h0 h) j0 hj
      lia
    ·by_cases c:Iv.inv (ex l k)=m+1
     ·rw[aN c,aN c,i1 _ (Vp p h0 h) c]
     ·rw[aM c,aM c]
   have e2:cL n (m+1+1) l=sm n λj=>sm n λk=>if Iv.inv ((ex l k).map (sw j))=m then cL n m ((ex l k).map (sw j))else 0:=by
    refine q_ λj h0 h=>?_;rw[show(if Iv.inv (l.map (sw j))=m+1 then cL n (m+1) (l.map (sw j))else 0)=(if Iv.inv (l.map (sw j))=m+1 then cR n (m+1) (l.map (sw j))else 0)from ?_]
    ·show(if Iv.inv (l.map (sw j))=m+1 then sm n _ else 0)=_;rw[F_];refine q_ λk k0 hk=>?_;rw[comm j p k0 hk];by_cases c:Iv.inv (l.map (sw j))=m+1
     ·rw[aN c];by_cases c2:Iv.inv ((ex l k).map (sw j))=m
      ·rw[aN c2,aN c2,i0 _ (Vo (Vp p k0 hk) h0 h) c2]
      ·rw[aM c2,aM c2]
     ·rw[aM c,aM λz=>?_];have:=WH p h0 h;have:=V_ (Vo p h0 h) k0 hk;rw[comm j p k0 hk]at this
      lia
    ·by_cases c:Iv.inv (l.map (sw j))=m+1
     ·rw[aN c,aN c,i1 _ (Vo p h0 h) c]
     ·rw[aM c,aM c]
   rw[e1,e2];exact Bq _ _ _⟩
end Cw
namespace Eu
open PySem L2 Bl
open Wd (ex vO)
open Fw (rg Av)
def j7{l:ae}{k:Nat}(h:k<l.length):l.getD k 0=l[k]:=by rw[aI,aH h];rfl
theorem low{a b:ae}{k:Nat}(hl:a.length=b.length)(h0:1<=k)(h:k<b.length)(hb:b.getD k 0<b.getD (k-1) 0)(ha:a.getD (k-1) 0<=a.getD k 0)(hab:Below a b):Below a (ex b k):=by
 have hu:k<a.length:=()
 rw[j7 h,j7 (show k-1<b.length by lia)]at hb;rw[j7 hu,j7 (show k-1<a.length by lia)]at ha;intro i j;rw[vO h0 h];by_cases hi:i=k
 ·subst hi;rw[aN rfl];have b1:=hab (i-1) j;have b3:=hab (i+1) j;have c1:=kY (l:=a) (i:=i-1) () j;have c2:=kY (l:=b) (i:=i-1) () j;have c3:=kY (l:=a) (i:=i) hu j;have c4:=kY (l:=b) (i:=i) h j;rw[show i-1+1=i by lia]at c1 c2;rw[c3,c4,c1,c2]at b3;rw[c1,c2];revert b1 b3
  (repeat' split)<;>intros<;>lia
 ·rw[aM hi];have:=hab i j
  lia
def Wq{a b:ae}{k:Nat}(hl:a.length=b.length)(h0:1<=k)(h:k<b.length)(hb:b.getD k 0<b.getD (k-1) 0)(ha:a.getD k 0<=a.getD (k-1) 0)(hab:Below a b):Below (ex a k) (ex b k):=by
 have hu:k<a.length:=()
 rw[j7 h,j7 (show k-1<b.length by lia)]at hb;rw[j7 hu,j7 (show k-1<a.length by lia)]at ha;intro i j;rw[vO h0 h,vO h0 hu];by_cases hi:i=k
 ·subst hi;rw[aN rfl,aN rfl];have b1:=hab (i-1) j;have b3:=hab (i+1) j;have c1:=kY (l:=a) (i:=i-1) () j;have c2:=kY (l:=b) (i:=i-1) () j;have c3:=kY (l:=a) (i:=i) hu j;have c4:=kY (l:=b) (i:=i) h j;rw[show i-1+1=i by lia]at c1 c2;rw[c3,c4,c1,c2]at b3;rw[c1,c2];revert b1 b3
  (repeat' split)<;>intros<;>lia
 ·rw[aM hi,aM hi];have:=hab i j
  lia
section
variable {n k:Nat}
def ln{z:ae}(p:z.Perm (rg n)):z.length=n:=by rw[p.length_eq,Wd.jY]
def Qu{z:ae}(p:z.Perm (rg n))(h0:1<=k)(h:k<n):(ex z k).Perm (rg n):=Fw.xB p h0 (by rw[ln p];exact h)
def Rf{z:ae}(p:z.Perm (rg n))(h0:1<=k)(h:k<n):ex (ex z k) k=z:=Fw.zJ h0 (by rw[ln p];exact h)
def ne{z:ae}(p:z.Perm (rg n))(h0:1<=k)(h:k<n):z.getD (k-1) 0≠z.getD k 0:=Fw.Ez p h0 (by rw[ln p];exact h)
def hi{z:ae}(p:z.Perm (rg n))(h0:1<=k)(h:k<n):(ex z k).getD k 0=z.getD (k-1) 0:=Fw.Ot h0 (by rw[ln p];exact h)
def lo{z:ae}(p:z.Perm (rg n))(h0:1<=k)(h:k<n):(ex z k).getD (k-1) 0=z.getD k 0:=Fw.Ox h0 (by rw[ln p];exact h)
def XC{z:ae}(p:z.Perm (rg n))(h0:1<=k)(h:k<n)(hr:z.getD (k-1) 0<z.getD k 0):Below z (ex z k):=by
 have l:=ln p;refine Wd.up h0 () ?_;rw[<- j7,<- j7];exact hr
def Xr{u w:ae}(pu:u.Perm (rg n))(pw:w.Perm (rg n))(h0:1<=k)(h:k<n)(hr:w.getD (k-1) 0<w.getD k 0)(hb:Below u w):Below (ex u k) (ex w k):=by
 have l:=ln pw;refine Wd.lift (by rw[ln pu,ln pw]) h0 () ?_ hb;rw[<- j7,<- j7];exact hr
end
abbrev al (n:Nat):List (ae):=(List.range (Nu.sX n)).map (Nu.Tr n (rg n))
abbrev sg (z:ae):Int:=if Iv.inv z % 2=1 then -1 else 1
open Classical in
abbrev sm (n:Nat)(P:ae->Prop):Int:=((al n).map λz=>if P z then sg z else 0).sum
def qT{a b:ae}(p:a.Perm b):a.sum=b.sum:=by
 induction p with
 | nil=>rfl
 | cons x _ ih=>rw[bV,bV,ih]
 | swap x y l=>rw[bV,bV,bV,bV];lia
 | trans _ _ h1 h2=>exact h1.trans h2
theorem sum_add{α:Type}(f g e:α->Int):∀(l:List α),(∀x∈l,f x=g x+e x)->(l.map f).sum=(l.map g).sum+(l.map e).sum
 | [],_=>rfl
 | x::l,h=>by
  rw[bI,bI,bI,bV,bV,bV,sum_add f g e l λy hy=>h y (aQ _ hy),h x (aP ..)];lia
end Eu
namespace Eu
open PySem L2 Bl Am
open Fw (rg)
def least{p:Nat->Prop}:∀m,p m->∃q,p q/\∀k,k<q->¬p k:=by
 intro m
 induction m using Nat.strongRecOn with
 | _ m ih=>
  intro h;by_cases c:∃k,k<m/\p k
  ·obtain⟨k,h1,h2⟩:=c;exact ih k h1 h2
  ·exact⟨m,h,λk hk hp=>c ⟨k,hk,hp⟩⟩
def asc{n:Nat}{y z:ae}(py:y.Perm (rg n))(pz:z.Perm (rg n))(hb:Below y z)(hne:y≠z):∃i j,i<j/\j<n/\y.getD i 0<y.getD j 0/\Stp.G4 y i j=true/\Below (Iv.sw y i j) z/\Iv.inv (Iv.sw y i j)=Iv.inv y+1/\(Iv.sw y i j).Perm (rg n):=by
 have ly:=ln py;have lz:=ln pz;have ny:y.Nodup:=py.nodup_iff.mpr (mV _ _);have hex:∃i,i<n/\y.getD i 0≠z.getD i 0:=by
  by_cases c:∃i,i<n/\y.getD i 0≠z.getD i 0
  ·exact c
  ·exfalso;refine hne (iz () λi h1 h2=>?_);rw[<- j7,<- j7];by_cases d:y.getD i 0=z.getD i 0
   ·exact d
   ·exact absurd ⟨i,(),d⟩ c
 obtain⟨i0,h0⟩:=hex;obtain⟨i,⟨hi,hd⟩,hmin⟩:=least (p:=λi=>i<n/\y.getD i 0≠z.getD i 0) i0 h0;have ht:y.take i=z.take i:=by
  apply bR;intro k;rw[List.getElem?_take,List.getElem?_take];by_cases c:k<i
  ·rw[aN c,aN c];have e:y.getD k 0=z.getD k 0:=by
    by_cases q:y.getD k 0=z.getD k 0
    ·exact q
    ·exact absurd ⟨(),q⟩ (hmin k c)
   rw[Iv.oK (),Iv.oK (),e]
  ·rw[aM c,aM c]
 obtain⟨hlt,j0,g1,g2,g3⟩:=Iv.part py pz ly lz hb ht hi hd;obtain⟨j,⟨hj1,hj2,hj3,hj4⟩,hjm⟩:=least (p:=λj=>i<j/\j<n/\y.getD i 0<y.getD j 0/\y.getD j 0<=z.getD i 0) j0 ⟨g1,g2,(),()⟩;obtain⟨b1,b2,b3⟩:=Iv.M6 ly lz hb ht hj1 hj2 hj3 hj4 (λk h1 h2 ⟨h3,h4⟩=>hjm k h2 ⟨h1,(),h3,h4⟩) ny;refine⟨i,j,hj1,hj2,hj3,?_,b1,b2,b3.trans py⟩;have:=Stp.Sd ny hj1 (show j<y.length by lia);rw[bq hj3,bq b2,jh]at this;exact this
structure Done (n:Nat)(u w:ae)(es:List (ae×Bool)):Prop where
 nd:(es.map (·.1)).Nodup
 pm:∀e∈es,e.1.Perm (rg n)
 up:∀e∈es,Below u e.1
 fl:∀e∈es,(e.2=true ↔ Below e.1 w)
 st:u∈es.map (·.1)
 cl:∀e∈es,e.2=true->∀i j,i<j->j<n->e.1.getD i 0<e.1.getD j 0->Stp.G4 e.1 i j=true->Iv.sw e.1 i j∈es.map (·.1)
def Done.all{n:Nat}{w:ae}{es:List (ae×Bool)}(d:Done n u w es){z:ae}(pz:z.Perm (rg n))(hz:Below z w):∀(m:Nat) (y:ae),n * n-Iv.inv y=m->y∈es.map (·.1)->Below y z->z∈es.map (·.1):=by
 intro m
 induction m using Nat.strongRecOn with
 | _ m ih=>
  intro y hm hy hb;by_cases c:y=z
  ·rw[<- c];exact hy
  ·obtain⟨⟨y',b⟩,he,hye⟩:=bH.mp hy;have hye:y'=y:=hye;subst hye;have py:y'.Perm (rg n):=d.pm _ he;obtain⟨i,j,h1,h2,h3,h4,h5,h6,h7⟩:=asc py pz hb c;have hm2:=Iv.tP (Iv.sw y' i j);rw[ln h7,h6]at hm2;exact ih (n * n-Iv.inv (Iv.sw y' i j)) () _ rfl (d.cl _ he ((d.fl _ he).mpr (hb.trans hz)) i j h1 h2 h3 h4) h5
def Done.mem{n:Nat}{w:ae}{es:List (ae×Bool)}(d:Done n u w es)(z:ae):z∈(es.filter (·.2)).map (·.1) ↔ z.Perm (rg n)/\Below u z/\Below z w:=by
 rw[bH];constructor
 ·rintro⟨e,he,rfl⟩;obtain⟨h1,h2⟩:=cB.mp he;exact⟨d.pm e h1,d.up e h1,(d.fl e h1).mp h2⟩
 ·rintro⟨pz,h1,h2⟩;have:=d.all pz h2 _ u rfl d.st h1;obtain⟨e,he,rfl⟩:=bH.mp this;exact⟨e,cB.mpr ⟨he,(d.fl e he).mpr h2⟩,rfl⟩
def Done.nodup{n:Nat}{w:ae}{es:List (ae×Bool)}(d:Done n u w es):((es.filter (·.2)).map (·.1)).Nodup:=(d.nd).sublist ((fj (l:=es)).map _)
abbrev ext (n:Nat)(p:ae):List (ae):=((rg n).filter λt=>decide (t∉p)).map λt=>p++[t]
abbrev inj (n:Nat):Nat->List (ae)
 | 0=>[[]]
 | k+1=>(inj n k).flatMap (ext n)
theorem uX{n:Nat}:∀{k:Nat}{p:ae},p∈inj n k ↔ p.length=k/\p.Nodup/\∀t∈p,t∈rg n
 | 0,p=>by
  unfold inj;rw[br];constructor
  ·rintro rfl;simp
  ·rintro⟨h,_⟩;exact dw.mp h
 | k+1,p=>by
  unfold inj;rw[iA];constructor
  ·rintro⟨q,hq,hp⟩;obtain⟨t,ht,rfl⟩:=bH.mp hp;obtain⟨h1,h2⟩:=cB.mp ht;obtain⟨a,b,c⟩:=uX.mp hq;have h2:t∉q:=dJ h2;refine⟨by simp[a],?_,λx hx=>?_⟩
   ·rw[cQ];refine⟨b,by simp,λx hx y hy z=>h2 ?_⟩;have:y=t:=by simpa using hy
    rw[<- this,<- z];exact hx
   ·rcases bu.mp hx with z|z
    ·exact c x z
    ·have:x=t:=by simpa using z
     rw[this];exact h1
  ·rintro⟨h1,h2,h3⟩
   rcases h_ p with c|⟨q,t,c⟩
   ·rw[c]at h1;simp at h1
   ·rw[ie]at c;subst c;rw[cQ]at h2;refine⟨q,uX.mpr ⟨by simpa using h1,h2.1,λx hx=>h3 x (bS _ hx)⟩,bH.mpr ⟨t,cB.mpr ⟨h3 t (by simp),bq λz=>h2.2.2 t z t (by simp) rfl⟩,rfl⟩⟩
def Ac{n:Nat}{p:ae}:p∈inj n n ↔ p.Perm (rg n):=by
 rw[uX];constructor
 ·rintro⟨h1,h2,h3⟩;exact wj h2 h3 (by rw[h1,Wd.jY];exact aS _)
 ·intro p';exact⟨ln p',p'.nodup_iff.mpr (mV _ _),λt ht=>p'.mem_iff.mp ht⟩
theorem F7:∀{a b:ae}(x y:ae),a.length=b.length->HT.lexLt a b=true->HT.lexLt (a++x) (b++y)=true
 | [],[],_,_,_,h=>by cases h
 | [],_::_,_,_,h,_=>by simp at h
 | _::_,[],_,_,h,_=>by simp at h
 | p::a,q::b,x,y,hl,h=>by
  show HT.lexLt (p::(a++x)) (q::(b++y))=true;rw[HT.mR]at h ⊢;by_cases c:p=q
  ·rw[aN c]at h ⊢;exact F7 x y (by simpa using hl) h
  ·rw[aM c]at h ⊢;exact h
theorem Cp:∀(p:ae) {s t:Int},s<t->HT.lexLt (p++[s]) (p++[t])=true
 | [],s,t,h=>by
  show HT.lexLt [s] [t]=true;rw[HT.mR,aM (),bq h]
 | x::p,s,t,h=>by
  show HT.lexLt (x::(p++[s])) (x::(p++[t]))=true;rw[HT.mR,aN rfl];exact Cp p h
theorem zK{n:Nat}:∀(k:Nat),(inj n k).Pairwise λa b=>HT.lexLt a b=true
 | 0=>dZ _ _
 | k+1=>by
  unfold inj;rw[List.pairwise_flatMap];refine⟨λp hp=>?_,eW (λ{a b} ha hb hab x hx y hy=>?_) (zK k)⟩
  ·unfold ext;rw[dG];refine gU (λ{a b} hab=>Cp p hab) ?_;exact(Nu.Jz _ _).sublist fj
  ·obtain⟨s,_,rfl⟩:=bH.mp hx;obtain⟨t,_,rfl⟩:=bH.mp hy;exact F7 [s] [t] (by rw[(uX.mp ha).1,(uX.mp hb).1]) hab
def Uc{a:ae}(h:HT.lexLt a b=true):G0 a b:=by
 show HT.lexLt b a=false
 cases c:HT.lexLt b a with
 | false=>rfl
 | true=>
  have:=Sx.yI h c;rw[Sx.sE]at this;cases this
def UJ{n:Nat}{w:ae}{fs:List (ae)}(nf:fs.Nodup)(hm:∀z,z∈fs ↔ z.Perm (rg n)/\Below u z/\Below z w)(q:ae->Bool)(hq:∀z,z.Perm (rg n)->(q z=true ↔ Below u z/\Below z w)):mZ fs=(inj n n).filter q:=by
 symm
 refine yk ?_ ?_
 ·have nd:((inj n n).filter q).Nodup:=by
   refine ig fj (gU (λ{a b} h z=>?_) (zK n));rw[z,Sx.sE]at h;cases h
  refine(fV nd nf).mpr λz=>?_;rw[hm,cB,Ac];constructor
  ·rintro⟨h1,h2⟩;exact⟨h1,(hq z h1).mp h2⟩
  ·rintro⟨h1,h2⟩;exact⟨h1,(hq z h1).mpr h2⟩
 ·exact ig fj (gU Uc (zK n))
def Done.told{n:Nat}{w:ae}{es:List (ae×Bool)}(d:Done n u w es)(q:ae->Bool)(hq:∀z,z.Perm (rg n)->(q z=true ↔ Below u z/\Below z w)):mZ ((es.filter (·.2)).map (·.1))=(inj n n).filter q:=UJ d.nodup d.mem q hq
end Eu
namespace Eu
open PySem L2 Bl Am
open Fw (rg)
def mono{n:Nat}{z:ae}(pz:z.Perm (rg n)):∀(m:Nat) (y:ae),n * n-Iv.inv y=m->y.Perm (rg n)->Below y z->Iv.inv y<=Iv.inv z/\(Iv.inv y=Iv.inv z->y=z):=by
 intro m
 induction m using Nat.strongRecOn with
 | _ m ih=>
  intro y hm py hb;by_cases c:y=z
  ·subst c;exact⟨aS _,λ_=>rfl⟩
  ·obtain⟨i,j,h1,h2,h3,h4,h5,h6,h7⟩:=asc py pz hb c;have hm2:=Iv.tP (Iv.sw y i j);rw[ln h7,h6]at hm2;have:=(ih (n * n-Iv.inv (Iv.sw y i j)) () _ rfl h7 h5).1;exact⟨(),λq=>()⟩
abbrev Up (n:Nat)(a l:ae):Prop:=∃i j,i<j/\j<n/\a.getD i 0<a.getD j 0/\Stp.G4 a i j=true/\l=Iv.sw a i j
def last{n:Nat}{w z:ae}(pw:w.Perm (rg n))(pz:z.Perm (rg n))(hb:Below w z)(h:Iv.inv z=Iv.inv w+1):Up n w z:=by
 obtain⟨i,j,h1,h2,h3,h4,h5,h6,h7⟩:=asc pw pz hb (λq=>by rw[q]at h;lia);exact⟨i,j,h1,h2,h3,h4,((mono pz _ _ rfl h7 h5).2 ()).symm⟩
structure Cb (n:Nat)(x y:ae)(k:Nat)(la fs:List (ae)):Prop where
 ly:∀z∈la,z.Perm (rg n)/\Below x z/\Iv.inv z=Iv.inv x+k
 fo:∀z,z.Perm (rg n)->Below x z->Below z y->Iv.inv z=Iv.inv x+k->z∈la
 fd:∀f,f∈fs ↔ f.Perm (rg n)/\Below x f/\Below f y/\Iv.inv f<Iv.inv x+k
 nl:la.Nodup
 nf:fs.Nodup
end Eu
namespace Po
open Am
meta abbrev Pl:=List (Int×Int)
abbrev val (d:Pl)(k:Int):Int:=((d.find? λp=>decide (p.1=k)).map (·.2)).getD 0
abbrev has (d:Pl)(k:Int):Bool:=d.any λp=>decide (p.1=k)
abbrev put (d:Pl)(k v:Int):Pl:=if has d k=true then d.map (λp=>if p.1=k then(p.1,v)else p)else d++[(k,v)]
abbrev acc (d:Pl)(k v:Int):Pl:=put d k (val d k+v)
abbrev cf:Pl->Int->Int
 | [],_=>0
 | p::l,k=>(if p.1=k then p.2 else 0)+cf l k
abbrev T6 (d ps:Pl):Pl:=ps.foldl (λd p=>acc d p.1 p.2) d
structure Ok (l:Pl):Prop where
 up:l.Pairwise λp q=>p.1<q.1
 nz:∀p∈l,p.2≠0
abbrev WK (d:Pl):Pl:=((sortI (d.map Prod.fst)).filter λk=>val d k != 0).map λk=>(k,val d k)
abbrev TV (a b:Pl):Pl:=WK (T6 [] (a++b))
abbrev Xd (a b:Pl):Pl:=a.flatMap λp=>b.map λq=>(p.1+q.1,p.2 * q.2)
abbrev times (a b:Pl):Pl:=WK (T6 [] (Xd a b))
abbrev turn (a:Pl):Pl:=a.reverse.map λp=>(-p.1,p.2)
def D_{a:Pl}(h:Ok a):Ok (turn a):=by
 refine⟨?_,λp hp=>?_⟩
 ·unfold turn;rw[dG,List.pairwise_reverse];exact h.up.imp λc=>by show _<_;simp;lia
 ·obtain⟨q,hq,rfl⟩:=bH.mp hp;exact h.nz q (iB.mp hq)
abbrev iv (d:Pl):List (Int×A):=d.map λp=>(p.1,.int p.2)
abbrev pA (p:Int×Int):A:=.tup [.int p.1,.int p.2]
abbrev pl (l:Pl):ad:=l.map pA
end Po
namespace Su
open Am Po PySem L2
meta abbrev En:=ae×Nat×Pl
meta abbrev Es:=List En
abbrev kv (e:En):ae×A:=(e.1,.ref e.2.1)
abbrev At (S:jL)(es:Es):Prop:=∀e∈es,jH S e.2.1=some (pl e.2.2)
meta abbrev Ps:=List (ae×Pl)
abbrev sm (es:Es):Ps:=es.map λe=>(e.1,e.2.2)
abbrev vS (D:Ps)(o:ae):Pl:=((D.find? λe=>decide (e.1=o)).map (·.2)).getD []
abbrev hS (D:Ps)(o:ae):Bool:=D.any λe=>decide (e.1=o)
abbrev Wb (D:Ps)(o:ae)(p:Pl):Ps:=if hS D o=true then D.map (λe=>if e.1=o then(e.1,p)else e)else D++[(o,p)]
abbrev VX (D:Ps)(o:ae)(p:Pl):Ps:=Wb D o (TV (vS D o) p)
abbrev adds (D l:Ps):Ps:=l.foldl (λD e=>VX D e.1 e.2) D
abbrev toS (D:Ps):Ps:=((mZ (D.map Prod.fst)).filter λo=>!(vS D o).isEmpty).map λo=>(o,vS D o)
abbrev fE (D:Es)(o:ae):Option En:=D.find? λe=>decide (e.1=o)
abbrev Vl (k b:Nat)(D:Es):Prop:=∀e∈D,Ok e.2.2/\e.2.2.length<=k/\b<=e.2.1
def zV{S:jL}:j8 (S++[.dct xs]) S.length=some xs:=o4 K2
def Ak{o:O}{n:Nat}(h:j8 S n=some xs):j8 (S++[o]) n=some xs:=by
 have h':=lY h;exact o4 (by rw[bC (aK.mp h').1];exact h')
def Aj{S:jL}{n:Nat}(h:j8 S n=some xs):n<S.length:=(aK.mp (lY h)).1
def Ai{S:jL}{n:Nat}(h:n<S.length):j8 (S.set n (.dct ys)) n=some ys:=o4 (bM h)
abbrev PX (D:Es)(p:Pl->Bool):Es:=((mZ (D.map Prod.fst)).filter λo=>p (vS (sm D) o)).map λo=>(o,((fE D o).map λe=>e.2.1).getD 0,vS (sm D) o)
abbrev Ap (D:Es):Prop:=D.Pairwise λe f=>e.1≠f.1/\e.2.1≠f.2.1
structure Fil (T:jL)(d b i j:Nat)(P:Ps)(D:Es):Prop where
 dd:j8 T d=some (D.map kv)
 aa:At T D
 ss:sm D=P
 vv:Vl (i * j) b D
 kk:∀e∈D,e.1≠[]
 ll:D.length<=i
 pw:Ap D
end Su
namespace Su
open Am Po PySem L2
abbrev cS (l:Ps)(o:ae)(t:Int):Int:=match l with
 | []=>0
 | e::l=>(if e.1=o then cf e.2 t else 0)+cS l o t
meta abbrev AF:Pl:=[((-1:Int),(1:Int)),((1:Int),(-1:Int))]
structure Gd (D:Ps):Prop where
 nd:(D.map Prod.fst).Nodup
 ok:∀e∈D,Ok e.2
abbrev yf (o:ae)(k:Nat):Bool:=decide (o.getD (k-1) 0>o.getD k 0)
abbrev Xk (k:Nat)(l:Ps):Ps:=l.flatMap λe=>(Wd.ex e.1 k,e.2)::(if yf e.1 k=true then[(e.1,times AF e.2)]else[])
abbrev bx (k:Nat)(l:Ps):Ps:=toS (adds [] (Xk k l))
def TJ{k:Nat}{o:ae}(h1:1<=k)(h2:k<o.length):(Wd.ex o k).getD (k-1) 0=o.getD k 0/\(Wd.ex o k).getD k 0=o.getD (k-1) 0:=by
 constructor
 ·rw[aI,Wd.nF h1 h2,aM (),aN rfl,aI]
 ·rw[aI,Wd.nF h1 h2,aN rfl,aI]
def N1{l:Ps}{t:Int}(h:∀e∈l,e.1≠o):cS l o t=0:=by
 induction l with
 | nil=>rfl
 | cons e l ih=>
  show(if e.1=o then _ else 0)+cS l o t=0;rw[aM (h e (aP ..)),ih λf hf=>h f (aQ _ hf)];rfl
end Su
namespace He
open PySem L2 Am
open Fw (Two rg Av)
open Bl (n_)
open Su (yf)
meta abbrev Fn:=ae->Int->Int
abbrev dl (g:Int->Int)(t:Int):Int:=g (t+1)-g (t-1)
abbrev X (k:Nat)(f:Fn):Fn:=λo t=>f (Wd.ex o k) t+if yf o k=true then dl (f o) t else 0
def su{n:Nat}{v:ae}(h:Two n o u)(h':Two n o v):u=v:=by
 have l1:=h.lu;have l2:=h'.lu;have l3:=h.lo;apply bR;intro q;by_cases hq:q<n
 ·obtain⟨p,hp,ep⟩:∃p,∃hp:p<o.length,o[p]=(q:Int)+1:=by
   have:(q:Int)+1∈o:=h.po.mem_iff.mpr (kG.mpr ⟨(),()⟩);obtain⟨p,hp,ep⟩:=List.getElem_of_mem this;exact⟨p,hp,ep⟩
  have a1:=h.ou.2 p hp;have a2:=h'.ou.2 p hp;rw[ep,show((q:Int)+1-1).toNat=q by lia]at a1 a2;rw[a1,a2]
 ·rw[bG (),bG ()]
abbrev bk (o:ae):ae:=(List.range o.length).map λi:Nat=>((o.idxOf ((i:Int)+1):Nat):Int)+1
def pW{n:Nat}{o:ae}(h:o.Perm (rg n)):Two n o (bk o):=by
 have lo:o.length=n:=by rw[h.length_eq,Wd.jY]
 have nd:o.Nodup:=h.nodup_iff.mpr (mV _ _);have mem:∀i,i<n->(i:Int)+1∈o:=λi hi=>h.mem_iff.mpr (kG.mpr ⟨(),()⟩);have ix:∀i,i<n->o.idxOf ((i:Int)+1)<n:=λi hi=>by rw[<- lo];exact List.idxOf_lt_length_iff.mpr (mem i hi)
 have get:∀i (hi:i<n),o[o.idxOf ((i:Int)+1)]'(by rw[lo];exact ix i hi)=(i:Int)+1:=λi hi=>List.getElem_idxOf _;refine⟨h,?_,?_,λp hp=>?_⟩
 ·have p:=Am.yu (N:=n) (g:=λi=>o.idxOf ((i:Int)+1)) ix λi j hij hj z=>by
   have a:=get i ();have b:=get j hj;dsimp[z]at a;rw[b]at a
   lia
  have p2:=p.map λi:Nat=>(i:Int)+1;rw[bJ]at p2;unfold bk;rw[lo];refine List.Perm.trans p2 ?_;have:(List.range n).map (λi:Nat=>(i:Int)+1)=rg n:=by
   apply bR;intro q;rw[aR];by_cases c:q<n
   ·rw[cj c,Wd.sH c];rfl
   ·rw[bG (by rw[cP];lia),bG (by rw[Wd.jY];lia)];rfl
  rw[this]
 ·unfold bk;rw[aL,cP]
 ·have m:=kG.mp (h.mem_iff.mp (c_ hp));have hq:(o[p]-1).toNat<o.length:=()
  unfold bk;rw[aR,cj hq];show some (((o.idxOf (((o[p]-1).toNat:Int)+1):Nat):Int)+1)=_;rw[show((o[p]-1).toNat:Int)+1=o[p]by lia,nd.idxOf_getElem]
def FH{n:Nat}{o:ae}(h:o.Perm (rg n)):bk (bk o)=o:=su (pW (pW h).pu) (pW h).flip
def sQ{n:Nat}{o:ae}(h:o.Perm (rg n)):(bk o).Perm (rg n):=(pW h).pu
def Tq{n k:Nat}{o:ae}(h:o.Perm (rg n))(h0:1<=k)(h1:k<n):bk (Wd.ex o k)=(bk o).map (Wd.sw k):=by
 have t:=((pW h).flip.step h0 h1).flip;exact su (pW t.po) t
def sC{n k p:Nat}{o u:ae}(t:Two n o u)(h1:1<=k)(h2:k<=n)(hp:o.getD p 0=(k:Int))(hpn:p<n):u.getD (k-1) 0=(p:Int)+1:=by
 have lo:=t.lo;have lp:p<o.length:=()
 have:=t.ou.2 p lp;rw[Wd.j7 lp]at hp;rw[hp,show((k:Int)-1).toNat=k-1 by lia]at this;rw[aI,this];rfl
def nb{n k:Nat}{o:ae}(h:o.Perm (rg n))(h0:1<=k)(h1:k<n):o.getD (k-1) 0≠o.getD k 0:=λz=>by
 have lo:o.length=n:=by rw[h.length_eq,Wd.jY]
 have nd:o.Nodup:=h.nodup_iff.mpr (mV _ _);rw[Wd.j7 (),Wd.j7 ()]at z;have:=(c8 nd).mp z
 lia
abbrev Pr (o:ae)(k j:Nat):Prop:=(o.getD (k-1) 0=j/\o.getD k 0=(j:Int)+1)\/(o.getD (k-1) 0=(j:Int)+1/\o.getD k 0=j)
def La{n k:Nat}{u:ae}(h:u.Perm (rg n))(h0:1<=j)(h1:j<n):(Pr u j k->yf (u.map (Wd.sw k)) j=!yf u j)/\(¬Pr u j k->yf (u.map (Wd.sw k)) j=yf u j):=by
 have lu:u.length=n:=by rw[h.length_eq,Wd.jY]
 have ne:=nb h h0 h1;have e1:(u.map (Wd.sw k)).getD (j-1) 0=Wd.sw k (u.getD (j-1) 0):=by
  rw[Wd.j7 (by rw[aL];lia),Wd.j7 (),dR]
 have e2:(u.map (Wd.sw k)).getD j 0=Wd.sw k (u.getD j 0):=by
  rw[Wd.j7 (by rw[aL];lia),Wd.j7 (),dR]
 unfold yf Pr;rw[e1,e2];generalize u.getD (j-1) 0=a at *
 generalize u.getD j 0=b at *
 constructor
 ·rintro(⟨z1,z2⟩|⟨z1,z2⟩)
  ·subst z1;subst z2;unfold Wd.sw;rw[aN rfl,aM (),aN rfl,bq (),bh ()];rfl
  ·subst z1;subst z2;unfold Wd.sw;rw[aM (),aN rfl,aN rfl,bh (),bq ()];rfl
 ·intro z;rw[jk];unfold Wd.sw;split<;>split<;>(try split)<;>(try split)<;>lia
def wM{n k:Nat}(t:Two n o u)(h0:1<=k)(h1:k<n)(h2:1<=j)(h3:j<n)(h:Pr o k j):Pr u j k:=by
 rcases h with⟨z1,z2⟩|⟨z1,z2⟩
 ·have a:=sC t h2 () z1 ();have b:=sC t (k:=j+1) () () (by rw[z2];lia) h1;rw[iZ]at b;exact .inl ⟨by rw[a];lia,by rw[b]⟩
 ·have a:=sC t (k:=j+1) () () (by rw[z1];lia) (show k-1<n by lia);have b:=sC t h2 () z2 h1;rw[iZ]at a;exact .inr ⟨by rw[b],by rw[a];lia⟩
def P0{n k:Nat}(t:Two n o u)(h0:1<=k)(h1:k<n)(h2:1<=j)(h3:j<n)(h:Pr o k j):yf u j=yf o k:=by
 have a:∀x y:ae,∀i m:Nat,x.getD (i-1) 0=(m:Int)->x.getD i 0=(m:Int)+1->yf x i=false:=λx y i m p q=>by
  unfold yf;rw[p,q];exact bh ()
 have b:∀x y:ae,∀i m:Nat,x.getD (i-1) 0=(m:Int)+1->x.getD i 0=(m:Int)->yf x i=true:=λx y i m p q=>by
  unfold yf;rw[p,q];exact bq ()
 rcases h with⟨z1,z2⟩|⟨z1,z2⟩
 ·rw[a o [] k j z1 z2]
  rcases wM t h0 h1 h2 h3 (.inl ⟨z1,z2⟩)with⟨y1,y2⟩|⟨y1,y2⟩
  ·exact a u [] j k y1 y2
  ·have:=sC t h2 () z1 ();lia
 ·rw[b o [] k j z1 z2]
  rcases wM t h0 h1 h2 h3 (.inr ⟨z1,z2⟩)with⟨y1,y2⟩|⟨y1,y2⟩
  ·have:=sC t h2 () z2 h1;lia
  ·exact b u [] j k y1 y2
abbrev L (j:Nat)(f:Fn):Fn:=λo t=>f (o.map (Wd.sw j)) t+if yf (bk o) j=true then dl (f o) t else 0
def MR{n k:Nat}{o:ae}(h:o.Perm (rg n))(h0:1<=k)(h1:k<n)(hp:Pr o k j):o.map (Wd.sw j)=Wd.ex o k:=by
 have lo:o.length=n:=by rw[h.length_eq,Wd.jY]
 have nd:o.Nodup:=h.nodup_iff.mpr (mV _ _);apply bR;intro p;rw[Wd.nF h0 (),aR];unfold Pr at hp;rw[Wd.j7 (),Wd.j7 ()]at hp;by_cases c1:p=k
 ·subst c1;rw[aN rfl,aH (),aH (),eN];congr 1;unfold Wd.sw
  rcases hp with⟨z1,z2⟩|⟨z1,z2⟩
  ·rw[z1,z2,aM (),aN rfl]
  ·rw[z1,z2,aN rfl]
 ·rw[aM c1];by_cases c2:p=k-1
  ·subst c2;rw[aN rfl,aH (),aH (),eN];congr 1;unfold Wd.sw
   rcases hp with⟨z1,z2⟩|⟨z1,z2⟩
   ·rw[z1,z2,aN rfl]
   ·rw[z1,z2,aM (),aN rfl]
  ·rw[aM c2];by_cases c3:p<o.length
   ·rw[aH c3,eN];congr 1;have n1:o[p]≠o[k]:=λz=>c1 ((c8 nd).mp z);have n2:o[p]≠o[k-1]:=λz=>c2 ((c8 nd).mp z);unfold Wd.sw
    rcases hp with⟨z1,z2⟩|⟨z1,z2⟩
    ·rw[aM (by rw[<- z1];exact n2),aM (by rw[<- z2];exact n1)]
    ·rw[aM (by rw[<- z2];exact n1),aM (by rw[<- z1];exact n2)]
   ·rw[bG ()];rfl
def H_(j:Nat)(o:ae):(o.map (Wd.sw j)).map (Wd.sw j)=o:=by
 rw[bJ];have:(Wd.sw j ∘ Wd.sw j)=id:=funext λx=>by
  show Wd.sw j (Wd.sw j x)=x;unfold Wd.sw;split<;>(try split)<;>(try split)<;>lia
 rw[this,map_id]
def comm{n k:Nat}(f:Fn){o:ae}(h:o.Perm (rg n))(h0:1<=k)(h1:k<n)(h2:1<=j)(h3:j<n)(t:Int):X k (L j f) o t=L j (X k f) o t:=by
 have lo:o.length=n:=by rw[h.length_eq,Wd.jY]
 have tw:=pW h;have e1:(Wd.ex o k).map (Wd.sw j)=Wd.ex (o.map (Wd.sw j)) k:=(Wd.ex_map _ h0 ()).symm;have e2:=Tq h h0 h1;have f1:=La (k:=j) h h0 h1;have f2:=La (k:=k) tw.pu h2 h3;unfold X L dl;dsimp only;rw[e1,e2];by_cases c:Pr o k j
 ·have c':=wM tw h0 h1 h2 h3 c;have e3:=MR h h0 h1 c;rw[f1.1 c,f2.1 c',P0 tw h0 h1 h2 h3 c,<- e3]
 ·have c':¬Pr (bk o) j k:=λz=>c (wM tw.flip h2 h3 h0 h1 z);rw[f1.2 c,f2.2 c']
  cases yf o k<;>cases yf (bk o) j
  ·dsimp[bw,b8]
  ·dsimp[bw,c6,b8];lia
  ·dsimp[bw,c6,b8];lia
  ·dsimp[c6];lia
abbrev Xc (n:Nat)(f g:Fn):Prop:=∀o:ae,o.Perm (rg n)->∀t,f o t=g o t
def xB{n k:Nat}{o:ae}(h:o.Perm (rg n))(h0:1<=k)(h1:k<n):(Wd.ex o k).Perm (rg n):=(Wd.zR h0 (by rw[h.length_eq,Wd.jY];exact h1)).trans h
abbrev Va (n:Nat)(w:ag):Prop:=∀k∈w,1<=k/\k<n
abbrev Xw (w:ag)(f:Fn):Fn:=w.foldl (λf k=>X k f) f
abbrev D (u:ae)(g:Int->Int):Fn:=λo t=>if o=u then g t else 0
def yx(n:Nat):(rg n).Perm (rg n):=.refl _
theorem vm{n:Nat}:∀(m:Nat) {u:ae},u.Perm (rg n)->Iv.inv u=m->∃w,Wd.kj (rg n) w/\Wd.led (rg n) w=u
 | 0,u,hu,hm=>by
  refine⟨[],trivial,(Fw.Ew hu λk hk=>?_).symm⟩;have:=Fw.uf hk.1 hk.2.1 hk.2.2
  lia
 | m+1,u,hu,hm=>by
  obtain⟨k,hk⟩:=Fw.NU (l:=u) ();have lu:u.length=n:=by rw[hu.length_eq,Wd.jY]
  have hd:=Fw.uf hk.1 hk.2.1 hk.2.2;obtain⟨w,h1,h2⟩:=vm m (xB hu hk.1 (by rw[<- lu];exact hk.2.1)) ();obtain⟨e1,e2⟩:=Su.TJ (o:=u) hk.1 hk.2.1;refine⟨w++[k],Wd.kj.snoc h1 hk.1 (by rw[Wd.jY,<- lu];exact hk.2.1) (by rw[h2,e1,e2];exact hk.2.2),?_⟩;rw[Wd.wY,h2];exact Fw.zJ hk.1 hk.2.1
abbrev add (f g:Fn):Fn:=λo t=>f o t+g o t
end He
namespace He
open PySem L2 Am Po
open Fw (Two rg Av)
open Su (yf Ps cS)
abbrev cv:Pl->(Int->Int)->Int->Int
 | [],_,_=>0
 | q::p,g,t=>q.2 * g (t-q.1)+cv p g t
abbrev Wa (p:Pl)(f:Fn):Fn:=λo t=>cv p (f o) t
abbrev sw (n:Nat)(o:ae):ag:=by
 classical
 exact if h:o.Perm (rg n)then(vm _ h rfl).choose else[]
def Bo{n:Nat}{o:ae}(h:o.Perm (rg n)):Wd.kj (rg n) (sw n o)/\Wd.led (rg n) (sw n o)=o:=by
 unfold sw;rw[dif_pos h];exact(vm _ h rfl).choose_spec
def OT{n:Nat}{o:ae}(h:o.Perm (rg n)):Va n (sw n o):=λk hk=>by have:=Wd.kj.valid (Bo h).1 k hk;rwa [Wd.jY]at this
abbrev RG (G:ae->Fn):Ps->Fn
 | []=>λ_ _=>0
 | e::m=>add (Wa e.2 (G e.1)) (RG G m)
abbrev R (n:Nat)(m:Ps)(f:Fn):Fn:=RG (λo=>Xw (sw n o) f) m
abbrev Xm (p:Pl)(l:Ps):Ps:=l.map λx=>(x.1,times p x.2)
def off{n:Nat}{m:Ps}(hm:∀x∈m,x.1.Perm (rg n)){o:ae}(h:¬o.Perm (rg n))(t:Int):cS m o t=0:=Su.N1 λe he z=>h (by rw[<- z];exact hm e he)
def IS{n:Nat}{m m':Ps}(hm:∀x∈m,x.1.Perm (rg n))(hm':∀x∈m',x.1.Perm (rg n))(h:Xc n (cS m) (cS m')):∀o t,cS m o t=cS m' o t:=λo t=>by
 by_cases c:o.Perm (rg n)
 ·exact h o c t
 ·rw[off hm c,off hm' c]
abbrev B (f:Fn):Fn:=λo=>f (bk o)
abbrev d0:Int->Int:=λt=>if t=0 then 1 else 0
end He
namespace He
open PySem L2 Am Po
open Fw (Two rg Av)
open Su (yf Ps cS Gd vS toS adds bx)
structure Cn (l:Ps):Prop where
 gd:Gd l
 eq:toS l=l
abbrev Wy (l m:Ps):Ps:=toS (adds [] (l++m))
abbrev one (n:Nat):Ps:=[(rg n,[((0:Int),(1:Int))])]
end He
namespace He
open PySem L2 Am Po
open Fw (Two rg Av)
open Su (yf Ps cS Gd vS toS adds bx)
abbrev arr:Nat->ae->List (ae)
 | 0,_=>[[]]
 | m+1,l=>l.flatMap λx=>(arr m (l.erase x)).map (x::·)
structure FB (n P C:Nat)(f:Fn):Prop where
 c:∀o,o.Perm (rg n)->∀t,(f o t).natAbs<=C
 p:∀o,o.Perm (rg n)->∀t:Int,P<t.natAbs->f o t=0
structure PB (Q c:Nat)(p:Pl):Prop where
 c:∀q∈p,q.2.natAbs<=c
 p:∀q∈p,q.1.natAbs<=Q
theorem qo:∀{w:ag}{l:ae},Wd.kj l w->Iv.inv (Wd.led l w)=Iv.inv l+w.length
 | [],_,_=>rfl
 | k::w,l,h=>by
  have:=qo h.2.2.2;rw[Fw.vM h.1 h.2.1 h.2.2.1]at this;show Iv.inv (Wd.led (Wd.ex l k) w)=_+(w.length+1)
  lia
def z6{n:Nat}{o:ae}(h:o.Perm (rg n)):(sw n o).length=Iv.inv o:=by
 obtain⟨a,b⟩:=Bo h;have:=qo a;rw[b,Fw.rO]at this
 lia
structure Sz (n P C:Nat)(l:Ps):Prop where
 cn:Cn l
 pm:∀x∈l,x.1.Perm (rg n)
 fb:FB n P C (cS l)
end He
namespace He
open PySem L2 Am Po
open Fw (Two rg Av)
open Su (yf Ps cS Gd vS toS adds bx)
def ex_map(f:Int->Int){o:ae}{k:Nat}(h0:1<=k)(h1:k<o.length):Wd.ex (o.map f) k=(Wd.ex o k).map f:=by
 apply bR;intro p;rw[Wd.nF h0 (by rw[aL];exact h1),aR,aR,aR,aR,Wd.nF h0 h1];split
 ·rfl
 ·split<;>rfl
theorem wB(f:Int->Int):∀{w:ag}{o:ae},(∀k∈w,1<=k/\k<o.length)->Wd.led (o.map f) w=(Wd.led o w).map f
 | [],_,_=>rfl
 | k::w,o,v=>by
  have v1:=v k (aP ..);show Wd.led (Wd.ex (o.map f) k) w=(Wd.led (Wd.ex o k) w).map f;rw[ex_map f v1.1 v1.2];exact wB f λj hj=>by rw[Wd.mz];exact v j (aQ _ hj)
theorem A2{n:Nat}:∀{w:ag}{l:ae},l.Perm (rg n)->Va n w->Iv.inv (Wd.led l w)<=Iv.inv l+w.length/\(Iv.inv (Wd.led l w)=Iv.inv l+w.length->Wd.kj l w)
 | [],l,_,_=>⟨aS _,λ_=>trivial⟩
 | k::w,l,p,v=>by
  have v1:=v k (aP ..);have ll:l.length=n:=by rw[p.length_eq,Wd.jY]
  obtain⟨i1,i2⟩:=A2 (w:=w) (xB p v1.1 v1.2) λj hj=>v j (aQ _ hj);have i1:Iv.inv (Wd.led l (k::w))<=Iv.inv (Wd.ex l k)+w.length:=i1;have i2:Iv.inv (Wd.led l (k::w))=Iv.inv (Wd.ex l k)+w.length->Wd.kj (Wd.ex l k) w:=i2;rw[bF]
  rcases iU 0 0 with z|_
  ·lia
  ·by_cases c:l.getD (k-1) 0<l.getD k 0
   ·have u:=Fw.vM v1.1 () c;exact⟨(),λh=>⟨v1.1,(),c,i2 ()⟩⟩
   ·have ne:=nb p v1.1 v1.2;have u:=Fw.uf v1.1 () (show l.getD k 0<l.getD (k-1) 0 by lia);exact⟨(),λh=>absurd h ()⟩
theorem Ii{n:Nat}:∀{w:ag}{l:ae},l.Perm (rg n)->Va n w->(Wd.led l w).Perm (rg n)
 | [],_,p,_=>p
 | k::w,l,p,v=>Ii (w:=w) (xB p (v k (aP ..)).1 (v k (aP ..)).2) λj hj=>v j (aQ _ hj)
end He
namespace He
open PySem L2 Am Po
open Fw (Two rg Av)
open Su (yf Ps cS Gd vS toS adds bx)
def NR{n:Nat}{w:ag}(h:Wd.kj (rg n) w):Wd.kj (rg n) w.reverse:=by
 have va:Va n w:=λk hk=>by have:=Wd.kj.valid h k hk;rwa [Wd.jY]at this
 have var:Va n w.reverse:=λk hk=>va k (iB.mp hk);have pr:=Ii (yx n) var;obtain⟨z1,z2⟩:=Bo pr;have vz:=OT pr;have vzr:Va n (sw n (Wd.led (rg n) w.reverse)).reverse:=λk hk=>vz k (iB.mp hk);have b1:=Wd.oO (sw n (Wd.led (rg n) w.reverse)).reverse vzr;rw[iE,z2]at b1;have e:=su ⟨pr,Ii (yx n) vzr,b1⟩ ⟨pr,Ii (yx n) va,Wd.oO w va⟩;have l1:=(A2 (yx n) vzr).1;rw[e,Fw.rO,d8,z6 pr]at l1;have l2:=qo h;have l3:=(A2 (yx n) var).1;refine(A2 (yx n) var).2 ?_;rw[Fw.rO,d8]at *
 lia
abbrev Y (k:Nat)(f:Fn):Fn:=λo t=>X k f o t-dl (f o) t
abbrev LB:Pl:=[((-1:Int),(-1:Int)),((1:Int),(1:Int))]
abbrev Xy (p:Pl)(l:Ps):Ps:=toS (adds [] (Xm p l))
abbrev yb (k:Nat)(l:Ps):Ps:=Wy (bx k l) (Xy LB l)
abbrev Xh (w:ag)(l:Ps):Ps:=w.foldl (λl k=>yb k l) l
abbrev tO (n:Nat)(w:ag):Ps:=Xh w (one n)
structure Fwd (n:Nat)(W:ae->ag):Prop where
 r:∀o,o.Perm (rg n)->Wd.kj (rg n) (W o)
 e:∀o,o.Perm (rg n)->Wd.led (rg n) (W o)=o
end He
namespace He
open PySem L2 Am Po
open Fw (Two rg Av Dn)
open Su (yf Ps cS Gd vS toS adds bx)
def Kx{n:Nat}{o:ae}(po:o.Perm (rg n)):Iv.inv (bk o)=Iv.inv o:=by
 obtain⟨a,b⟩:=Bo po;have va:=OT po;have var:Va n (sw n o).reverse:=λk hk=>va k (iB.mp hk);have c:=Wd.oO (sw n o).reverse var;rw[iE,b]at c;have e:=su ⟨po,Ii (yx n) var,c⟩ (pW po);have l:=qo (NR a);rw[e,Fw.rO,d8,z6 po]at l
 lia
abbrev fwd (o:ae):ag:=(Fw.Gb _ (bk o) (aS _)).choose
abbrev W_:Nat->ae->ag
 | 0,_=>[]
 | m+1,o=>match (fwd o).getLast? with
  | none=>[]
  | some k=>W_ m (Wd.ex o k)++[k]
abbrev vw (o:ae):ag:=W_ (Iv.inv o) o
end He
namespace Eu
open PySem L2 Bl Am
open Wd (ex led kj)
open Fw (rg)
theorem EW(x:Int):∀(l:ae),Iv.kT l [x]=l.countP (λy=>decide (x<y))
 | []=>rfl
 | y::l=>by
  rw[Iv.nO,EW x l,bT,bT,iM,fB,Nat.add_comm]
def Ls(x:Int)(l:ae):Iv.inv (l++[x])=Iv.inv l+l.countP (λy=>decide (x<y)):=by
 rw[Iv.kc,EW];show _+0+_=_
 lia
def yi{n k:Nat}{v z:ae}(pv:v.Perm (rg n))(pz:z.Perm (rg n))(h0:1<=k)(h:k<n)(hr:v.getD (k-1) 0<v.getD k 0):Below z (ex v k) ↔ Below z v\/(z.getD k 0<z.getD (k-1) 0/\Below (ex z k) v):=by
 have pe:=Qu pv h0 h;have le:k<(ex v k).length:=by rw[ln pe];exact h
 have lz:z.length=(ex v k).length:=by rw[ln pe,ln pz]
 have hf:(ex v k).getD k 0<(ex v k).getD (k-1) 0:=by rw[hi pv h0 h,lo pv h0 h];exact hr
 have ee:=Rf pv h0 h;constructor
 ·intro b;by_cases c:z.getD (k-1) 0<=z.getD k 0
  ·have:=low lz h0 le hf c b;rw[ee]at this;exact .inl this
  ·have:=Wq lz h0 le hf () b;rw[ee]at this;exact .inr ⟨(),this⟩
 ·rintro(b|⟨_,b⟩)
  ·exact b.trans (XC pv h0 h hr)
  ·have:=Xr (Qu pz h0 h) pv h0 h hr b;rw[Rf pz h0 h]at this;exact this
def Ju{α:Type}{a b:List α}(ha:a.Nodup)(hb:b.Nodup)(h:∀z,z∈a ↔ z∈b)(p:α->Bool):a.countP p=b.countP p:=(List.Perm.countP_eq p ((fV ha hb).mpr h))
structure Lo (n:Nat)(a:ae)(ks:List (ae)):Prop where
 nd:ks.Nodup
 mm:∀z,z∈ks ↔ z.Perm (rg n)/\Below z a
def Lo.cnt{n:Nat}{a:ae}{ks ls:List (ae)}(h:Lo n a ks)(h':Lo n a ls)(p:ae->Bool):ks.countP p=ls.countP p:=Ju h.nd h'.nd (λz=>(h.mm z).trans (h'.mm z).symm) p
def Lo.back{n:Nat}{a:ae}{ks:List (ae)}(pa:a.Perm (rg n))(h:Lo n a ks):Lo n (He.bk a) (ks.map He.bk) where
 nd:=by
  refine dG.mpr (eW (λ{x y} hx hy ne e=>ne ?_) h.nd);rw[<- He.FH ((h.mm x).mp hx).1,<- He.FH ((h.mm y).mp hy).1,e]
 mm:=λz=>by
  have key:∀{y:ae},y.Perm (rg n)->(Below (He.bk y) (He.bk a) ↔ Below y a):=λ{y} py=>C4 py pa (He.pW py).ou (He.pW pa).ou (He.sQ py) (He.sQ pa);constructor
  ·intro hz;obtain⟨y,hy,rfl⟩:=bH.mp hz;obtain⟨py,by'⟩:=(h.mm y).mp hy;exact⟨He.sQ py,(key py).mpr by'⟩
  ·rintro⟨pz,bz⟩;refine bH.mpr ⟨He.bk z,(h.mm _).mpr ⟨He.sQ pz,?_⟩,He.FH pz⟩;rw[<- key (He.sQ pz),He.FH pz];exact bz
def Lo.V0{n:Nat}{a:ae}{ks ls:List (ae)}(pa:a.Perm (rg n))(h:Lo n a ks)(h':Lo n (He.bk a) ls):ls.countP (λz=>Iv.inv z == m)=ks.countP (λz=>Iv.inv z == m):=by
 rw[h'.cnt (h.back pa),iN];refine gT λz hz=>?_;show(Iv.inv (He.bk z) == m)=true ↔ _;rw[He.Kx ((h.mm z).mp hz).1]
def Lo.start(n:Nat):Lo n (rg n) [rg n] where
 nd:=by simp
 mm:=λz=>by
  constructor
  ·intro hz;rw[br.mp hz];exact⟨.refl _,Below.refl _⟩
  ·rintro⟨pz,bz⟩;rw[br];have:=(mono (dS (rg n)) _ z rfl pz bz).1;rw[Fw.rO]at this;exact Cw.zero pz ()
def Lo.step{n k:Nat}{v:ae}{ks ls:List (ae)}(pv:v.Perm (rg n))(h0:1<=k)(h:k<n)(hr:v.getD (k-1) 0<v.getD k 0)(l:Lo n v ks)(nd:ls.Nodup)
  (hm:∀z,z∈ls ↔ z∈ks\/∃y∈ks,y.getD (k-1) 0<y.getD k 0/\z=ex y k):Lo n (ex v k) ls where
 nd:=nd
 mm:=λz=>by
  rw[hm];constructor
  ·rintro(c|⟨y,hy,ry,rfl⟩)
   ·obtain⟨pz,bz⟩:=(l.mm z).mp c;exact⟨pz,(yi pv pz h0 h hr).mpr (.inl bz)⟩
   ·obtain⟨py,bY⟩:=(l.mm y).mp hy;refine⟨Qu py h0 h,(yi pv (Qu py h0 h) h0 h hr).mpr (.inr ⟨?_,?_⟩)⟩
    ·rw[hi py h0 h,lo py h0 h];exact ry
    ·rw[Rf py h0 h];exact bY
  ·rintro⟨pz,bz⟩
   rcases(yi pv pz h0 h hr).mp bz with c|⟨c1,c2⟩
   ·exact .inl ((l.mm z).mpr ⟨pz,c⟩)
   ·refine .inr ⟨ex z k,(l.mm _).mpr ⟨Qu pz h0 h,c2⟩,?_,(Rf pz h0 h).symm⟩;rw[hi pz h0 h,lo pz h0 h];exact c1
end Eu
namespace K51
open PySem L2 Am
abbrev top (i:Nat):aF:=PySem.Challenge.pw_undercells_k51_counts.main.body.getD i (.Pass ⟨0,0,0,0⟩)
meta abbrev pK:aF:=top 5
meta abbrev pV:am:=["n"]
meta abbrev pO:am:=["n"]
abbrev pT:Sm:=
 lH (j5 (f1 oh) (jG (j5 (f2 qx) (jG (eC (.int 1)) (jG (jP l_ (jF 0) (eC (.int 1))) jQ))) jQ))
abbrev mF:ad->jL->R A:=mJ pV pT
meta abbrev qU:aF:=top 6
meta abbrev rH:am:=["one", "other"]
meta abbrev o5:am:=["one", "other"]
abbrev rE:Sm:=
 A5 (ug (jP (HE true) (j5 (f1 nh) (jG (jF 0) jQ)) (j5 (f1 nh) (jG (jF 1) jQ))))
 (Vd)
 qM
abbrev lZ:ad->jL->R A:=mJ rH rE
meta abbrev mU:aF:=top 7
meta abbrev mY:am:=["order", "i", "j", "things"]
meta abbrev mT:am:=["order", "i", "j"]
abbrev mQ:Sm:=
 ku (lA (j5 (f1 ye) (jG (jF 0) jQ)) (kO 3))
 (ku (lA (uD (jG (jP om (jF 3) (jP aSub (jF 2) (eC (.int 1)))) (jG (jP om (jF 3) (jP aSub (jF 1) (eC (.int 1)))) jQ))) (A9 2 (sP (SN (jF 3) (jP aSub (jF 1) (eC (.int 1)))) (sP (SN (jF 3) (jP aSub (jF 2) (eC (.int 1)))) A6))))
 (lH (j5 (f1 oh) (jG (jF 3) jQ))))
abbrev kr:ad->jL->R A:=mJ mY mQ
meta abbrev p_:aF:=top 8
meta abbrev pQ:am:=["n"]
meta abbrev nU:am:=["n"]
abbrev p5:Sm:=
 lH (Du [none,none,some 0] (oA (eC (.int 1)) (jF 0)) (kO 0) sU (oA (jP l_ (jF 0) (eC (.int 1))) (jP l_ (jF 2) (eC (.int 1)))) (kO 1) sU (uD (jG (jF 0) (jG (jF 1) jQ))))
abbrev kH:ad->jL->R A:=mJ pQ p5
meta abbrev p7:aF:=top 9
meta abbrev pX:am:=["order"]
meta abbrev pS:am:=["order"]
abbrev pY:Sm:=
 lH (kM [none,none,some 0] (qD (eFn kH (jG (j5 (f1 nh) (jG (jF 0) jQ)) jQ))) (A9 2 (sP (kO 0) (sP (kO 1) A6))) (ug (jP Cv (jP om (jF 2) (jP aSub (jF 0) (eC (.int 1)))) (jP om (jF 2) (jP aSub (jF 1) (eC (.int 1)))))) (uD (jG (jF 0) (jG (jF 1) jQ))))
abbrev mE:ad->jL->R A:=mJ pX pY
meta abbrev yD:aF:=top 10
meta abbrev xx:am:=["order"]
meta abbrev uq:am:=["order"]
abbrev xD:Sm:=
 lH (j5 (f1 nh) (jG (eFn mE (jG (jF 0) jQ)) jQ))
abbrev nv:ad->jL->R A:=mJ xx xD
meta abbrev lX:aF:=top 13
meta abbrev lQ:am:=["numbers", "place"]
meta abbrev lR:am:=["numbers"]
abbrev nj:Te:=
 ug (jP Vm (jP om (jF 0) (jP aSub (jF 1) (eC (.int 1)))) (eC (.int 0)))
abbrev nq:Sm:=
 LL 1 C_ (eC (.int 1))
abbrev l7:Sm:=
 ku (lA (eC (.int 1)) (kO 1))
 (ku (mq nj
 nq 1000000)
 (lH (jF 1)))
abbrev kJ:ad->jL->R A:=mJ lQ l7
meta abbrev Lh:aF:=top 12
meta abbrev KY:am:=["one", "other", "more", "at", "j"]
meta abbrev Jd:am:=["one", "other"]
abbrev F8:Ic:=
 oz (jP om (jF 0) (jF 3))
abbrev EN:Sm:=
 wk (jF 2) (jF 4) (eC (.int 1)) C_
abbrev Gx:Ic:=
 oz (jP om (jF 1) (jF 3))
abbrev DT:Sm:=
 wk (jF 2) (jF 4) (eC (.int 1)) aSub
abbrev NX:Ic:=
 oz (j5 (f1 nh) (jG (jF 0) jQ))
abbrev Gk:Sm:=
 ku (rD F8 (kO 4)
 EN)
 (ku (rD Gx (kO 4)
 DT)
 (A5 (ug (jP Cv (j5 (f1 Lr) (jG (jF 2) jQ)) (eC (.int 0))))
 (lH (uD (jG (jP l_ (jF 3) (eC (.int 1))) (jG (eFn kJ (jG (jF 2) jQ)) jQ))))
 qM))
abbrev Ks:Sm:=
 ku (uA (eFn lZ (jG (jF 0) (jG (jF 1) jQ))))
 (ku (lA (jP vd (xw (jG (eC (.int 0)) jQ)) (j5 (f1 nh) (jG (jF 0) jQ))) (kO 2))
 (ku (rD NX (kO 3)
 Gk)
 (lH (eC .non))))
abbrev zj:ad->jL->R A:=mJ KY Ks
meta abbrev ud:aF:=top 14
meta abbrev qu:am:=["one", "other"]
meta abbrev t9:am:=["one", "other"]
abbrev qm:Sm:=
 lH (jP (GW false) (eFn zj (jG (jF 0) (jG (jF 1) jQ))) (eC .non))
abbrev l8:ad->jL->R A:=mJ qu qm
meta abbrev qa:aF:=top 16
meta abbrev pH:am:=["one", "other", "free_things", "most_things", "most_pairs"]
meta abbrev pP:am:=["one", "other", "free_things", "most_things", "most_pairs"]
abbrev pM:Sm:=
 ku (A5 (ug (jP Vm (j5 (f1 nh) (jG (jF 0) jQ)) (jF 2)))
 (KC)
 qM)
 (A5 (SD (ug (jP Cv (j5 (f1 nh) (jG (jF 0) jQ)) (jF 3))) (ug (jP Cv (jP aSub (eFn nv (jG (jF 1) jQ)) (eFn nv (jG (jF 0) jQ))) (jF 4))))
 (Vd)
 qM)
abbrev mD:ad->jL->R A:=mJ pH pM
meta abbrev vt:aF:=top 21
meta abbrev vq:am:=["order", "i", "j", "low", "high"]
meta abbrev vE:am:=["order", "i", "j"]
abbrev vD:Sm:=
 ku (lA (j5 (f2 Js) (jG (jP om (jF 0) (jP aSub (jF 1) (eC (.int 1)))) (jG (jP om (jF 0) (jP aSub (jF 2) (eC (.int 1)))) jQ))) (kO 3))
 (ku (lA (j5 (f2 Le) (jG (jP om (jF 0) (jP aSub (jF 1) (eC (.int 1)))) (jG (jP om (jF 0) (jP aSub (jF 2) (eC (.int 1)))) jQ))) (kO 4))
 (lH (Of (j5 (f1 QY) (jG (kM [none,some 3,some 4] (qD (SV (jF 0) (v9 (jF 1)) (v9 (jP aSub (jF 2) (eC (.int 1)))))) (kO 0) sU (Nv F4 F4 (jF 1) (jF 0) (jF 2))) jQ)))))
abbrev nP:ad->jL->R A:=mJ vq vD
meta abbrev Ar:aF:=top 22
meta abbrev Ae:am:=["order", "pairs"]
meta abbrev Ad:am:=["order", "pairs"]
abbrev zU:Sm:=
 lH (j5 (f1 uU) (jG (kM [none,none,some 0] (qD (jF 1)) (A9 2 (sP (kO 0) (sP (kO 1) A6))) (r8 (eFn nP (jG (jF 2) (jG (jF 0) (jG (jF 1) jQ))))) (eFn kr (jG (jF 2) (jG (jF 0) (jG (jF 1) jQ))))) jQ))
abbrev uQ:ad->jL->R A:=mJ Ae zU
meta abbrev pI:aF:=top 23
meta abbrev p6:am:=["order"]
meta abbrev pU:am:=["order"]
abbrev p9:Sm:=
 lH (eFn uQ (jG (jF 0) (jG (kM [none,none,some 0] (qD (eFn kH (jG (j5 (f1 nh) (jG (jF 0) jQ)) jQ))) (A9 2 (sP (kO 0) (sP (kO 1) A6))) (ug (jP F4 (jP om (jF 2) (jP aSub (jF 0) (eC (.int 1)))) (jP om (jF 2) (jP aSub (jF 1) (eC (.int 1)))))) (uD (jG (jF 0) (jG (jF 1) jQ)))) jQ)))
abbrev mG:ad->jL->R A:=mJ p6 p9
meta abbrev vG:aF:=top 24
meta abbrev sq:am:=["one", "other", "looked_at", "waiting", "here", "step"]
meta abbrev vK:am:=["one", "other"]
abbrev o_:Ic:=
 qD (eFn mG (jG (jF 4) jQ))
abbrev rX:Sm:=
 A5 (ug (jP (Q_ true) (jF 5) (jF 2)))
 (ku (lA (eFn l8 (jG (jF 5) (jG (jF 1) jQ))) (GQ (jF 2) (jF 5)))
 (A5 (r8 (jP G9 (jF 2) (jF 5)))
 (uA (L3 sJ (jF 3) (jG (jF 5) jQ)))
 qM))
 qM
abbrev rY:Te:=
 r8 (jF 3)
abbrev rW:Sm:=
 ku (lA (Sk Qv (jF 3)) (kO 4))
 (rD o_ (kO 5)
 rX)
abbrev sF:Sm:=
 ku (uA (eFn lZ (jG (jF 0) (jG (jF 1) jQ))))
 (ku (uA (eFn mD (jG (jF 0) (jG (jF 1) (jG (eC (.int 6)) (jG (eC (.int 9)) (jG (eC (.int 4)) jQ)))))))
 (ku (A5 (C8 (r8 (eFn l8 (jG (jF 0) (jG (jF 1) jQ)))))
 (lH (xw jQ))
 qM)
 (ku (lA (xW (jF 0) (eC (.bl true))) (kO 2))
 (ku (lA (xw (jG (jF 0) jQ)) (kO 3))
 (ku (mq rY
 rW 1000000)
 (lH (j5 (f1 uU) (jG (kM [none,none] (GH (jF 2)) (A9 2 (sP (kO 0) (sP (kO 1) A6))) (r8 (jF 1)) (jF 0)) jQ))))))))
abbrev oN:ad->jL->R A:=mJ sq sF
meta abbrev A4:aF:=top 27
meta abbrev z0:am:=["order", "told", "lower"]
meta abbrev Ah:am:=["order"]
abbrev yX:Ic:=
 qD (eFn oN (jG (eFn mF (jG (j5 (f1 nh) (jG (jF 0) jQ)) jQ)) (jG (jF 0) jQ)))
abbrev za:Sm:=
 wk (jF 1) (eFn nv (jG (jF 2) jQ)) (eC (.int 1)) C_
abbrev wN:Sm:=
 ku (A5 (ug (jP Cv (j5 (f1 nh) (jG (jF 0) jQ)) (eC (.int 6))))
 (Vd)
 qM)
 (ku (lA (jP vd (xw (jG (eC (.int 0)) jQ)) (jP l_ (eFn nv (jG (jF 0) jQ)) (eC (.int 1)))) (kO 1))
 (ku (rD yX (kO 2)
 za)
 (lH (jF 1))))
abbrev uW:ad->jL->R A:=mJ z0 wN
meta abbrev t6:aF:=top 29
meta abbrev tV:am:=["_law_script", "_law_k"]
meta abbrev tQ:am:=["_law_script", "_law_k"]
abbrev tZ:Sm:=
 ku (A5 (ug (jP F4 (jF 1) (j5 (f1 nh) (jG (jF 0) jQ))))
 (lH (jP om (jF 0) (jF 1)))
 qM)
 (lH (eC (.int 0)))
abbrev nL:ad->jL->R A:=mJ tV tZ
meta abbrev vH:aF:=top 30
meta abbrev vB:am:=["_law_cell_here", "_law_place", "_law_far"]
meta abbrev vR:am:=["_law_cell_here", "_law_place"]
abbrev vW:Sm:=
 ku (lA (j5 (f1 SI) (jG (jF 0) jQ)) (kO 2))
 (ku (A5 (ug (jP F4 (jF 2) (jP Ro (eC (.int 10)) (eC (.int 18)))))
 (lA (eC (.int 0)) (kO 2))
 qM)
 (lH (xw (jG (jF 2) (jG (jP zQ (jP l_ (jP l_ (jP vd (jP zQ (jF 0) (eC (.int 2147483647))) (eC (.int 69621))) (jP vd (eC (.int 7919)) (jF 1))) (eC (.int 13))) (eC (.int 2147483647))) jQ)))))
abbrev oM:ad->jL->R A:=mJ vB vW
meta abbrev rK:aF:=top 31
meta abbrev rj:am:=["_law_bag_here"]
meta abbrev rP:am:=["_law_bag_here"]
abbrev rV:Sm:=
 ku (lA (jP zQ (jP l_ (jP vd (jP om (jF 0) (eC (.int 1))) (eC (.int 48271))) (eC (.int 11))) (eC (.int 2147483647))) (SN (jF 0) (eC (.int 1))))
 (lH (jP E8 (jP zQ (jP vd (jP om (jF 0) (eC (.int 1))) (eC (.int 16807))) (eC (.int 2147483629))) (eC (.int 8))))
abbrev m8:ad->jL->R A:=mJ rj rV
meta abbrev rC:aF:=top 32
meta abbrev pC:am:=["_law_bag_here", "_law_many", "_law_found", "_law_k"]
meta abbrev pD:am:=["_law_bag_here", "_law_many"]
abbrev yW:Ic:=
 oz (eC (.int 7))
abbrev yO:Sm:=
 lA (jP l_ (jP vd (jF 2) (eC (.int 268435399))) (eFn m8 (jG (jF 0) jQ))) (kO 2)
abbrev pF:Sm:=
 ku (A5 (ug (jP Cv (jP om (jF 0) (eC (.int 0))) (eC (.int 0))))
 (ku (lA (jP zQ (jP om (jF 0) (eC (.int 0))) (jF 1)) (kO 2))
 (ku (lA (jP E8 (jP om (jF 0) (eC (.int 0))) (jF 1)) (SN (jF 0) (eC (.int 0))))
 (lH (jF 2))))
 qM)
 (ku (lA (eFn m8 (jG (jF 0) jQ)) (kO 2))
 (ku (A5 (ug (jP Cv (jF 1) (eC (.int 1000))))
 (rD yW (kO 3)
 yO)
 qM)
 (lH (jP zQ (jF 2) (jF 1)))))
abbrev kK:ad->jL->R A:=mJ pC pF
meta abbrev rz:aF:=top 33
meta abbrev qR:am:=["_law_bag_here", "_law_n", "_law_left", "_law_found", "_law_k"]
meta abbrev qX:am:=["_law_bag_here", "_law_n"]
abbrev yP:Ic:=
 oz (jF 1)
abbrev sZ:Sm:=
 uA (L3 sJ (jF 3) (jG (L3 DC (jF 2) (jG (eFn kK (jG (jF 0) (jG (j5 (f1 nh) (jG (jF 2) jQ)) jQ))) jQ)) jQ))
abbrev sf:Sm:=
 ku (lA (j5 (f1 ye) (jG (j5 (f2 qx) (jG (eC (.int 1)) (jG (jP l_ (jF 1) (eC (.int 1))) jQ))) jQ)) (kO 2))
 (ku (lA (xw jQ) (kO 3))
 (ku (rD yP (kO 4)
 sZ)
 (lH (j5 (f1 oh) (jG (jF 3) jQ)))))
abbrev ng:ad->jL->R A:=mJ qR sf
meta abbrev n9:aF:=top 34
meta abbrev nZ:am:=["_law_order_here", "_law_k"]
meta abbrev mO:am:=["_law_order_here", "_law_k"]
abbrev n5:Sm:=
 lH (jP l_ (jP l_ (SV (jF 0) Gr (v9 (jP aSub (jF 1) (eC (.int 1))))) (uD (jG (jP om (jF 0) (jF 1)) (jG (jP om (jF 0) (jP aSub (jF 1) (eC (.int 1)))) jQ)))) (SV (jF 0) (v9 (jP l_ (jF 1) (eC (.int 1)))) Gr))
abbrev kC:ad->jL->R A:=mJ nZ n5
meta abbrev tH:aF:=top 35
meta abbrev tX:am:=["_law_order_here", "_law_found", "_law_i"]
meta abbrev tB:am:=["_law_order_here"]
abbrev uS:Ic:=
 oz (j5 (f1 nh) (jG (jF 0) jQ))
abbrev ve:Sm:=
 lA (jP l_ (jF 1) (j5 (f1 nh) (jG (kM [none,some 0,some 2] (oz (jF 2)) (kO 0) (ug (jP Cv (jP om (jF 1) (jF 0)) (jP om (jF 1) (jF 2)))) (jF 0)) jQ))) (kO 1)
abbrev ue:Sm:=
 ku (lA (eC (.int 0)) (kO 1))
 (ku (rD uS (kO 2)
 ve)
 (lH (jF 1)))
abbrev mX:ad->jL->R A:=mJ tX ue
meta abbrev t8:aF:=top 36
meta abbrev tW:am:=["_law_order_here", "_law_word_here", "_law_downs"]
meta abbrev tU:am:=["_law_order_here"]
abbrev oG:Te:=
 ug (jP (HE true) (jF 2) (xw jQ))
abbrev qG:Sm:=
 ku (lA (eFn kC (jG (jF 0) (jG (jP om (jF 2) (OW Ig (eC (.int 1)))) jQ))) (kO 0))
 (ku (uA (L3 sJ (jF 1) (jG (jP om (jF 2) (OW Ig (eC (.int 1)))) jQ)))
 (lA (kM [none,some 0] (oA (eC (.int 1)) (j5 (f1 nh) (jG (jF 0) jQ))) (kO 0) (ug (jP Cv (jP om (jF 1) (jP aSub (jF 0) (eC (.int 1)))) (jP om (jF 1) (jF 0)))) (jF 0)) (kO 2)))
abbrev tu:Sm:=
 ku (lA (xw jQ) (kO 1))
 (ku (lA (kM [none,some 0] (oA (eC (.int 1)) (j5 (f1 nh) (jG (jF 0) jQ))) (kO 0) (ug (jP Cv (jP om (jF 1) (jP aSub (jF 0) (eC (.int 1)))) (jP om (jF 1) (jF 0)))) (jF 0)) (kO 2))
 (ku (mq oG
 qG 1000000)
 (lH (OW Hj (jF 1)))))
abbrev oY:ad->jL->R A:=mJ tW tu
meta abbrev rJ:aF:=top 37
meta abbrev rf:am:=["_law_thing"]
meta abbrev rT:am:=["_law_thing"]
abbrev rG:Sm:=
 lH (Ji (j5 (f2 LY) (jG (jF 0) (jG (eC (.ty "int")) jQ))) (Of (j5 (f2 LY) (jG (jF 0) (jG (eC (.ty "bool")) jQ)))))
abbrev m7:ad->jL->R A:=mJ rf rG
meta abbrev tD:aF:=top 38
meta abbrev tN:am:=["_law_order_here"]
meta abbrev uc:am:=["_law_order_here"]
abbrev tF:Sm:=
 lH (j5 (f1 oh) (jG (kM [none,some 0] (oA (eC (.int 1)) (jP l_ (j5 (f1 nh) (jG (jF 0) jQ)) (eC (.int 1)))) (kO 0) sU (jP l_ (NK (jF 1) (jG (jF 0) jQ)) (eC (.int 1)))) jQ))
abbrev oU:ad->jL->R A:=mJ tN tF
meta abbrev rB:aF:=top 39
meta abbrev r_:am:=["_law_order_here", "_law_found", "_law_k", "_law_one"]
meta abbrev se:am:=["_law_order_here"]
abbrev s_:Ic:=
 qD (j5 (f1 Mj) (jG (jF 1) jQ))
abbrev sW:Sm:=
 A5 (ug (jP F4 (jP om (jF 3) (jP aSub (jF 2) (eC (.int 1)))) (jP om (jF 3) (jF 2))))
 (lA (jP l_ (jP G9 (jF 1) (jF 3)) (eC (.int 1))) (GQ (jF 1) (eFn kC (jG (jF 3) (jG (jF 2) jQ)))))
 qM
abbrev sY:Ic:=
 qD (eFn oY (jG (jF 0) jQ))
abbrev pR:Sm:=
 rD s_ (kO 3)
 sW
abbrev qS:Sm:=
 ku (lA (xW (j5 (f1 oh) (jG (j5 (f2 qx) (jG (eC (.int 1)) (jG (jP l_ (j5 (f1 nh) (jG (jF 0) jQ)) (eC (.int 1))) jQ))) jQ)) (eC (.int 0))) (kO 1))
 (ku (rD sY (kO 2)
 pR)
 (lH (kM [none,some 1] (oz (jP l_ (eFn mX (jG (jF 0) jQ)) (eC (.int 1)))) (kO 0) sU (L3 u9 (TU (jF 1)) (jG (jF 0) jQ)))))
abbrev m9:ad->jL->R A:=mJ r_ qS
meta abbrev qW:aF:=top 40
meta abbrev rZ:am:=["_law_order_here", "_law_due", "_law_found"]
meta abbrev qV:am:=["_law_order_here", "_law_due"]
abbrev rm:Sm:=
 ku (lA (eFn uW (jG (jF 0) jQ)) (kO 2))
 (ku (A5 (SD (C8 (r8 (j5 (f2 LY) (jG (jF 2) (jG (eC (.ty "list")) jQ))))) (SD (ug (jP (HE true) (jF 2) (jF 1))) (C8 (r8 (j5 (f1 RK) (jG (kM [none] (qD (jF 2)) (kO 0) sU (eFn m7 (jG (jF 0) jQ))) jQ))))))
 (lH (eC (.bl false)))
 qM)
 (ku (uA (L3 sJ (jF 2) (jG (eC (.int 1)) jQ)))
 (lH (eC (.bl true)))))
abbrev lB:ad->jL->R A:=mJ rZ rm
meta abbrev LJ:aF:=top 41
meta abbrev Mq:am:=["_law_script", "_law_bag_here", "_law_n", "_law_order_here", "_law_other", "_law_due"]
meta abbrev Oz:am:=["_law_script"]
abbrev Im:Sm:=
 ku (lA (eFn oM (jG (eFn nL (jG (jF 0) (jG (eC (.int 0)) jQ))) (jG (eC (.int 1)) jQ))) (kO 1))
 (ku (lA (jP om (xw (jG (eC (.int 5)) (jG (eC (.int 4)) (jG (eC (.int 5)) (jG (eC (.int 3)) (jG (eC (.int 2)) (jG (eC (.int 1)) jQ))))))) (eFn kK (jG (jF 1) (jG (eC (.int 6)) jQ)))) (kO 2))
 (ku (A5 (ug (jP (HE false) (eFn kK (jG (jF 1) (jG (eC (.int 4)) jQ))) (eC (.int 3))))
 (lA (eC (.int 6)) (kO 2))
 qM)
 (ku (lA (eFn ng (jG (jF 1) (jG (jF 2) jQ))) (kO 3))
 (ku (lA (eFn ng (jG (eFn oM (jG (eFn nL (jG (jF 0) (jG (eC (.int 1)) jQ))) (jG (eC (.int 2)) jQ))) (jG (eC (.int 5)) jQ))) (kO 4))
 (ku (lA (eFn m9 (jG (jF 3) jQ)) (kO 5))
 (ku (A5 (SD (C8 (r8 (eFn lB (jG (jF 3) (jG (jF 5) jQ))))) (C8 (r8 (eFn lB (jG (jF 4) (jG (eFn m9 (jG (jF 4) jQ)) jQ))))))
 (lH (eC (.bl false)))
 qM)
 (lH (Ji (eFn lB (jG (eFn oU (jG (jF 3) jQ)) (jG (jF 5) jQ))) (eFn lB (jG (jF 3) (jG (jF 5) jQ)))))))))))
abbrev y9:ad->jL->R A:=mJ Mq Im
section
variable {P:aj}{w:ah}{K:au}{mg:Str->ba}{base:aq}{f:ak}{fd:FuncData}
def yy:FnScope pV pO (jV pK):=vh rfl rfl rfl ∅
def xY(F:Fun K "plain_order" "plain_order" pK f fd)(XG:mg "tuple" = none)(XF:mg "range" = none):FnOk P w K mg base qy 1 f fd pO (rq K 1 mF):=vj (m:=pT) F yy λcdv B outer s H E hr=>
 jR (kq (l5 (uJ rfl) XG rQ (jI (l5 xQ XF yC (jI jK (jI (jW nG (jE 0) jK) jT))) jT)))
def Au:FnScope rH o5 (jV qU):=vh rfl rfl rfl ∅
def AB(F:Fun K "need_pair" "need_pair" qU f fd)(XD:mg "len" = none):FnOk P w K mg base qy 1 f fd o5 (rq K 2 lZ):=vj (m:=rE) F Au λcdv B outer s H E hr=>
 jR (oq (kZ (Rl hr.units) (jZ nA XD lE (jI (jE 0) jT)) (jZ nA XD lE (jI (jE 1) jT)))
 (jR (Jh))
 k6)
def ow:FnScope mY mT (jV mU):=vh rfl rfl rfl ∅
def sS(F:Fun K "exchanged_places" "exchanged_places" mU f fd)(XH:mg "list" = none)(XG:mg "tuple" = none):FnOk P w K mg base qy 1 f fd mT (rq K 3 kr):=vj (m:=mQ) F ow λcdv B outer s H E hr=>
 jN (kD (i:=3) ow.nd (l5 (Mw rfl) XH u0 (jI (jE 0) jT)))
 (jN (xG (vL (jI (kP (jE 3) (jW m_ (jE 2) jK)) (jI (kP (jE 3) (jW m_ (jE 1) jK)) jT))) (xS rfl (mH (z7 (jE 3) (jW m_ (jE 1) jK)) (mH (z7 (jE 3) (jW m_ (jE 2) jK)) uI))))
 (jR (kq (l5 (uJ rfl) XG rQ (jI (jE 3) jT)))))
def xC:FnScope pQ nU (jV p_):=vh rfl rfl rfl ∅
def yp(F:Fun K "place_pairs" "place_pairs" p_ f fd)(XF:mg "range" = none):FnOk P w K mg base qy 1 f fd nU (rq K 1 kH):=vj (m:=p5) F xC λcdv B outer s H E hr=>
 jR (kq (ID (N:=["i", "j", "n"]) (cap:=[none,none,some 0]) rfl (qK ["n"] rfl ∅ ∅ ∅ ∅ ∅ (b9.mpr ⟨by first|exact Or.inl rfl|exact Or.inr rfl,(nofun)⟩) ⟨rfl,by decide +kernel,trivial⟩) (qh XF jK (jE 0)) (λ_ _ _ _=>ko (i:=0) (show(["i", "j", "n"]:am).Nodup by decide +kernel) rfl (Or.inl rfl) (.inr rfl)) (λ_ _ _ _=>sG) (λ_ _ _ _=>qh XF (jW nG (jE 0) jK) (jW nG (jE 2) jK)) (λ_ _ _ _=>ko (i:=1) (show(["i", "j", "n"]:am).Nodup by decide +kernel) rfl (Or.inl rfl) (.inr rfl)) (λ_ _ _ _=>sG) (λ_ _ _ _=>vL (jI (jE 0) (jI (jE 1) jT)))))
def yJ:FnScope pX pS (jV p7):=vh rfl rfl rfl ∅
def yh(F:Fun K "wrong_pairs" "wrong_pairs" p7 f fd)(XD:mg "len" = none)(XQ:qP P w K mg base 1 "place_pairs" nU kH):FnOk P w K mg base qy 2 f fd pS (rq K 1 mE):=vj (m:=pY) F yJ λcdv B outer s H E hr=>
 jR (kq (oH (N:=["i", "j", "order"]) (cap:=[none,none,some 0]) rfl (qK ["order"] rfl ∅ ∅ ∅ ∅ ∅ (b9.mpr ⟨by first|exact Or.inl rfl|exact Or.inr rfl,(nofun)⟩) ⟨rfl,by decide +kernel,trivial⟩) (qH (zO XQ hr (jZ nA XD lE (jI (jE 0) jT)))) (λ_ _ _ _=>xS rfl (mH (ko (i:=0) (show(["i", "j", "order"]:am).Nodup by decide +kernel) rfl (Or.inl rfl) (.inr rfl)) (mH (ko (i:=1) (show(["i", "j", "order"]:am).Nodup by decide +kernel) rfl (Or.inl rfl) (.inr rfl)) uI))) (λ_ _ _ _=>qz (kZ (yV hr.units) (kP (jE 2) (jW m_ (jE 0) jK)) (kP (jE 2) (jW m_ (jE 1) jK)))) (λ_ _ _ _=>vL (jI (jE 0) (jI (jE 1) jT)))))
def GN:FnScope xx uq (jV yD):=vh rfl rfl rfl ∅
def Ht(F:Fun K "length" "length" yD f fd)(XD:mg "len" = none)(X5:qP P w K mg base 2 "wrong_pairs" pS mE):FnOk P w K mg base qy 3 f fd uq (rq K 1 nv):=vj (m:=xD) F GN λcdv B outer s H E hr=>
 jR (kq (jZ nA XD lE (jI (zO X5 hr (jE 0)) jT)))
def lI:FnScope lQ lR (jV lX):=vh rfl rfl rfl ∅
def qO(F:Fun K "first_above_nought" "first_above_nought" lX f fd):FnOk P w K mg base qy 1 f fd lR (rq K 1 kJ):=vj (m:=l7) F lI λcdv B outer s H E hr=>
 jN (kD (i:=1) lI.nd jK)
 (jN (yH 1000000 cM (kZ UW (kP (jE 0) (jW m_ (jE 1) jK)) jK)
 (jR (RM (i:=1) lI.nd jK zS)))
 (jR (kq (jE 1))))
def yF:FnScope KY Jd (jV Lh):=vh rfl rfl rfl ∅
def Rh(F:Fun K "bar" "bar" Lh f fd)(XD:mg "len" = none)(XF:mg "range" = none)(XR:mg "max" = none)(XS:qP P w K mg base 1 "need_pair" o5 lZ)(X6:qP P w K mg base 1 "first_above_nought" lR kJ):FnOk P w K mg base qy 2 f fd Jd (rq K 2 zj):=vj (m:=Ks) F yF λcdv B outer s H E hr=>
 jN (qI (yN XS hr (jE 0) (jE 1)))
 (jN (kD (i:=2) yF.nd (jW yL (qk (jI jK jT)) (jZ nA XD lE (jI (jE 0) jT))))
 (jN (pJ cM rfl (m5 XF (jZ nA XD lE (jI (jE 0) jT))) (ko (i:=3) yF.nd)
 (jN (pJ cM rfl (m5 XF (kP (jE 0) (jE 3))) (ko (i:=4) yF.nd)
 (jR (Ag (jE 2) (jE 4) jK zS)))
 (jN (pJ cM rfl (m5 XF (kP (jE 1) (jE 3))) (ko (i:=4) yF.nd)
 (jR (Ag (jE 2) (jE 4) jK M4)))
 (jR (oq (kZ (yV hr.units) (jZ (Rb rfl) XR JF (jI (jE 2) jT)) jK)
 (jR (kq (vL (jI (jW nG (jE 3) jK) (jI (zO X6 hr (jE 2)) jT)))))
 k6)))))
 (jR (kq (IB)))))
def Ct:FnScope qu t9 (jV ud):=vh rfl rfl rfl ∅
def Bp(F:Fun K "is_below" "is_below" ud f fd)(X7:qP P w K mg base 2 "bar" Jd zj):FnOk P w K mg base qy 3 f fd t9 (rq K 2 l8):=vj (m:=qm) F Ct λcdv B outer s H E hr=>
 jR (kq (Qt VN (yN X7 hr (jE 0) (jE 1)) (IB)))
def xr:FnScope pH pP (jV qa):=vh rfl rfl rfl ∅
def yc(F:Fun K "need_bounds" "need_bounds" qa f fd)(XD:mg "len" = none)(XI:qP P w K mg base 3 "length" uq nv):FnOk P w K mg base qy 4 f fd pP (rq K 5 mD):=vj (m:=pM) F xr λcdv B outer s H E hr=>
 jN (oq (kZ UW (jZ nA XD lE (jI (jE 0) jT)) (jE 2))
 (jR (Nx))
 k6)
 (jR (oq (AW.at (Fy (kZ (yV hr.units) (jZ nA XD lE (jI (jE 0) jT)) (jE 3)) (CM (kZ (yV hr.units) (jW m_ (zO XI hr (jE 1)) (zO XI hr (jE 0))) (jE 4)))))
 (jR (Jh))
 k6))
def tM:FnScope vq vE (jV vt):=vh rfl rfl rfl ∅
def CQ(F:Fun K "is_step" "is_step" vt f fd)(X8:mg "min" = none)(XR:mg "max" = none)(X9:mg "any" = none):FnOk P w K mg base qy 1 f fd vE (rq K 3 nP):=vj (m:=vD) F tM λcdv B outer s H E hr=>
 jN (kD (i:=3) tM.nd (jZ (Sq rfl) X8 Ri (jI (kP (jE 0) (jW m_ (jE 1) jK)) (jI (kP (jE 0) (jW m_ (jE 2) jK)) jT))))
 (jN (kD (i:=4) tM.nd (jZ (Q6 rfl) XR JF (jI (kP (jE 0) (jW m_ (jE 1) jK)) (jI (kP (jE 0) (jW m_ (jE 2) jK)) jT))))
 (jR (kq (Ik (jZ (UN rfl) X9 Ru (jI (oH (N:=["thing", "low", "high"]) (cap:=[none,some 3,some 4]) rfl (qK ["low", "high"] rfl ∅ ∅ ∅ ∅ ∅ (b9.mpr ⟨by first|exact Or.inl rfl|exact Or.inr rfl,(b9.mpr ⟨by first|exact Or.inl rfl|exact Or.inr rfl,(nofun)⟩)⟩) ⟨rfl,by decide +kernel,⟨rfl,by decide +kernel,trivial⟩⟩) (qH (Ky (jE 0) (wI (jE 1)) (wI (jW m_ (jE 2) jK)))) (λ_ _ _ _=>ko (i:=0) (show(["thing", "low", "high"]:am).Nodup by decide +kernel) rfl (Or.inl rfl) (.inr rfl)) (λ_ _ _ _=>sG) (λ_ _ _ _=>TF (G1 hr.units) (G1 hr.units) (jE 1) (jE 0) (jE 2))) jT))))))
def Ka:FnScope Ae Ad (jV Ar):=vh rfl rfl rfl ∅
def KD(F:Fun K "steps" "steps" Ar f fd)(XT:mg "sorted" = none)(X_:qP P w K mg base 1 "is_step" vE nP)(Yb:qP P w K mg base 1 "exchanged_places" mT kr):FnOk P w K mg base qy 2 f fd Ad (rq K 2 uQ):=vj (m:=zU) F Ka λcdv B outer s H E hr=>
 jR (kq (jZ Mi XT yY (jI (oH (N:=["i", "j", "order"]) (cap:=[none,none,some 0]) rfl (qK ["order"] rfl ∅ ∅ ∅ ∅ ∅ (b9.mpr ⟨by first|exact Or.inl rfl|exact Or.inr rfl,(nofun)⟩) ⟨rfl,by decide +kernel,trivial⟩) (qH (jE 1)) (λ_ _ _ _=>xS rfl (mH (ko (i:=0) (show(["i", "j", "order"]:am).Nodup by decide +kernel) rfl (Or.inl rfl) (.inr rfl)) (mH (ko (i:=1) (show(["i", "j", "order"]:am).Nodup by decide +kernel) rfl (Or.inl rfl) (.inr rfl)) uI))) (λ_ _ _ _=>qz (qF (WZ X_ hr (jE 2) (jE 0) (jE 1)))) (λ_ _ _ _=>WZ Yb hr (jE 2) (jE 0) (jE 1))) jT)))
def w_:FnScope p6 pU (jV pI):=vh rfl rfl rfl ∅
def xJ(F:Fun K "steps_above" "steps_above" pI f fd)(XD:mg "len" = none)(Yc:qP P w K mg base 2 "steps" Ad uQ)(XQ:qP P w K mg base 1 "place_pairs" nU kH):FnOk P w K mg base qy 3 f fd pU (rq K 1 mG):=vj (m:=p9) F w_ λcdv B outer s H E hr=>
 jR (kq (yN Yc hr (jE 0) (oH (N:=["i", "j", "order"]) (cap:=[none,none,some 0]) rfl (qK ["order"] rfl ∅ ∅ ∅ ∅ ∅ (b9.mpr ⟨by first|exact Or.inl rfl|exact Or.inr rfl,(nofun)⟩) ⟨rfl,by decide +kernel,trivial⟩) (qH (zO XQ hr (jZ nA XD lE (jI (jE 0) jT)))) (λ_ _ _ _=>xS rfl (mH (ko (i:=0) (show(["i", "j", "order"]:am).Nodup by decide +kernel) rfl (Or.inl rfl) (.inr rfl)) (mH (ko (i:=1) (show(["i", "j", "order"]:am).Nodup by decide +kernel) rfl (Or.inl rfl) (.inr rfl)) uI))) (λ_ _ _ _=>qz (kZ (G1 hr.units) (kP (jE 2) (jW m_ (jE 0) jK)) (kP (jE 2) (jW m_ (jE 1) jK)))) (λ_ _ _ _=>vL (jI (jE 0) (jI (jE 1) jT))))))
def oS:FnScope sq vK (jV vG):=vh rfl rfl rfl ∅
def Dg(F:Fun K "between" "between" vG f fd)(XT:mg "sorted" = none)(Yd:∃t,mg "MOST_CLIMBED_PAIRS" = some (.int 4 t))(Ye:∃t,mg "MOST_CLIMBED_THINGS" = some (.int 9 t))(Yg:∃t,mg "MOST_THINGS_chains" = some (.int 6 t))(XS:qP P w K mg base 1 "need_pair" o5 lZ)(Yh:qP P w K mg base 4 "need_bounds" pP mD)(XX:qP P w K mg base 3 "is_below" t9 l8)(Yi:qP P w K mg base 3 "steps_above" pU mG):FnOk P w K mg base qy 5 f fd vK (rq K 2 oN):=vj (m:=sF) F oS λcdv B outer s H E hr=>
 jN (qI (yN XS hr (jE 0) (jE 1)))
 (jN (qI (F0 Yh (hr.mono ⋯) (jI (jE 0) (jI (jE 1) (jI (uH Yg.choose_spec) (jI (uH Ye.choose_spec) (jI (uH Yd.choose_spec) jT))))) (l6 (l6 (l6 (l6 (l6 wU)))))))
 (jN (oq (xO (qF (yN XX hr (jE 0) (jE 1))))
 (jR (kq (qk jT)))
 k6)
 (jN (kD (i:=2) oS.nd (Em hr.units (jE 0) EZ))
 (jN (kD (i:=3) oS.nd (qk (jI (jE 0) jT)))
 (jN (yH 1000000 cM (qF (jE 3))
 (jN (kD (i:=4) oS.nd (QE PySem.F.slot_list_pop PySem.F.type_list_pop Uu (jE 3)))
 (jR (pJ cM rfl (qH (zO Yi hr (jE 4))) (ko (i:=5) oS.nd)
 (jR (oq (kZ (KZ hr.units) (jE 5) (jE 2))
 (jN (xG (yN XX hr (jE 5) (jE 1)) (Ga hr.units (jE 2) (jE 5)))
 (jR (oq (qF (L4 hr.units (jE 2) (jE 5)))
 (jR (qI (zF eX eY uy (jE 3) (jI (jE 5) jT))))
 k6)))
 k6))))))
 (jR (kq (jZ Mi XT yY (jI (oH (N:=["order", "is_between"]) (cap:=[none,none]) rfl (qK [] rfl ∅ ∅ ∅ ∅ ∅ (nofun) trivial) (HX (jE 2)) (λ_ _ _ _=>xS rfl (mH (ko (i:=0) (show(["order", "is_between"]:am).Nodup by decide +kernel) rfl (Or.inl rfl) (.inr rfl)) (mH (ko (i:=1) (show(["order", "is_between"]:am).Nodup by decide +kernel) rfl (Or.inl rfl) (.inr rfl)) uI))) (λ_ _ _ _=>qz (qF (jE 1))) (λ_ _ _ _=>jE 0)) jT)))))))))
def yw:FnScope z0 Ah (jV A4):=vh rfl rfl rfl ∅
def LM(F:Fun K "count" "count" A4 f fd)(XD:mg "len" = none)(Yj:∃t,mg "MOST_THINGS_counts" = some (.int 6 t))(XI:qP P w K mg base 3 "length" uq nv)(Yk:qP P w K mg base 5 "between" vK oN)(Yl:qP P w K mg base 1 "plain_order" pO mF):FnOk P w K mg base qy 6 f fd Ah (rq K 1 uW):=vj (m:=wN) F yw λcdv B outer s H E hr=>
 jN (oq (kZ (yV hr.units) (jZ nA XD lE (jI (jE 0) jT)) (uH Yj.choose_spec))
 (jR (Jh))
 k6)
 (jN (kD (i:=1) yw.nd (jW yL (qk (jI jK jT)) (jW nG (zO XI hr (jE 0)) jK)))
 (jN (pJ cM rfl (qH (yN Yk hr (zO Yl hr (jZ nA XD lE (jI (jE 0) jT))) (jE 0))) (ko (i:=2) yw.nd)
 (jR (Ag (jE 1) (zO XI hr (jE 2)) jK zS)))
 (jR (kq (jE 1)))))
def Bb:FnScope tV tQ (jV t6):=vh rfl rfl rfl ∅
def BZ(F:Fun K "_law_cell" "_law_cell" t6 f fd)(XD:mg "len" = none):FnOk P w K mg base qy 1 f fd tQ (rq K 2 nL):=vj (m:=tZ) F Bb λcdv B outer s H E hr=>
 jN (oq (kZ (G1 hr.units) (jE 1) (jZ nA XD lE (jI (jE 0) jT)))
 (jR (kq (kP (jE 0) (jE 1))))
 k6)
 (jR (kq jK))
def t_:FnScope vB vR (jV vH):=vh rfl rfl rfl ∅
def DM(F:Fun K "_law_bag" "_law_bag" vH f fd)(Ym:mg "abs" = none):FnOk P w K mg base qy 1 f fd vR (rq K 2 oM):=vj (m:=vW) F t_ λcdv B outer s H E hr=>
 jN (kD (i:=2) t_.nd (jZ U4 Ym RE (jI (jE 0) jT)))
 (jN (oq (kZ (G1 hr.units) (jE 2) (jW Ur jK jK))
 (jR (kD (i:=2) t_.nd jK))
 k6)
 (jR (kq (qk (jI (jE 2) (jI (jW zA (jW nG (jW nG (jW yL (jW zA (jE 0) jK) jK) (jW yL jK (jE 1))) jK) jK) jT))))))
def zL:FnScope rj rP (jV rK):=vh rfl rfl rfl ∅
def AA(F:Fun K "_law_mixed" "_law_mixed" rK f fd):FnOk P w K mg base qy 1 f fd rP (rq K 1 m8):=vj (m:=rV) F zL λcdv B outer s H E hr=>
 jN (xG (jW zA (jW nG (jW yL (kP (jE 0) jK) jK) jK) jK) (z7 (jE 0) jK))
 (jR (kq (jW Ij (jW zA (jW yL (kP (jE 0) jK) jK) jK) jK)))
def nk:FnScope pC pD (jV rC):=vh rfl rfl rfl ∅
def zZ(F:Fun K "_law_digit" "_law_digit" rC f fd)(XF:mg "range" = none)(XY:qP P w K mg base 1 "_law_mixed" rP m8):FnOk P w K mg base qy 2 f fd pD (rq K 2 kK):=vj (m:=pF) F nk λcdv B outer s H E hr=>
 jN (oq (kZ (yV hr.units) (kP (jE 0) jK) jK)
 (jN (kD (i:=2) nk.nd (jW zA (kP (jE 0) jK) (jE 1)))
 (jN (xG (jW Ij (kP (jE 0) jK) (jE 1)) (z7 (jE 0) jK))
 (jR (kq (jE 2)))))
 k6)
 (jN (kD (i:=2) nk.nd (zO XY hr (jE 0)))
 (jN (oq (kZ (yV hr.units) (jE 1) jK)
 (jR (pJ cM rfl (m5 XF jK) (ko (i:=3) nk.nd)
 (jR (kD (i:=2) nk.nd (jW nG (jW yL (jE 2) jK) (zO XY hr (jE 0)))))))
 k6)
 (jR (kq (jW zA (jE 2) (jE 1))))))
def oJ:FnScope qR qX (jV rz):=vh rfl rfl rfl ∅
def zP(F:Fun K "_law_order" "_law_order" rz f fd)(XH:mg "list" = none)(XF:mg "range" = none)(XD:mg "len" = none)(XG:mg "tuple" = none)(XJ:qP P w K mg base 2 "_law_digit" pD kK):FnOk P w K mg base qy 3 f fd qX (rq K 2 ng):=vj (m:=sf) F oJ λcdv B outer s H E hr=>
 jN (kD (i:=2) oJ.nd (l5 (Mw rfl) XH u0 (jI (l5 xQ XF yC (jI jK (jI (jW nG (jE 1) jK) jT))) jT)))
 (jN (kD (i:=3) oJ.nd (qk jT))
 (jN (pJ cM rfl (m5 XF (jE 1)) (ko (i:=4) oJ.nd)
 (jR (qI (zF eX eY uy (jE 3) (jI (zF PySem.F.slot_list_pop PySem.F.type_list_pop MI (jE 2) (jI (yN XJ hr (jE 0) (jZ nA XD lE (jI (jE 2) jT))) jT)) jT)))))
 (jR (kq (l5 (uJ rfl) XG rQ (jI (jE 3) jT))))))
def vX:FnScope nZ mO (jV n9):=vh rfl rfl rfl ∅
def vp(F:Fun K "_law_exchanged" "_law_exchanged" n9 f fd):FnOk P w K mg base qy 1 f fd mO (rq K 2 kC):=vj (m:=n5) F vX λcdv B outer s H E hr=>
 jR (kq (jW nG (jW nG (Ky (jE 0) Gq (wI (jW m_ (jE 1) jK))) (vL (jI (kP (jE 0) (jE 1)) (jI (kP (jE 0) (jW m_ (jE 1) jK)) jT)))) (Ky (jE 0) (wI (jW nG (jE 1) jK)) Gq)))
def pG:FnScope tX tB (jV tH):=vh rfl rfl rfl ∅
def BS(F:Fun K "_law_long" "_law_long" tH f fd)(XF:mg "range" = none)(XD:mg "len" = none):FnOk P w K mg base qy 1 f fd tB (rq K 1 mX):=vj (m:=ue) F pG λcdv B outer s H E hr=>
 jN (kD (i:=1) pG.nd jK)
 (jN (pJ cM rfl (m5 XF (jZ nA XD lE (jI (jE 0) jT))) (ko (i:=2) pG.nd)
 (jR (kD (i:=1) pG.nd (jW nG (jE 1) (jZ nA XD lE (jI (oH (N:=["_law_j", "_law_order_here", "_law_i"]) (cap:=[none,some 0,some 2]) rfl (qK ["_law_order_here", "_law_i"] rfl ∅ ∅ ∅ ∅ ∅ (b9.mpr ⟨by first|exact Or.inl rfl|exact Or.inr rfl,(b9.mpr ⟨by first|exact Or.inl rfl|exact Or.inr rfl,(nofun)⟩)⟩) ⟨rfl,by decide +kernel,⟨rfl,by decide +kernel,trivial⟩⟩) (m5 XF (jE 2)) (λ_ _ _ _=>ko (i:=0) (show(["_law_j", "_law_order_here", "_law_i"]:am).Nodup by decide +kernel) rfl (Or.inl rfl) (.inr rfl)) (λ_ _ _ _=>qz (kZ (yV hr.units) (kP (jE 1) (jE 0)) (kP (jE 1) (jE 2)))) (λ_ _ _ _=>jE 0)) jT))))))
 (jR (kq (jE 1))))
def nW:FnScope tW tU (jV t8):=vh rfl rfl rfl ∅
def Bu(F:Fun K "_law_word" "_law_word" t8 f fd)(XF:mg "range" = none)(XD:mg "len" = none)(XU:qP P w K mg base 1 "_law_exchanged" mO kC):FnOk P w K mg base qy 2 f fd tU (rq K 1 oY):=vj (m:=tu) F nW λcdv B outer s H E hr=>
 jN (kD (i:=1) nW.nd (qk jT))
 (jN (Gg (i:=2) (N:=["_law_k", "_law_order_here"]) (cap:=[none,some 0]) nW.nd rfl (qK ["_law_order_here"] rfl ∅ ∅ ∅ ∅ ∅ (b9.mpr ⟨by first|exact Or.inl rfl|exact Or.inr rfl,(nofun)⟩) ⟨rfl,by decide +kernel,trivial⟩) (qh XF jK (jZ nA XD lE (jI (jE 0) jT))) (λ_ _ _ _=>ko (i:=0) (show(["_law_k", "_law_order_here"]:am).Nodup by decide +kernel) rfl (Or.inl rfl) (.inr rfl)) (λ_ _ _ _=>qz (kZ (yV hr.units) (kP (jE 1) (jW m_ (jE 0) jK)) (kP (jE 1) (jE 0)))) (λ_ _ _ _=>jE 0))
 (jN (yH 1000000 cM (kZ (Rl hr.units) (jE 2) (qk jT))
 (jN (kD (i:=0) nW.nd (yN XU hr (jE 0) (kP (jE 2) (Mf jK))))
 (jN (qI (zF eX eY uy (jE 1) (jI (kP (jE 2) (Mf jK)) jT)))
 (jR (Gg (i:=2) (N:=["_law_k", "_law_order_here"]) (cap:=[none,some 0]) nW.nd rfl (qK ["_law_order_here"] rfl ∅ ∅ ∅ ∅ ∅ (b9.mpr ⟨by first|exact Or.inl rfl|exact Or.inr rfl,(nofun)⟩) ⟨rfl,by decide +kernel,trivial⟩) (qh XF jK (jZ nA XD lE (jI (jE 0) jT))) (λ_ _ _ _=>ko (i:=0) (show(["_law_k", "_law_order_here"]:am).Nodup by decide +kernel) rfl (Or.inl rfl) (.inr rfl)) (λ_ _ _ _=>qz (kZ (yV hr.units) (kP (jE 1) (jW m_ (jE 0) jK)) (kP (jE 1) (jE 0)))) (λ_ _ _ _=>jE 0))))))
 (jR (kq (Qi (jE 1))))))
def A0:FnScope rf rT (jV rJ):=vh rfl rfl rfl ∅
def Ax(F:Fun K "_law_whole" "_law_whole" rJ f fd)(XM:mg "isinstance" = none)(Yn:mg "bool" = none)(Yo:mg "int" = none):FnOk P w K mg base qy 1 f fd rT (rq K 1 m7):=vj (m:=rG) F A0 λcdv B outer s H E hr=>
 jR (kq (JX (jZ Lu XM p8 (jI (jE 0) (jI (Lq Yo Qh) jT))) (Lj (Ik (jZ Lu XM p8 (jI (jE 0) (jI (Lq Yn M0) jT)))))))
def Bx:FnScope tN uc (jV tD):=vh rfl rfl rfl ∅
def CI(F:Fun K "_law_back" "_law_back" tD f fd)(XG:mg "tuple" = none)(XF:mg "range" = none)(XD:mg "len" = none):FnOk P w K mg base qy 1 f fd uc (rq K 1 oU):=vj (m:=tF) F Bx λcdv B outer s H E hr=>
 jR (kq (l5 (uJ rfl) XG rQ (jI (oH (N:=["_law_thing", "_law_order_here"]) (cap:=[none,some 0]) rfl (qK ["_law_order_here"] rfl ∅ ∅ ∅ ∅ ∅ (b9.mpr ⟨by first|exact Or.inl rfl|exact Or.inr rfl,(nofun)⟩) ⟨rfl,by decide +kernel,trivial⟩) (qh XF jK (jW nG (jZ nA XD lE (jI (jE 0) jT)) jK)) (λ_ _ _ _=>ko (i:=0) (show(["_law_thing", "_law_order_here"]:am).Nodup by decide +kernel) rfl (Or.inl rfl) (.inr rfl)) (λ_ _ _ _=>sG) (λ_ _ _ _=>jW nG (PM (jE 1) (jI (jE 0) jT)) jK)) jT)))
def oB:FnScope r_ se (jV rB):=vh rfl rfl rfl ∅
def z8(F:Fun K "_law_count" "_law_count" rB f fd)(XG:mg "tuple" = none)(XF:mg "range" = none)(XD:mg "len" = none)(XH:mg "list" = none)(Yp:qP P w K mg base 2 "_law_word" tU oY)(XU:qP P w K mg base 1 "_law_exchanged" mO kC)(Yq:qP P w K mg base 1 "_law_long" tB mX):FnOk P w K mg base qy 3 f fd se (rq K 1 m9):=vj (m:=qS) F oB λcdv B outer s H E hr=>
 jN (kD (i:=1) oB.nd (Em hr.units (l5 (uJ rfl) XG rQ (jI (l5 xQ XF yC (jI jK (jI (jW nG (jZ nA XD lE (jI (jE 0) jT)) jK) jT))) jT)) jK))
 (jN (pJ cM rfl (qH (zO Yp hr (jE 0))) (ko (i:=2) oB.nd)
 (jR (pJ cM rfl (qH (l5 (Oe rfl) XH u0 (jI (jE 1) jT))) (ko (i:=3) oB.nd)
 (jR (oq (kZ (G1 hr.units) (kP (jE 3) (jW m_ (jE 2) jK)) (kP (jE 3) (jE 2)))
 (jR (xG (jW nG (L4 hr.units (jE 1) (jE 3)) jK) (Ga hr.units (jE 1) (yN XU hr (jE 3) (jE 2)))))
 k6)))))
 (jR (kq (oH (N:=["_law_many", "_law_found"]) (cap:=[none,some 1]) rfl (qK ["_law_found"] rfl ∅ ∅ ∅ ∅ ∅ (b9.mpr ⟨by first|exact Or.inl rfl|exact Or.inr rfl,(nofun)⟩) ⟨rfl,by decide +kernel,trivial⟩) (m5 XF (jW nG (zO Yq hr (jE 0)) jK)) (λ_ _ _ _=>ko (i:=0) (show(["_law_many", "_law_found"]:am).Nodup by decide +kernel) rfl (Or.inl rfl) (.inr rfl)) (λ_ _ _ _=>sG) (λ_ _ _ _=>zF PySem.F.slot_list_count PySem.F.type_list_count (HS hr.units) (K8 rfl XH u0 (jE 1)) (jI (jE 0) jT))))))
def uM:FnScope rZ qV (jV qW):=vh rfl rfl rfl ∅
def A3(F:Fun K "_law_right" "_law_right" qW f fd)(Yr:mg "all" = none)(XM:mg "isinstance" = none)(XH:mg "list" = none)(Ys:qP P w K mg base 6 "count" Ah uW)(Yt:qP P w K mg base 1 "_law_whole" rT m7):FnOk P w K mg base qy 7 f fd qV (rq K 2 lB):=vj (m:=rm) F uM λcdv B outer s H E hr=>
 jN (kD (i:=2) uM.nd (zO Ys hr (jE 0)))
 (jN (oq (AW.at (Fy (xO (qF (jZ Lu XM p8 (jI (jE 2) (jI (Lq XH u0) jT))))) (Fy (kZ (Rl hr.units) (jE 2) (jE 1)) (CM (xO (qF (jZ (T4 rfl) Yr RV (jI (oH (N:=["_law_many"]) (cap:=[none]) rfl (qK [] rfl ∅ ∅ ∅ ∅ ∅ (nofun) trivial) (qH (jE 2)) (λ_ _ _ _=>ko (i:=0) (show(["_law_many"]:am).Nodup by decide +kernel) rfl (Or.inl rfl) (.inr rfl)) (λ_ _ _ _=>sG) (λ_ _ _ _=>zO Yt hr (jE 0))) jT))))))))
 (jR (kq EZ))
 k6)
 (jN (qI (zF eX eY uy (jE 2) (jI jK jT)))
 (jR (kq EZ))))
def tK:FnScope Mq Oz (jV LJ):=vh rfl rfl rfl ∅
set_option smartUnfolding false in
theorem P6(F:Fun K "law" "law" LJ f fd)(XZ:qP P w K mg base 1 "_law_bag" vR oM)(X0:qP P w K mg base 1 "_law_cell" tQ nL)(XJ:qP P w K mg base 2 "_law_digit" pD kK)(X3:qP P w K mg base 3 "_law_order" qX ng)(X4:qP P w K mg base 3 "_law_count" se m9)(XW:qP P w K mg base 7 "_law_right" qV lB)(Yu:qP P w K mg base 1 "_law_back" uc oU):FnOk P w K mg base qy 8 f fd Oz (rq K 1 y9):=vj (m:=Im) F tK λcdv B outer s H E hr=>
 jN (kD (i:=1) tK.nd (yN XZ hr (yN X0 hr (jE 0) jK) jK))
 (jN (kD (i:=2) tK.nd (kP (qk (jI jK (jI jK (jI jK (jI jK (jI jK (jI jK jT))))))) (yN XJ hr (jE 1) jK)))
 (jN (oq (kZ (WD hr.units) (yN XJ hr (jE 1) jK) jK)
 (jR (kD (i:=2) tK.nd jK))
 k6)
 (jN (kD (i:=3) tK.nd (yN X3 hr (jE 1) (jE 2)))
 (jN (kD (i:=4) tK.nd (yN X3 hr (yN XZ hr (yN X0 hr (jE 0) jK) jK) jK))
 (jN (kD (i:=5) tK.nd (zO X4 hr (jE 3)))
 (jN (oq (AW.at (Fy (xO (qF (yN XW hr (jE 3) (jE 5)))) (CM (xO (qF (yN XW hr (jE 4) (zO X4 hr (jE 4))))))))
 (jR (kq EZ))
 k6)
 (jR (kq (JX (yN XW hr (zO Yu hr (jE 3)) (jE 5)) (Lj (yN XW hr (jE 3) (jE 5))))))))))))
end
end K51
namespace K51
open PySem L2 Am
abbrev Ma (S:jL)(b:Nat):Prop:=∃g st:Int,jH S b=some [.int g,.int st]/\0<=g/\0<=st/\st<4294967296
def Ma.kp{c:Nat->Prop}(h:Ma S b)(k:Kp c S S')(hb:¬c b):Ma S' b:=by
 obtain⟨g,st,e,q⟩:=h;exact⟨g,st,k.lst b _ hb e,q⟩
def E5{ns:ae}{k:Int}(h0:0<=k):∃c,nL [.frz (ns.map .int),.int k] S=.ok (.int c) S:=by
 unfold nL tZ tV;dsimp[kF,bools,nI,Nat.reduceAdd,Nat.reduceSub,aL];by_cases hk:k<(ns.length:Int)
 ·have hn:k.toNat<ns.length:=()
  have ha:nY (ns.map A.int) k=some (.int ns[k.toNat]):=uT (k:=k.toNat) () (aH hn);rw[bq hk];dsimp[kF,bools,ha];exact⟨_,rfl⟩
 ·rw[bh hk];dsimp[kF,bools];exact⟨_,rfl⟩
def ET{S:jL}{c k:Int}(h0:0<=k)(h1:k<=100):∃S',oM [.int c,.int k] S=.ok (.ref S.length) S'/\Ma S' S.length/\qB S S':=by
 have e3:Ro (.int 10) (.int 18)=λS=>R.ok (.int 1000000000000000000) S:=by
  funext S;exact lC ⟨by decide,by decide,by decide⟩
 have m1:∀x:Int,zQ (.int x) (.int 2147483647)=λS=>R.ok (.int (x % 2147483647)) S:=λx=>by funext S;exact Br ⋯
 have m2:∀x:Int,vd (.int x) (.int 69621)=λS=>R.ok (.int (x * 69621)) S:=λx=>by funext S;exact mul_r ⋯ ⋯
 have m3:∀x:Int,vd (.int 7919) (.int x)=λS=>R.ok (.int (7919 * x)) S:=λx=>by funext S;exact J3 ⋯ ⋯
 have s0:∀x:Int,0<=x % 2147483647:=λx=>iO _ ⋯;have s1:∀x:Int,x % 2147483647<4294967296:=λx=>by have:=gB x (show(0:Int)<2147483647 by decide);lia
 have hA:0<=(if c<0 then -c else c):=by split<;>lia
 unfold oM vW vB;dsimp[kF,bools,nI,Nat.reduceAdd,Nat.reduceSub,e3,m1,m2,m3];by_cases hk:(if c<0 then -c else c)<1000000000000000000
 ·rw[bq hk];dsimp[kF,bools,e3,m1,m2,m3];exact⟨_,rfl,⟨_,_,j4,eo 0,s0 _,s1 _⟩,Kp.refl.lay⟩
 ·rw[bh hk];dsimp[kF,bools,e3,m1,m2,m3];exact⟨_,rfl,⟨_,_,j4,hA,s0 _,s1 _⟩,Kp.refl.lay⟩
def JQ{S:jL}{g st:Int}(hl:jH S b=some [.int g,.int st])(hs:0<=st)(hs2:st<4294967296):∃d st',m8 [.ref b] S=.ok (.int d) (S.set b (.lst [.int g,.int st']))/\0<=st'/\st'<4294967296:=by
 have hb:=oX hl;have i1:yM 2 1=some 1:=vQ rfl ⋯;have e1:0<=(st * 48271+11) % 2147483647:=iO _ ⋯;have e2:(st * 48271+11) % 2147483647<2147483647:=gB _ ⋯;refine⟨(st * 48271+11) % 2147483647 * 16807 % 2147483629 / 8,(st * 48271+11) % 2147483647,?_,e1,()⟩;unfold m8 rV rj;rw[uN];simp[hl,Jw,Mz,i1,J3 (show -18446744073709551616<st by lia) (),Br (show(0:Int)<2147483647 by decide),nE hb,LU (show(0:Int)<8 by decide) ⋯,J3 (show -18446744073709551616<(st * 48271+11) % 2147483647 by lia) (),Br (show(0:Int)<2147483629 by decide)]
def digit{m:Int}(h:Ma S b)(h1:1<=m)(h2:m<=1000):∃d S',kK [.ref b,.int m] S=.ok (.int d) S'/\0<=d/\d<m/\Ma S' b/\Kp (·=b) S S':=by
 obtain⟨g,st,hl,hg,hs,hs2⟩:=h;have hb:=oX hl;have i0:yM 2 0=some 0:=vQ rfl ⋯;have fin:∀d g' st':Int,0<=d->d<m->0<=g'->0<=st'->st'<4294967296->kK [.ref b,.int m] S=.ok (.int d) (S.set b (.lst [.int g',.int st']))->∃d S',kK [.ref b,.int m] S=.ok (.int d) S'/\0<=d/\d<m/\Ma S' b/\Kp (·=b) S S':=
  λd g' st' a1 a2 a3 a4 a5 e=>⟨d,_,e,a1,a2,⟨g',st',nE hb,a3,a4,a5⟩,Kp.refl.set (.inl rfl)⟩
 by_cases hg0:0<g
 ·refine fin (g % m) (g / m) st (iO _ ()) (gB _ ()) (Int.ediv_nonneg hg ()) hs hs2 ?_;unfold kK pF pC;rw[uN];simp[hl,Jw,Mz,hg0,Br (show 0<m by lia),LU (show 0<m by lia) (show m<1073741824 by lia),i0]
 ·obtain⟨d,st',e1,s0,s1⟩:=JQ hl hs hs2;refine fin (d % m) g st' (iO _ ()) (gB _ ()) hg s0 s1 ?_;unfold kK pF pC;rw[uN];simp[hl,Jw,Mz,hg0,Br (show 0<m by lia),e1,show ¬(1000<m)by lia]
theorem qC:∀(l:ae) (j:Nat) (h:j<l.length),(l[j]::l.eraseIdx j).Perm l
 | x::l,0,_=>dS _
 | x::l,j+1,h=>(List.Perm.swap x _ _).trans (List.Perm.cons x (qC l j (gR h)))
def GC{ls fs:ae}{j:Nat}(h:j<ls.length):((fs++[ls[j]])++ls.eraseIdx j).Perm (fs++ls):=by
 rw[bO];refine List.Perm.append_left fs ?_
 skip
 exact qC ls j h
def K3{d:Int}{n:Nat}(h0:0<=d)(h:d.toNat<n):seqIndex? d n=some d.toNat:=by
 unfold seqIndex?;simp
 lia
theorem zb{α β:Type}(f:α->β):∀(l:List α) (k:Nat),(l.map f).eraseIdx k=(l.eraseIdx k).map f
 | [],_=>rfl
 | _::_,0=>rfl
 | x::l,k+1=>dO (f x::·) (zb f l k)
def Ba{n:Int}(h:Ma S b)(h1:1<=n)(h2:n<=20):∃(xs:ae) (S':jL),ng [.ref b,.int n] S=.ok (.tup (xs.map .int)) S'/\xs.Perm (jX 1 (n+1))/\Ma S' b/\Kp (·=b) S S':=by
 have hbS:b<S.length:=by obtain⟨_,_,e,_⟩:=h;exact oX e
 unfold ng sf qR;dsimp[kF,bools,nI,Nat.reduceAdd,Nat.reduceSub,Hg (Bs (show(-1000000:Int)<=1 by decide) ⋯ (show -1000000<=n+1 by lia) () ()),aU];refine wR (lo:=0) (hi:=n) (S1:=S++[.lst ((jX 1 (n+1)).map .int)]++[.lst []]) (oW (by dsimp[kF,bools]) (mS () ()))
  (λi τ S1=>∃(x4:A) (ls fs:ae),τ=[.ref b,.int n,.ref S.length,.ref (S.length+1),x4]/\jH S1 S.length=some (ls.map .int)/\jH S1 (S.length+1)=some (fs.map .int)/\(ls.length:Int)+i=n/\(fs++ls).Perm (jX 1 (n+1))/\Ma S1 b/\Kp (·=b) S S1)
  (λr=>∃(xs:ae) (S':jL),RS.end (RS.seq r _)=.ok (.tup (xs.map .int)) S'/\xs.Perm (jX 1 (n+1))/\Ma S' b/\Kp (·=b) S S') ?_ ?_ ?_
 ·refine⟨.unb,jX 1 (n+1),[],rfl,qv j4,?_,by rw[kL];lia,dS _,h.kp (c:=λ_=>False) (Kp.refl.lay.lay) (λz=>z),Kp.refl.lay.lay⟩;have:jH (S++[.lst ((jX 1 (n+1)).map .int)]++[.lst []]) (S++[O.lst ((jX 1 (n+1)).map .int)]).length=some []:=j4;simpa using this
 ·rintro i τ S1 hi ⟨x4,ls,fs,rfl,hL,hF,hn,hp,hb,hk⟩;left;obtain⟨d,S2,e2,d0,d1,hb2,hk2⟩:=digit (m:=(ls.length:Int)) hb () ();have hL2:=hk2.lst S.length _ () hL;have hF2:=hk2.lst (S.length+1) _ () hF;have hd:d.toNat<ls.length:=()
  have lF:=oX hF2;have lL:=oX hL2;have hfl:fs.length<=20:=by
   have:=hp.length_eq;rw[aU,kL]at this
   lia
  have hsq:seqIndex? d ls.length=some d.toNat:=K3 d0 hd;have hF3:jH (S2.set S.length (.lst ((ls.map A.int).eraseIdx d.toNat))) (S.length+1)=some (fs.map .int):=by rw[nR ()];exact hF2
  unfold sZ;dsimp[kF,bools,hL,hF,aL,e2,hL2,DC,lC (show -(2 ^ 63:Int)<=d/\d<2 ^ 63 by lia),hsq,aR,aH hd,eN,hF3,FO (show fs.length<16777216 by lia)];refine⟨_,_,rfl,_,ls.eraseIdx d.toNat,fs++[ls[d.toNat]],rfl,?_,?_,?_,(GC hd).trans hp,?_,?_⟩
  ·rw[nR (),nE lL,zb]
  ·rw[nE (by rw[bN];exact lF),bU];rfl
  ·rw[List.length_eraseIdx_of_lt hd];lia
  ·obtain⟨g,st,e,q⟩:=hb2;exact⟨g,st,by rw[nR (),nR ()];exact e,q⟩
  ·exact((hk.trans hk2).set (.inr (aS _))).set (.inr ())
 ·rintro τ S1 ⟨x4,ls,fs,rfl,hL,hF,hn,hp,hb,hk⟩;have:ls=[]:=dw.mp ();subst this;exact⟨fs,S1,by dsimp[kF,bools,hF],by simpa using hp,hb,hk⟩
def HP{l:ae}{k:Nat}{i:Int}(h:i=k)(hk:k<l.length):nY (l.map A.int) i=some (.int (l.getD k 0)):=uT h (by rw[aI,aH hk];rfl)
abbrev prs (n:Int):ad:=(jX 1 n).flatMap λi=>(jX (i+1) (n+1)).map λj=>.tup [.int i,.int j]
def Fx{n:Int}{x:A}:x∈prs n ↔ ∃i j:Int,1<=i/\i<j/\j<=n/\x=.tup [.int i,.int j]:=by
 unfold prs;rw[iA];constructor
 ·rintro⟨i,hi,hx⟩;obtain⟨j,hj,rfl⟩:=bH.mp hx;rw[kG]at hi hj;exact⟨i,j,(),(),(),rfl⟩
 ·rintro⟨i,j,h1,h2,h3,rfl⟩;exact⟨i,kG.mpr ⟨h1,()⟩,bH.mpr ⟨j,kG.mpr ⟨(),()⟩,rfl⟩⟩
theorem Cf{α β:Type}{f:α->List β}{B:Nat}:∀(l:List α),(∀x∈l,(f x).length<=B)->(l.flatMap f).length<=l.length * B
 | [],_=>cZ _
 | x::l,h=>by
  rw[fP,aU,bF,Nat.add_mul,Nat.one_mul];have:=Cf l λy hy=>h y (aQ _ hy);have:=h x (aP ..)
  lia
def AD{n:Int}(h0:0<=n)(h1:n<=1000):(prs n).length<=16777216:=by
 have:=Cf (B:=1000) (f:=λi=>(jX (i+1) (n+1)).map λj=>A.tup [.int i,.int j]) (jX 1 n) λx hx=>by
  rw[kG]at hx;rw[aL,kL];lia
 rw[kL]at this;have h2:(n-1).toNat * 1000<=1000 * 1000:=Nat.mul_le_mul_right _ ();unfold prs
 lia
theorem O5{i n lo hi:Int}:∀(k t:Nat) (x1:A),k+t=(hi-lo).toNat->∃x1',pN (kN lo hi) (kO 1) sU (uD (jG (jF 0) (jG (jF 1) (jQ)))) k t [.int i,x1,.int n] S=.ok ((List.range' t k).map λq:Nat=>A.tup [.int i,.int (lo+q)],[.int i,x1',.int n]) S
 | 0,t,x1,_=>⟨x1,rfl⟩
 | k+1,t,x1,h=>by
  obtain⟨x1',e⟩:=O5 (S:=S) (i:=i) (n:=n) (lo:=lo) (hi:=hi) k (t+1) (.int (lo+t)) ();refine⟨x1',?_⟩;unfold pN;have hg:(kN lo hi).get t S=some (.int (lo+t)):=aN ();dsimp[kF,bools,hg,AJ (show([_,_]:ad).length<=16777216 by simp),e,eB,bI]
theorem K6{n:Int}(h0:0<=n)(h1:n<=1000):∀(k t:Nat) (x0 x1:A),k+t=(n-1).toNat->oE (kN 1 n) (kO 0) sU (oA (jP l_ (jF 0) (eC (.int 1))) (jP l_ (jF 2) (eC (.int 1)))) (kO 1) sU (uD (jG (jF 0) (jG (jF 1) (jQ)))) k t [x0,x1,.int n] S=.ok ((List.range' t k).flatMap λq:Nat=>(jX (1+q+1) (n+1)).map λj=>A.tup [.int (1+q),.int j]) S
 | 0,t,x0,x1,_=>rfl
 | k+1,t,x0,x1,h=>by
  have hg:(kN 1 n).get t S=some (.int (1+t)):=aN ();obtain⟨x1',e⟩:=O5 (S:=S) (i:=1+t) (n:=n) (lo:=1+t+1) (hi:=n+1) (kN (1+t+1) (n+1)).k 0 x1 rfl;have hr:((List.range' 0 (kN (1+(t:Int)+1) (n+1)).k).map λq:Nat=>A.tup [.int (1+t),.int (1+t+1+q)])=(jX (1+t+1) (n+1)).map λj=>A.tup [.int (1+t),.int j]:=by
   unfold jX;rw[bJ,cE];rfl
  rw[hr]at e;have e2:=K6 (S:=S) h0 h1 k (t+1) (.int (1+t)) x1' ();have hs:oA (jP l_ (jF 0) (eC (.int 1))) (jP l_ (jF 2) (eC (.int 1))) [.int (1+t),x1,.int n] S=.ok (kN (1+t+1) (n+1)) S:=
   uF (S1:=S) (by dsimp[kF,bools]) (by dsimp[kF,bools]) (mS () ()) (mS () ())
  unfold oE;dsimp[kF,bools,hg,hs,e,e2,eB,fP]
def BE{S:jL}{n:Int}(h0:0<=n)(h1:n<=1000):kH [.int n] S=.ok (.ref S.length) (S++[.lst (prs n)]):=by
 have hs:oA (eC (.int 1)) (jF 0) [.int n] S=.ok (kN 1 n) S:=uF (S1:=S) (by dsimp[kF,bools]) (by dsimp[kF,bools]) (mS () ()) (mS () ());have e:=K6 (S:=S) h0 h1 (kN 1 n).k 0 .unb .unb rfl;have hp:((List.range' 0 (kN 1 n).k).flatMap λq:Nat=>(jX (1+q+1) (n+1)).map λj=>A.tup [.int (1+q),.int j])=prs n:=by
  unfold prs jX;rw[jl,<- cE];rfl
 rw[hp]at e;unfold kH p5 pQ Du;dsimp[kF,bools,nI,Nat.reduceAdd,Nat.reduceSub,hs,e,kE (AD h0 h1)]
abbrev wg (xs:ae)(q:A):Bool:=match q with
 | .tup [.int i,.int j]=>decide (xs.getD (i-1).toNat 0>xs.getD (j-1).toNat 0)
 | _=>false
def SX{xs:ae}{i:Int}(h1:0<=i)(h2:i<xs.length):nY (xs.map A.int) i=some (.int (xs.getD i.toNat 0)):=HP (k:=i.toNat) () ()
def TX{S:jL}{n:Nat}{xs:ae}(hlen:xs.length=n)(h2:n<=20) :
  ∃(P:Nat) (S':jL),mE [.tup (xs.map .int)] S=.ok (.ref P) S'/\jH S' P=some ((prs n).filter (wg xs))/\qB S S'/\S.length<=P:=by
 have eq:=BE (S:=S) (n:=(n:Int)) () ();have hL:jH (S++[O.lst (prs n)]) S.length=some (prs n):=j4;obtain⟨S',g1,g2⟩:=pq (s:=mP S.length (prs n).length) (g:=A9 2 (sP (kO 0) (sP (kO 1) (A6)))) (t:=ug (jP Cv (jP om (jF 2) (jP aSub (jF 0) (eC (.int 1)))) (jP om (jF 2) (jP aSub (jF 1) (eC (.int 1)))))) (e:=uD (jG (jF 0) (jG (jF 1) (jQ))))
  (P:=λS1=>S1=S++[O.lst (prs n)]) (T:=λτ'=>∃y z,τ'=[y,z,.tup (xs.map .int)])
  (λi=>(prs n).getD i .unb) (λi=>wg xs ((prs n).getD i .unb)) (λi=>(prs n).getD i .unb)
  (λi S1 hi k=>by
   have hi:i<(prs n).length:=hi;show(jH S1 S.length).bind _=_;rw[k,hL,dB,aI,aH hi];rfl)
  (λS1 k=>by
   show(match jH S1 S.length with
    | some ys=>decide (ys.length<=(prs n).length)
    | none=>false)=true
   rw[k,hL];simp)
  (λi τ' S1 hi ⟨y,z,hy⟩ k=>by
   have hi:i<(prs n).length:=hi;subst hy k;have hm:(prs n).getD i .unb∈prs n:=by rw[aI,aH hi];exact c_ hi
   obtain⟨a,c,q1,q2,q3,eac⟩:=Fx.mp hm;rw[eac];have x1:nY (xs.map A.int) (a-1)=some (.int (xs.getD (a-1).toNat 0)):=SX () ();have x2:nY (xs.map A.int) (c-1)=some (.int (xs.getD (c-1).toNat 0)):=SX () ();refine⟨[.int a,.int c,.tup (xs.map .int)],S++[O.lst (prs n)],S++[O.lst (prs n)],by dsimp[kF,bools,lC (show([_,_]:ad).length=2 from rfl)],by dsimp[kF,bools,x1,x2];rfl,⟨_,_,rfl⟩,λ_=>rfl,λ_=>⟨_,by dsimp[kF,bools,AJ (show([_,_]:ad).length<=16777216 by simp)],rfl⟩⟩)
  (prs n).length 0 (nN [none,none,some 0] [.tup (xs.map .int)]) (S++[O.lst (prs n)]) rfl ⟨_,_,rfl⟩ rfl
 subst g2;have ef:=nJ (prs n) (wg xs) (λq=>q) .unb;rw[cE,map_id']at ef;rw[ef]at g1;have ll:=AD (n:=(n:Int)) () ();refine⟨_,(S++[O.lst (prs n)])++[.lst ((prs n).filter (wg xs))],?_,j4,Kp.refl.lay.lay,by rw[aU];lia⟩;have ec:kM [none,none,some 0] (qD (eFn kH (jG (j5 (f1 nh) (jG (jF 0) (jQ))) (jQ)))) (A9 2 (sP (kO 0) (sP (kO 1) (A6)))) (ug (jP Cv (jP om (jF 2) (jP aSub (jF 0) (eC (.int 1)))) (jP om (jF 2) (jP aSub (jF 1) (eC (.int 1)))))) (uD (jG (jF 0) (jG (jF 1) (jQ)))) [.tup (xs.map .int)] S=.ok (.ref (S++[O.lst (prs n)]).length) ((S++[O.lst (prs n)])++[.lst ((prs n).filter (wg xs))]):=by
  unfold kM;rw[rL (S1:=S++[O.lst (prs n)]) (by dsimp[kF,bools,aL,hlen,eq]) hL,R.lJ];show R.lK (mw (mP S.length (prs n).length) _ _ _ (prs n).length 0 _ _) _=_;rw[g1,R.lg,kE (bX (eG _ _) ll)]
 unfold mE pY pX;dsimp[kF,bools,nI,Nat.reduceAdd,Nat.reduceSub,ec]
abbrev A_ (i hi:Int):ad:=(jX (i+1) hi).map λj=>.tup [.int i,.int j]
def JZ(a:Int)(u:Nat):jX a (a+((u+1:Nat):Int))=jX a (a+(u:Int))++[a+(u:Int)]:=by
 unfold jX;rw[show(a+((u+1:Nat):Int)-a).toNat=u+1 by lia,show(a+(u:Int)-a).toNat=u by lia,jy,bU];rfl
def Mb(n:Nat):prs n=(jX 1 (n:Int)).flatMap λi=>A_ i ((n:Int)+1):=rfl
open Bl
def HQ{xs:ae}{i:Nat}(h:i<=xs.length):(jX ((i:Int)+1) ((xs.length:Int)+1)).map (λj=>xs.getD (j-1).toNat 0)=xs.drop i:=by
 apply bR;intro p;rw[aR,fG];by_cases c:i+p<xs.length
 ·have:(jX ((i:Int)+1) ((xs.length:Int)+1))[p]?=some ((i:Int)+1+p):=by
   unfold jX;rw[aR,cj ()];rfl
  rw[this];show some (xs.getD ((i:Int)+1+p-1).toNat 0)=_;rw[show((i:Int)+1+p-1).toNat=i+p by lia,<- Iv.oK c]
 ·rw[bG (by rw[kL];lia),bG ()];rfl
def Nd{xs:ae}{i:Nat}(h:i<xs.length):((A_ ((i:Int)+1) ((xs.length:Int)+1)).filter (wg xs)).length=(xs.drop (i+1)).countP λy=>decide (y<xs.getD i 0):=by
 rw[<- HQ (xs:=xs) (i:=i+1) (),iN,<- List.countP_eq_length_filter];unfold A_;rw[iN,show(((i+1:Nat):Int))=(i:Int)+1 by lia];refine gT λj _=>?_;show wg xs (.tup [.int ((i:Int)+1),.int j])=true ↔ decide (xs.getD (j-1).toNat 0<xs.getD i 0)=true;show decide (xs.getD ((i:Int)+1-1).toNat 0>xs.getD (j-1).toNat 0)=true ↔ _;rw[show((i:Int)+1-1).toNat=i by lia]
theorem Co{xs:ae}:∀(k i:Nat),i+k=xs.length->(((List.range' i k).flatMap λq:Nat=>A_ ((q:Int)+1) ((xs.length:Int)+1)).filter (wg xs)).length=Iv.inv (xs.drop i)
 | 0,i,h=>by rw[List.drop_of_length_le ()];rfl
 | k+1,i,h=>by
  have hi:i<xs.length:=()
  rw[eB,fP,i9,aU,Nd hi,Co k (i+1) ()];have:xs.drop i=xs.getD i 0::xs.drop (i+1):=by
   rw[bZ hi];congr 1;have:=Iv.oK hi;rw[aH hi]at this;exact aW this
  rw[this];rfl
def PU{xs:ae}{n:Nat}(hl:xs.length=n)(h1:1<=n):((prs n).filter (wg xs)).length=Iv.inv xs:=by
 have h:=Co (xs:=xs) n 0 ();rw[i6]at h;rw[<- h,Mb,hl];have e:(jX 1 (n:Int)).flatMap (λi=>A_ i ((n:Int)+1))=(List.range' 0 n).flatMap λq:Nat=>A_ ((q:Int)+1) ((n:Int)+1):=by
  obtain⟨m,rfl⟩:∃m,n=m+1:=⟨n-1,()⟩;rw[List.range'_concat,List.flatMap_append];have z:A_ (((0+1 * m:Nat):Int)+1) (((m+1:Nat):Int)+1)=[]:=by
   unfold A_ jX;rw[show(((m+1:Nat):Int)+1-((((0+1 * m:Nat):Int)+1)+1)).toNat=0 by lia];rfl
  rw[fP,z];unfold jX;rw[show(((m+1:Nat):Int)-1).toNat=m by lia,jl,cE];dsimp[List.flatMap_nil,cX];congr 1
  funext q
  rw[Int.add_comm]
 rw[e]
def Q3{a:ae}{i j:Nat}(hij:i<j)(hj:j<a.length)(hl:a.length<=1000):∃S',kr [.tup (a.map .int),.int ((i:Int)+1),.int ((j:Int)+1)] S=.ok (.tup ((Iv.sw a i j).map .int)) S'/\qB S S':=by
 have a1:nY (a.map A.int) (j:Int)=some (.int (a.getD j 0)):=HP rfl hj;have a2:nY (a.map A.int) (i:Int)=some (.int (a.getD i 0)):=HP rfl ();have x1:yM a.length (i:Int)=some i:=vQ rfl ();have x2:yM a.length (j:Int)=some j:=vQ rfl hj;have hL:jH (S++[O.lst (a.map .int)]) S.length=some (a.map .int):=j4;have lS:∀ys,jH ((S++[O.lst (a.map .int)]).set S.length (.lst ys)) S.length=some ys:=λys=>nE (by simp);have em:((a.map A.int).set i (.int (a.getD j 0))).set j (.int (a.getD i 0))=(Iv.sw a i j).map .int:=by unfold Iv.sw;rw[gS,gS]
 unfold kr mQ mY;dsimp[kF,bools,nI,Nat.reduceAdd,Nat.reduceSub,hL,show(j:Int)+1-1=j by lia,show(i:Int)+1-1=i by lia,a1,a2,lC (show 2<=sizeLine by decide),lC (show 2=2 from rfl),aL,x1,lS,bN,x2,em];rw[nE (by simp)];dsimp[kF,bools];exact⟨_,rfl,((Kp.refl.lay).set (.inr (aS _))).set (.inr (aS _))⟩
open Stp
meta abbrev kh (w:ae):A:=.tup (w.map .int)
abbrev pA (p:Nat×Nat):A:=.tup [.int ((p.1:Int)+1),.int ((p.2:Int)+1)]
abbrev MX (n i:Nat):List (Nat×Nat):=(List.range' (i+1) (n-(i+1))).map λj=>(i,j)
abbrev SH (n:Nat):List (Nat×Nat):=(List.range n).flatMap (MX n)
def EI{n:Nat}{p:Nat×Nat}(h:p∈SH n):p.1<p.2/\p.2<n:=by
 obtain⟨i,hi,h⟩:=iA.mp h;obtain⟨j,hj,rfl⟩:=bH.mp h;have:=cV.mp hi;rw[List.mem_range'_1]at hj;exact⟨by show i<j;lia,by show j<n;lia⟩
def MM{n:Nat}(h1:i<j)(h2:j<n):(i,j)∈SH n:=
 iA.mpr ⟨i,cV.mpr (),bH.mpr ⟨j,List.mem_range'_1.mpr (),rfl⟩⟩
def Ea{n:Nat}(h1:1<=n):prs n=(SH n).map pA:=by
 have e1:List.range n=List.range (n-1)++[n-1]:=by rw[<- jy,Nat.succ_eq_add_one,show n-1+1=n by lia]
 have e2:MX n (n-1)=[]:=by unfold MX;rw[show n-(n-1+1)=0 by lia];rfl
 unfold SH;rw[e1,List.flatMap_append,fP,List.flatMap_nil,e2,cX,cX,List.map_flatMap];unfold prs;have e3:jX 1 (n:Int)=(List.range (n-1)).map λq:Nat=>(1:Int)+q:=by
  unfold jX;rw[show((n:Int)-1).toNat=n-1 by lia]
 rw[e3,jl];congr 1
 funext i
 unfold MX jX;rw[bJ,bJ,List.range'_eq_map_range,bJ,show((n:Int)+1-(1+(i:Int)+1)).toNat=n-(i+1)by lia];refine cD λq _=>?_;show A.tup [.int (1+(i:Int)),.int (1+(i:Int)+1+(q:Int))]=A.tup [.int ((i:Int)+1),.int (((i+1+q:Nat):Int)+1)];rw[show(1:Int)+(i:Int)=(i:Int)+1 by lia,show((i:Int)+1+1+(q:Int))=(((i+1+q:Nat):Int)+1)by lia]
def Si{a:ae}{i j:Nat}(hij:i<j)(hj:j<a.length):uY (a.map A.int) (some ((i:Int)+1)) (some ((j:Int)+1-1))=(mm a i j).map .int:=by
 unfold uY mm;have l:(a.map A.int).length=a.length:=aL ..;have s1:HT.mC (a.map A.int).length 0 (some ((i:Int)+1))=i+1:=by
  rw[show(i:Int)+1=((i+1:Nat):Int)by lia,HT.qt,l];lia
 have s2:HT.mC (a.map A.int).length (a.map A.int).length (some ((j:Int)+1-1))=j:=by
  rw[show(j:Int)+1-1=(j:Int)by lia,HT.qt,l];lia
 rw[s1,s2,map_take,map_drop,show j-(i+1)=j-i-1 by lia]
def Vu{f g:A->A->jL->R A}{ca cb cc:Ex}{a c:A}(h1:ca τ S=.ok a S)(h2:cb τ S=.ok b S)(h3:f a b S=.ok (.bl true) S)(h4:cc τ S=.ok c S):Nv f g ca cb cc τ S=g b c S:=by
 unfold Nv;rw[h1,R.lJ,h2,R.lJ,h3,R.lJ];unfold WM;show(cc τ S).bind _=_;rw[h4];rfl
def V7{f g:A->A->jL->R A}{ca cb cc:Ex}{a:A}(h1:ca τ S=.ok a S)(h2:cb τ S=.ok b S)(h3:f a b S=.ok (.bl false) S):Nv f g ca cb cc τ S=.ok (.bl false) S:=by
 unfold Nv;rw[h1,R.lJ,h2,R.lJ,h3,R.lJ];rfl
def QO{n:Nat}{bs:List Bool}(h:jH S n=some xs)(hb:A.A7 xs=some bs):QY (.ref n) S=.ok (.bl (bs.any λb=>b)) S:=by
 show opt (jH S n) _=_;rw[h];show opt (A.A7 xs) _=_;rw[hb];rfl
theorem OU{α:Type}(f:α->Bool):∀(xs:List α),A.A7 (xs.map λx=>.bl (f x))=some (xs.map f)
 | []=>rfl
 | x::xs=>by rw[bI,vJ,OU f xs];rfl
theorem Na{a:ae}{i j:Nat}(hij:i<j)(hj:j<a.length)(hl:a.length<=20):nP [.tup (a.map .int),.int ((i:Int)+1),.int ((j:Int)+1)] S=.ok (.bl (G4 a i j)) (S++[.lst ((mm a i j).map λm=>.bl (A8 (if a.getD j 0<a.getD i 0 then a.getD j 0 else a.getD i 0) (if a.getD j 0>a.getD i 0 then a.getD j 0 else a.getD i 0) m))]):=by
 have a1:nY (a.map A.int) (j:Int)=some (.int (a.getD j 0)):=HP rfl hj;have a2:nY (a.map A.int) (i:Int)=some (.int (a.getD i 0)):=HP rfl ();obtain⟨x,hx⟩:∃x,x=(if a.getD j 0<a.getD i 0 then a.getD j 0 else a.getD i 0):=⟨_,rfl⟩;obtain⟨y,hy⟩:∃y,y=(if a.getD j 0>a.getD i 0 then a.getD j 0 else a.getD i 0):=⟨_,rfl⟩;have lm:(mm a i j).length<=20:=by unfold mm;rw[bB,cN];lia
 have ec:=LV (cap:=[some 3,some 4]) (src:=qD (SV (jF 0) (v9 (jF 1)) (v9 (jP aSub (jF 2) (eC (.int 1)))))) (e:=Nv F4 F4 (jF 1) (jF 0) (jF 2)) (τ:=[.tup (a.map .int),.int ((i:Int)+1),.int ((j:Int)+1),.int x,.int y]) (S:=S) (S1:=S) (xs:=(mm a i j).map .int)
  (R_ (by
   dsimp[kF,bools];have hg:¬(HT.mC (a.map A.int).length 0 (some ((i:Int)+1))=0/\HT.mC (a.map A.int).length (a.map A.int).length (some ((j:Int)+1-1))=(a.map A.int).length):=by
    rw[show(i:Int)+1=((i+1:Nat):Int)by lia,HT.qt,aL]
    lia
   have hs:HD (.tup (a.map .int)) (some ((i:Int)+1)) (some ((j:Int)+1-1)) S=.ok (.tup (uY (a.map .int) (some ((i:Int)+1)) (some ((j:Int)+1-1)))) S:=lC hg;rw[hs,Si hij hj]))
  (λz=>match z with | .int m=>.bl (A8 x y m)|_=>.non) (λz hz=>by
   obtain⟨m,_,rfl⟩:=bH.mp hz;show Nv F4 F4 (jF 1) (jF 0) (jF 2) [.int m,.int x,.int y] S=.ok (.bl (A8 x y m)) S;unfold A8;by_cases c:x<m
   ·rw[Vu (a:=.int x) (b:=.int m) (c:=.int y) rfl rfl (by dsimp[kF,bq c]) rfl,bq c,jh];dsimp[kF]
   ·rw[V7 (a:=.int x) (b:=.int m) rfl rfl (by dsimp[kF,bh c]),bh c];rfl) (by rw[aL];lia)
 rw[bJ,show((λz=>match z with | .int m=>A.bl (A8 x y m)|_=>.non) ∘ A.int:Int->A)=(λm=>A.bl (A8 x y m))from rfl]at ec;unfold nP vD vq;dsimp[kF,bools,nI,Nat.reduceAdd,Nat.reduceSub,show(j:Int)+1-1=j by lia,show(i:Int)+1-1=i by lia,a1,a2,<- hx,<- hy,ec];rw[QO j4 (OU (A8 x y) (mm a i j))];dsimp[kF,bools];unfold G4;rw[<- hx,<- hy,List.any_map];rfl
end K51
namespace K51
open PySem L2 Am
open Stp
theorem E6:∀{ls:List (ae)},(∀l∈ls,l≠[])->PC (ls.map kh)=some ls
 | [],_=>rfl
 | l::ls,h=>by
  have hl:=h l (aP ..);have ih:=E6 λk hk=>h k (aQ _ hk);show PC (.tup (l.map .int)::ls.map kh)=_;unfold PC;rw[ints_map]
  cases l with
  | nil=>exact absurd rfl hl
  | cons k ks=>dsimp only;rw[ih];rfl
def Gu{S:jL}{n:Nat}{ls:List (ae)}(h:jH S n=some (ls.map kh))(hne:∀l∈ls,l≠[]):uU (.ref n) S=.ok (.ref S.length) (S++[.lst ((mZ ls).map kh)]):=by
 cases ls with
 | nil=>
  have e:Vi (.ref n) S=false:=by
   show(match jH S n with
    | some (.tup _::_)=>true
    | _=>false)=_
   rw[h];rfl
  unfold uU;rw[e];show opt (jH S n) _=_;rw[h];rfl
 | cons l ls=>
  have e:Vi (.ref n) S=true:=by
   show(match jH S n with
    | some (.tup _::_)=>true
    | _=>false)=_
   rw[h];rfl
  unfold uU;rw[e];show Aq n S=_;unfold Aq;rw[h,j3,E6 hne,j3]
def Uv{a:ae}(h:1<=a.length):Iv.sw a i j≠[]:=λz=>by
 have:=Iv.z6 a i j;rw[z,fJ]at this
 lia
def CP{α β:Type}(ls:List α)(p:α->Bool)(f:α->β)(d:α):((List.range ls.length).filter λi=>p (ls.getD i d)).map (λi=>f (ls.getD i d))=(ls.filter p).map f:=by
 have e:ls=(List.range ls.length).map λi=>ls.getD i d:=(range_getD ls d).symm
 conv=>rhs;rw[e,iL,bJ]
 rfl
abbrev stp (a:ae)(ps:List (Nat×Nat)):List (ae):=(ps.filter λp=>G4 a p.1 p.2).map λp=>Iv.sw a p.1 p.2
def LG{S:jL}{a:ae}{P:Nat}{ps:List (Nat×Nat)}(hp:jH S P=some (ps.map pA))(hps:∀p∈ps,p.1<p.2/\p.2<a.length)(h1:1<=a.length)(hl:a.length<=20)(hlen:ps.length<=16777216) :
  ∃(R:Nat) (S':jL),uQ [kh a,.ref P] S=.ok (.ref R) S'/\jH S' R=some ((mZ (stp a ps)).map kh)/\qB S S'/\S.length<=R:=by
 have pm:∀i,i<ps.length->ps.getD i (0,0)∈ps:=λi hi=>by rw[aI,aH hi];exact c_ hi
 have lm:(ps.map pA).length=ps.length:=aL ..;obtain⟨S',g1,g2,g3⟩:=pq (s:=mP P (ps.map pA).length) (g:=A9 2 (sP (kO 0) (sP (kO 1) (A6)))) (t:=r8 (eFn nP (jG (jF 2) (jG (jF 0) (jG (jF 1) (jQ)))))) (e:=eFn kr (jG (jF 2) (jG (jF 0) (jG (jF 1) (jQ)))))
  (P:=λS1=>jH S1 P=some (ps.map pA)/\qB S S1) (T:=λτ'=>∃y z,τ'=[y,z,kh a])
  (λi=>pA (ps.getD i (0,0))) (λi=>G4 a (ps.getD i (0,0)).1 (ps.getD i (0,0)).2) (λi=>kh (Iv.sw a (ps.getD i (0,0)).1 (ps.getD i (0,0)).2))
  (λi S1 hi k=>by
   have hi:i<ps.length:=by rw[<- lm];exact hi
   show(jH S1 P).bind _=_;rw[k.1,dB,aR,aI,aH hi];rfl)
  (λS1 k=>by
   show(match jH S1 P with
    | some ys=>decide (ys.length<=(ps.map pA).length)
    | none=>false)=true
   rw[k.1];simp)
  (λi τ' S1 hi ⟨y,z,hy⟩ k=>by
   have hi:i<ps.length:=by rw[<- lm];exact hi
   subst hy;obtain⟨q1,q2⟩:=hps _ (pm i hi);obtain⟨p,hpe⟩:∃p,p=ps.getD i (0,0):=⟨_,rfl⟩;rw[<- hpe]at q1 q2 ⊢;have s1:=Na (S:=S1) q1 q2 hl;have k1:qB S1 (S1++[.lst ((mm a p.1 p.2).map λm=>.bl (A8 (if a.getD p.2 0<a.getD p.1 0 then a.getD p.2 0 else a.getD p.1 0) (if a.getD p.2 0>a.getD p.1 0 then a.getD p.2 0 else a.getD p.1 0) m))]):=Kp.refl.lay;obtain⟨S2,hS2⟩:∃S2,S2=S1++[.lst ((mm a p.1 p.2).map λm=>.bl (A8 (if a.getD p.2 0<a.getD p.1 0 then a.getD p.2 0 else a.getD p.1 0) (if a.getD p.2 0>a.getD p.1 0 then a.getD p.2 0 else a.getD p.1 0) m))]:=⟨_,rfl⟩;rw[<- hS2]at s1 k1;obtain⟨S3,e3,k3⟩:=Q3 (S:=S2) q1 q2 ();refine⟨[.int ((p.1:Int)+1),.int ((p.2:Int)+1),kh a],S1,S2,?_,?_,⟨_,_,rfl⟩,λ_=>⟨k1.lst _ _ (λz=>z) k.1,k.2.trans k1⟩,λ_=>⟨S3,?_,(k1.trans k3).lst _ _ (λz=>z) k.1,(k.2.trans k1).trans k3⟩⟩
   ·show A9 2 (sP (kO 0) (sP (kO 1) (A6))) (.tup [.int ((p.1:Int)+1),.int ((p.2:Int)+1)]) _ _=_;dsimp[kF,zE,bools,lC (show([_,_]:ad).length=2 from rfl)]
   ·dsimp[kF,zE,bools,s1]
   ·dsimp[kF,zE,bools,e3])
  (ps.map pA).length 0 (nN [none,none,some 0] [kh a,.ref P]) S rfl ⟨_,_,rfl⟩ ⟨hp,Kp.refl⟩
 rw[lm,<- cE,CP ps (λp=>G4 a p.1 p.2) (λp=>kh (Iv.sw a p.1 p.2)) (0,0)]at g1;have e1:(ps.filter λp=>G4 a p.1 p.2).map (λp=>kh (Iv.sw a p.1 p.2))=(stp a ps).map kh:=by unfold stp;rw[bJ];rfl
 rw[e1]at g1;have ll:((stp a ps).map kh).length<=16777216:=by
  unfold stp;rw[aL,aL];exact bX (eG _ _) hlen
 have ec:kM [none,none,some 0] (qD (jF 1)) (A9 2 (sP (kO 0) (sP (kO 1) (A6)))) (r8 (eFn nP (jG (jF 2) (jG (jF 0) (jG (jF 1) (jQ)))))) (eFn kr (jG (jF 2) (jG (jF 0) (jG (jF 1) (jQ))))) [kh a,.ref P] S=.ok (.ref S'.length) (S'++[.lst ((stp a ps).map kh)]):=by
  unfold kM;rw[rL (S1:=S) (by dsimp[kF,zE,bools]) hp,R.lJ];show R.lK (mw (mP P (ps.map pA).length) _ _ _ (ps.map pA).length 0 _ _) _=_;rw[lm,g1,R.lg,kE ll]
 have so:=Gu (S:=S'++[.lst ((stp a ps).map kh)]) (n:=S'.length) j4 λl hl=>by
  unfold stp at hl;obtain⟨p,_,rfl⟩:=bH.mp hl;exact Uv h1
 refine⟨(S'++[O.lst ((stp a ps).map kh)]).length,(S'++[O.lst ((stp a ps).map kh)])++[.lst ((mZ (stp a ps)).map kh)],?_,j4,g3.lay.lay,by have:=g3.len;rw[aU];lia⟩;unfold uQ zU Ae;dsimp[kF,zE,bools,nI,Nat.reduceAdd,Nat.reduceSub,ec,so]
def NN{n:Nat}(h1:1<=n)(h:n<=20):(SH n).length<=16777216:=by
 have:=AD (n:=(n:Int)) () ();rw[Ea h1,aL]at this;exact this
def Oj{n:Nat}(h1:1<=n)(q:A->Bool):(prs n).filter q=((SH n).filter λp=>q (pA p)).map pA:=by
 rw[Ea h1,iL];rfl
abbrev ups (a:ae):List (Nat×Nat):=(SH a.length).filter λp=>decide (a.getD p.1 0<a.getD p.2 0)
def JU{S:jL}{a:ae}(h1:1<=a.length)(hl:a.length<=20):∃(R:Nat) (S':jL),mG [kh a] S=.ok (.ref R) S'/\jH S' R=some ((mZ (stp a (ups a))).map kh)/\qB S S'/\S.length<=R:=by
 have eq:=BE (S:=S) (n:=(a.length:Int)) () ();have hL:jH (S++[O.lst (prs a.length)]) S.length=some (prs a.length):=j4;obtain⟨S',g1,g2⟩:=pq (s:=mP S.length (prs a.length).length) (g:=A9 2 (sP (kO 0) (sP (kO 1) (A6)))) (t:=ug (jP F4 (jP om (jF 2) (jP aSub (jF 0) (eC (.int 1)))) (jP om (jF 2) (jP aSub (jF 1) (eC (.int 1)))))) (e:=uD (jG (jF 0) (jG (jF 1) (jQ))))
  (P:=λS1=>S1=S++[O.lst (prs a.length)]) (T:=λτ'=>∃y z,τ'=[y,z,kh a])
  (λi=>(prs a.length).getD i .unb) (λi=>match (prs a.length).getD i .unb with | .tup [.int i,.int j]=>decide (a.getD (i-1).toNat 0<a.getD (j-1).toNat 0)|_=>false) (λi=>(prs a.length).getD i .unb)
  (λi S1 hi k=>by
   have hi:i<(prs a.length).length:=hi;show(jH S1 S.length).bind _=_;rw[k,hL,dB,aI,aH hi];rfl)
  (λS1 k=>by
   show(match jH S1 S.length with
    | some ys=>decide (ys.length<=(prs a.length).length)
    | none=>false)=true
   rw[k,hL];simp)
  (λi τ' S1 hi ⟨y,z,hy⟩ k=>by
   have hi:i<(prs a.length).length:=hi;subst hy k;have hm:(prs a.length).getD i .unb∈prs a.length:=by rw[aI,aH hi];exact c_ hi
   obtain⟨u,c,q1,q2,q3,eac⟩:=Fx.mp hm;rw[eac];have x1:nY (a.map A.int) (u-1)=some (.int (a.getD (u-1).toNat 0)):=SX () ();have x2:nY (a.map A.int) (c-1)=some (.int (a.getD (c-1).toNat 0)):=SX () ();refine⟨[.int u,.int c,kh a],S++[O.lst (prs a.length)],S++[O.lst (prs a.length)],by dsimp[kF,zE,bools,lC (show([_,_]:ad).length=2 from rfl)],by dsimp[kF,zE,bools,x1,x2],⟨_,_,rfl⟩,λ_=>rfl,λ_=>⟨_,by dsimp[kF,zE,bools,AJ (show([_,_]:ad).length<=16777216 by simp)],rfl⟩⟩)
  (prs a.length).length 0 (nN [none,none,some 0] [kh a]) (S++[O.lst (prs a.length)]) rfl ⟨_,_,rfl⟩ rfl
 subst g2;rw[<- cE,CP (prs a.length) (λz=>match z with | .tup [.int i,.int j]=>decide (a.getD (i-1).toNat 0<a.getD (j-1).toNat 0)|_=>false) (λq=>q) .unb,map_id']at g1;have ef:(prs a.length).filter (λz=>match z with | .tup [.int i,.int j]=>decide (a.getD (i-1).toNat 0<a.getD (j-1).toNat 0)|_=>false)=(ups a).map pA:=by
  rw[Oj h1];have:(λp=>(λz=>match z with | .tup [.int i,.int j]=>decide (a.getD (i-1).toNat 0<a.getD (j-1).toNat 0)|_=>false) (pA p))=λp:Nat×Nat=>decide (a.getD p.1 0<a.getD p.2 0):=by
   funext p
   show decide (a.getD ((p.1:Int)+1-1).toNat 0<a.getD ((p.2:Int)+1-1).toNat 0)=_;rw[show((p.1:Int)+1-1).toNat=p.1 by lia,show((p.2:Int)+1-1).toNat=p.2 by lia]
  rw[this];rfl
 rw[ef]at g1;have lu:(ups a).length<=16777216:=bX (eG _ _) (NN h1 hl);have ec:kM [none,none,some 0] (qD (eFn kH (jG (j5 (f1 nh) (jG (jF 0) (jQ))) (jQ)))) (A9 2 (sP (kO 0) (sP (kO 1) (A6)))) (ug (jP F4 (jP om (jF 2) (jP aSub (jF 0) (eC (.int 1)))) (jP om (jF 2) (jP aSub (jF 1) (eC (.int 1)))))) (uD (jG (jF 0) (jG (jF 1) (jQ)))) [kh a] S=.ok (.ref (S++[O.lst (prs a.length)]).length) ((S++[O.lst (prs a.length)])++[.lst ((ups a).map pA)]):=by
  unfold kM;rw[rL (S1:=S++[O.lst (prs a.length)]) (by dsimp[kF,zE,bools,aL,eq]) hL,R.lJ];show R.lK (mw (mP S.length (prs a.length).length) _ _ _ (prs a.length).length 0 _ _) _=_;rw[g1,R.lg,kE (by rw[aL];exact lu)]
 have k1:qB S ((S++[O.lst (prs a.length)])++[.lst ((ups a).map pA)]):=Kp.refl.lay.lay;have l1:jH ((S++[O.lst (prs a.length)])++[.lst ((ups a).map pA)]) (S++[O.lst (prs a.length)]).length=some ((ups a).map pA):=j4;obtain⟨R,S2,e2,g2,k2,b2⟩:=LG (a:=a) l1 (λp hp=>EI (cB.mp hp).1) h1 hl lu;refine⟨R,S2,?_,g2,k1.trans k2,bX k1.len b2⟩;unfold mG p9 p6;dsimp[kF,zE,bools,nI,Nat.reduceAdd,Nat.reduceSub,ec,e2]
end K51
namespace K51
open PySem L2 Am
open Bl
def u7{xs ys:ae}(h:xs.length=ys.length):lZ [.tup (xs.map .int),.tup (ys.map .int)] S=.ok .non S:=by
 unfold lZ rE rH;dsimp[kF,bools,nI,Nat.reduceAdd,Nat.reduceSub,aL,h,bW,eU]
def LW{L:Nat}{ms:ae}(hL:jH S L=some (ms.map .int))(hp:∃m∈ms,0<m)(hms:ms.length<=1000):∃j:Nat,kJ [.ref L] S=.ok (.int ((j:Int)+1)) S/\(∃m,ms[j]?=some m/\0<m)/\∀(k:Nat) (m:Int),k<j->ms[k]?=some m->m<=0:=by
 unfold kJ l7 lQ;dsimp[kF,bools,nI,Nat.reduceAdd,Nat.reduceSub];refine qQ (λτ S'=>S'=S/\∃p:Nat,p<ms.length/\τ=[.ref L,.int ((p:Int)+1)]/\∀(k:Nat) (m:Int),k<p->ms[k]?=some m->m<=0)
  (λτ _=>match τ with
   | [_,.int i]=>(ms.length+1)-i.toNat
   | _=>0)
  (λr=>∃j:Nat,RS.end (RS.seq r _)=.ok (.int ((j:Int)+1)) S/\(∃m,ms[j]?=some m/\0<m)/\∀(k:Nat) (m:Int),k<j->ms[k]?=some m->m<=0) ?_ 1000000 _ _ ⟨rfl,0,?_,rfl,λk m hk=>absurd hk (iK _)⟩ ?_
 ·rintro τ S' ⟨rfl,p,hpl,rfl,hall⟩;have ha:nY (ms.map A.int) ((p:Int)+1-1)=some (.int ms[p]):=uT (k:=p) () (aH hpl);unfold nj nq;dsimp[kF,bools,hL,ha];by_cases h0:ms[p]<=0
  ·right;refine⟨S',by rw[bq h0],.inl ⟨_,_,rfl,⟨rfl,p+1,?_,dO (λz=>[A.ref L,A.int z]) (),λk m hk hm=>?_⟩,?_⟩⟩
   ·obtain⟨m,hm,hm0⟩:=hp;obtain⟨k,hk,e⟩:=iF.mp hm;have:¬k<=p:=λhkp=>by
     rcases iU k p with h|h
     ·have:=hall k m h (by rw[aH hk,e])
      lia
     ·have:k=p:=()
      subst this
      lia
    lia
   ·rcases iU k p with h|h
    ·exact hall k m h hm
    ·have:k=p:=()
     subst this;rw[aH hpl]at hm
     cases hm
     exact h0
   ·show ms.length+1-((p:Int)+1+1).toNat<ms.length+1-((p:Int)+1).toNat
    lia
  ·left;refine⟨S',by rw[bh h0],p,by dsimp[kF,bools],⟨ms[p],aH hpl,()⟩,hall⟩
 ·obtain⟨m,hm,_⟩:=hp;exact gQ hm
 ·show ms.length+1-(1:Int).toNat<1000000
  lia
def BU{f:A->A->jL->R A}{d:Int}(hf:∀(m:Int) S,f (.int m) (.int 1) S=.ok (.int (m+d)) S){src:Ic}{L:Nat}{ms:ae}{x:Int}{Post:RS->Prop}(hx0:0<=x)(hx:x<=ms.length)
  (hsrc:src [a0,a1,.ref L,a3,a4] S=.ok (kN 0 x) S) (hL:jH S L=some (ms.map .int)) (fin:∀a4' S',jH S' L=some ((mK x.toNat d ms).map .int)->Kp (·=L) S S'->Post (.nx [a0,a1,.ref L,a3,a4'] S')) :
  Post (rD src (kO 4) (wk (jF 2) (jF 4) (eC (.int 1)) f) [a0,a1,.ref L,a3,a4] S):=by
 refine wR (lo:=0) (hi:=x) hsrc (λi τ S'=>∃a4',τ=[a0,a1,.ref L,a3,a4']/\jH S' L=some ((mK i d ms).map .int)/\Kp (·=L) S S') Post ⟨a4,rfl,hL,Kp.refl⟩ ?_ ?_
 ·rintro i τ S' hi ⟨a4',rfl,hL',hk⟩;left;have hi':i<ms.length:=()
  have e1:((mK i d ms).map A.int)[((0:Int)+(i:Int)).toNat]?=some (.int ms[i]):=by
   rw[show((0:Int)+(i:Int)).toNat=i by lia,aR,sA,aH hi'];simp
  have e2:yM (mK i d ms).length (0+(i:Int))=some i:=vQ () (by rw[vn];exact hi');have lL:=oX hL';dsimp[kF,bools,hL',lC (show(0:Int)<=0+(i:Int)by lia),e1,hf,aL,e2];refine⟨_,_,rfl,_,rfl,?_,hk.set (.inl rfl)⟩;rw[nE lL,<- xg i d ms ms[i] (aH hi'),gS]
 ·rintro τ S' ⟨a4',rfl,hL',hk⟩;exact fin a4' S' (by rw[Int.sub_zero]at hL';exact hL') hk
abbrev OY (xs ys:ae)(i j:Nat):Prop:=cnt (ys.take i) j<cnt (xs.take i) j/\(∀i' j':Nat,i'<i->1<=j'->j'<=xs.length->cnt (xs.take i') j'<=cnt (ys.take i') j')/\∀j':Nat,1<=j'->j'<j->cnt (xs.take i) j'<=cnt (ys.take i) j'
def Rp{xs ys:ae}{n:Nat}(px:xs.Perm (jX 1 ((n:Int)+1)))(py:ys.Perm (jX 1 ((n:Int)+1)))(h1:1<=n)(h2:n<=20):∃S',((zj [.tup (xs.map .int),.tup (ys.map .int)] S=.ok .non S'/\Below xs ys) \/
  ∃i j:Nat,zj [.tup (xs.map .int),.tup (ys.map .int)] S=.ok (.tup [.int i,.int j]) S'/\1<=i/\i<=n/\1<=j/\j<=n/\OY xs ys i j)/\qB S S':=by
 have lx:xs.length=n:=by have:=BR px ();lia
 have ly:ys.length=n:=by have:=BR py ();lia
 unfold zj Ks KY;dsimp[kF,bools,nI,Nat.reduceAdd,Nat.reduceSub,u7 (S:=S) (lx.trans ly.symm),aL,lx];rw[O0 (k:=n) j4 ()];dsimp[kF,bools];have hlen:(S++[O.lst [.int 0]]).length=S.length+1:=by simp
 rw[hlen];refine wR (lo:=0) (hi:=(n:Int)) (S1:=S++[O.lst [.int 0]]++[O.lst (List.replicate n (.int 0))]) ?_
  (λt τ S'=>∃a3 a4,τ=[.tup (xs.map .int),.tup (ys.map .int),.ref (S.length+1),a3,a4]/\jH S' (S.length+1)=some ((qf n xs ys t).map .int)/\qB S S'/\∀i' j':Nat,i'<=t->1<=j'->j'<=n->cnt (xs.take i') j'<=cnt (ys.take i') j')
  (λr=>∃S',((RS.end (RS.seq r _)=.ok .non S'/\Below xs ys)\/∃i j:Nat,RS.end (RS.seq r _)=.ok (.tup [.int i,.int j]) S'/\1<=i/\i<=n/\1<=j/\j<=n/\OY xs ys i j)/\qB S S') ⟨.unb,.unb,rfl,?_,Kp.refl.lay.lay,?_⟩ ?_ ?_
 ·refine oW ?_ (mS () ());dsimp[kF,bools,aL,lx]
 ·rw[N8,List.map_replicate,<- hlen];exact j4
 ·intro i' j' hi _ _;have:i'=0:=()
  subst this;simp[cnt]
 ·rintro t τ S' ht ⟨a3,a4,rfl,hL,hk,hok⟩;have ht':t<n:=()
  have hx:t<xs.length:=()
  have hy:t<ys.length:=()
  have mx:=BQ px (c_ hx);have my:=BQ py (c_ hy);have ax:nY (xs.map A.int) (0+(t:Int))=some (.int xs[t]):=uT (k:=t) () (aH hx);have ay:nY (ys.map A.int) (0+(t:Int))=some (.int ys[t]):=uT (k:=t) () (aH hy);unfold Gk;dsimp[kF,bools];obtain⟨a4',S2,e2,hL2,hk2⟩:=BU (f:=C_) (d:=1) (ms:=qf n xs ys t) (x:=xs[t]) (src:=F8) (a0:=.tup (xs.map .int)) (a1:=.tup (ys.map .int)) (a3:=.int (0+(t:Int))) (a4:=a4) (Post:=λr=>∃a4' S2,r=.nx [.tup (xs.map .int),.tup (ys.map .int),.ref (S.length+1),.int (0+(t:Int)),a4'] S2/\jH S2 (S.length+1)=some ((mK xs[t].toNat 1 (qf n xs ys t)).map .int)/\Kp (·=S.length+1) S' S2) (λ_ _=>rfl) () (by rw[nQ];lia)
   (oW (by dsimp[kF,bools,ax]) (mS () ())) hL (λa4' S2 h1 h2=>⟨a4',S2,rfl,h1,h2⟩)
  obtain⟨a4'',S3,e3,hL3,hk3⟩:=BU (f:=aSub) (d:=-1) (ms:=mK xs[t].toNat 1 (qf n xs ys t)) (x:=ys[t]) (src:=Gx) (a0:=.tup (xs.map .int)) (a1:=.tup (ys.map .int)) (a3:=.int (0+(t:Int))) (a4:=a4') (Post:=λr=>∃a4'' S3,r=.nx [.tup (xs.map .int),.tup (ys.map .int),.ref (S.length+1),.int (0+(t:Int)),a4''] S3/\jH S3 (S.length+1)=some ((mK ys[t].toNat (-1) (mK xs[t].toNat 1 (qf n xs ys t))).map .int)/\Kp (·=S.length+1) S2 S3) (λ_ _=>rfl) () (by rw[vn,nQ];lia)
   (oW (by dsimp[kF,bools,ay]) (mS () ())) hL2 (λa4' S2 h1 h2=>⟨a4',S2,rfl,h1,h2⟩)
  rw[Dl hx hy]at hL3;have hk':qB S S3:=(hk.old hk2 λn hn _=>()).old hk3 λn hn _=>()
  obtain⟨m,em,m1,m2⟩:=Ln hL3 (by intro z;have:=dO List.length z;rw[nQ]at this;simp at this;lia);dsimp[show EN=wk (jF 2) (jF 4) (eC (.int 1)) C_ from rfl,show DT=wk (jF 2) (jF 4) (eC (.int 1)) aSub from rfl,e2,e3,kF,bools,em];by_cases hm:0<m
  ·right;rw[bq hm];obtain⟨j,ej,⟨mj,hj1,hj2⟩,hj3⟩:=LW hL3 ⟨m,m1,hm⟩ (by rw[nQ];lia);dsimp[kF,bools,ej,AJ (show([_,_]:ad).length<=16777216 by simp)];have hjn:j<n:=by
    have:=(aK.mp hj1).1
    rwa [nQ]at this
   refine⟨_,_,rfl,S3,.inr ⟨t+1,j+1,?_,(),(),(),(),?_,?_,?_⟩,hk'⟩
   ·have e5:(0:Int)+(t:Int)+1=((t+1:Nat):Int):=()
    have e6:(j:Int)+1=((j+1:Nat):Int):=()
    rw[e5,e6]
   ·rw[qe hjn]at hj1
    cases hj1
    have:((j+1:Nat):Int)=(j:Int)+1:=()
    rw[this]
    lia
   ·intro i' j' hi' h1' h2';exact hok i' j' () h1' ()
   ·intro j' h1' h2';have:=hj3 (j'-1) _ () (qe ());rw[show(((j'-1:Nat):Int)+1)=(j':Int)by lia]at this
    lia
  ·left;rw[bh hm];dsimp[kF,bools];refine⟨_,_,rfl,_,_,rfl,hL3,hk',λi' j' hi' h1' h2'=>?_⟩;by_cases hi:i'<=t
   ·exact hok i' j' hi h1' h2'
   ·have:i'=t+1:=()
    subst this;have:=m2 _ (aZ (qe (n:=n) (xs:=xs) (ys:=ys) (t:=t+1) (j:=j'-1) ()));rw[show(((j'-1:Nat):Int)+1)=(j':Int)by lia]at this
    lia
 ·rintro τ S' ⟨a3,a4,rfl,hL,hk,hok⟩;refine⟨S',.inl ⟨by dsimp[kF,bools],?_⟩,hk⟩;refine(GO px py).mp λi q hi hq=>?_;have:=hok (i+1) (q+1) () () ();exact this
def BH{xs ys:ae}{n:Nat}(px:xs.Perm (jX 1 ((n:Int)+1)))(py:ys.Perm (jX 1 ((n:Int)+1)))(h1:1<=n)(h2:n<=20):∃(k:Bool) (S':jL),l8 [.tup (xs.map .int),.tup (ys.map .int)] S=.ok (.bl k) S'/\(k=true ↔ Below xs ys)/\qB S S':=by
 obtain⟨S',h|⟨i,j,e,i1,i2,j1,j2,h,_⟩,hk⟩:=Rp (S:=S) px py h1 h2
 ·refine⟨true,S',?_,⟨λ_=>h.2,λ_=>rfl⟩,hk⟩;unfold l8 qm qu;dsimp[kF,bools,nI,Nat.reduceAdd,Nat.reduceSub,h.1]
 ·refine⟨false,S',?_,⟨λz=>absurd z aY,λz=>?_⟩,hk⟩
  ·unfold l8 qm qu;dsimp[kF,bools,nI,Nat.reduceAdd,Nat.reduceSub,e]
  ·have:=z i j
   lia
end K51
namespace K51
open PySem L2 Am
open Bl
open Stp
open Fw (rg)
section
variable {S:jL}
def zV:j8 (S++[.dct xs]) S.length=some xs:=o4 (by simp)
def Ak{o:O}{n:Nat}(h:j8 S n=some xs):j8 (S++[o]) n=some xs:=by
 have h':=lY h;exact o4 (by rw[bC (aK.mp h').1];exact h')
def Aj{n:Nat}(h:j8 S n=some xs):n<S.length:=(aK.mp (lY h)).1
def Ai{n:Nat}(h:n<S.length):j8 (S.set n (.dct ys)) n=some ys:=o4 (bM h)
def xT{n:Nat}(h:n≠m):j8 (S.set n o) m=j8 S m:=by unfold j8;rw[bK h]
def uB{n:Nat}(h:n≠m):jH (S.set n o) m=jH S m:=by unfold jH;rw[bK h]
end
meta abbrev Eb:=List (ae×Bool)
abbrev kb (es:Eb):List (ae×A):=es.map λe=>(e.1,.bl e.2)
theorem AY:∀{es:Eb}{w:ae},(nB (kb es) w).isSome=decide (w∈es.map (·.1))
 | [],w=>rfl
 | e::es,w=>by
  show(nB ((e.1,.bl e.2)::kb es) w).isSome=_;by_cases c:e.1=w
  ·rw[sI c,bq (by rw[<- c];simp)];rfl
  ·rw[sj c,AY,jk];constructor
   ·exact λz=>aQ _ z
   ·intro z
    rcases bP.mp z with z|z
    ·exact absurd z.symm c
    ·exact z
theorem CG:∀{es:Eb}{w:ae}{b:Bool},w∉es.map (·.1)->nB (kb (es++[(w,b)])) w=some (.bl b)
 | [],w,b,_=>sI rfl
 | e::es,w,b,h=>by
  show nB ((e.1,.bl e.2)::kb (es++[(w,b)])) w=_;rw[sj λz=>h (by rw[<- z];simp)];exact CG λz=>h (aQ _ z)
def N4{es:Eb}{w:ae}(h:w∉es.map (·.1)):putD (kb es) w (.bl b)=kb (es++[(w,b)]):=by
 unfold putD;rw[AY,bh h,aM aY];unfold kb;rw[bU];rfl
def oV(w:ae):A.ints (w.map .int)=some w:=ints_map w
def QA{D:Nat}{es:Eb}{w:ae}(h:j8 S D=some (kb es)):Q_ true (kh w) (.ref D) S=.ok (.bl (!decide (w∈es.map (·.1)))) S:=by
 show opt (j8 S D) _=_;rw[h,j3];show opt (A.ints (w.map .int)) _=_;rw[oV,j3,<- AY];rfl
def Vy{D:Nat}{w:ae}{v:A}(h:j8 S D=some (kb es))(hl:nB (kb es) w=some v):G9 (.ref D) (kh w) S=.ok v S:=by
 show opt (j8 S D) _=_;rw[h,j3];show opt (A.ints (w.map .int)) _=_;rw[oV,j3,hl,j3]
def QW{n:Nat}(hn:n<=9){ks:List (ae)}(nd:ks.Nodup)(h:∀k∈ks,k.Perm (rg n)):ks.length<=362880:=by
 have hr:∀k∈ks,Nu.rank k<Nu.sX n/\Nu.Tr n (rg n) (Nu.rank k)=k:=λk hk=>Nu.F2 n (rg n) k (Wd.jY n) (Nu.Jz _ _) (h k hk);have h1:(ks.map Nu.rank).Nodup:=by
  unfold List.Nodup;rw[dG];exact eW (λ{a b} ha hb hab z=>hab (by rw[<- (hr a ha).2,<- (hr b hb).2,z])) nd
 have:=Rd.uC (Nu.sX n) _ h1 λx hx=>by
  obtain⟨k,hk,rfl⟩:=bH.mp hx;exact(hr k hk).1
 rw[aL]at this;exact bX this (bX (Nu.KG hn) ⋯)
abbrev Cl (n:Nat)(z:ae)(es:Eb):Prop:=∀i j,i<j->j<n->z.getD i 0<z.getD j 0->G4 z i j=true->Iv.sw z i j∈es.map (·.1)
structure Lk (n:Nat)(u y:ae)(es:Eb)(ws:List (ae))(v:Option (ae)):Prop where
 nd:(es.map (·.1)).Nodup
 pm:∀e∈es,e.1.Perm (rg n)
 wt:∀w∈ws,(w,true)∈es
 up:∀e∈es,Below u e.1
 fl:∀e∈es,(e.2=true ↔ Below e.1 y)
 st:u∈es.map (·.1)
 cl:∀e∈es,e.2=true->e.1∈ws\/some e.1=v\/Cl n e.1 es
def Lk.few{n:Nat}{es:Eb}{v:Option (ae)}(h:Lk n u y es ws v)(hn:n<=9):es.length<=362880:=by
 have:=QW hn h.nd λk hk=>by
  obtain⟨e,he,rfl⟩:=bH.mp hk;exact h.pm e he
 rwa [aL]at this
def RH{n:Nat}{a:ae}(pa:a.Perm (rg n))(hij:i<j)(hj:j<n)(h:a.getD i 0<a.getD j 0):Below a (Iv.sw a i j):=by
 have la:a.length=n:=by rw[pa.length_eq,Wd.jY]
 unfold Iv.sw;rw[Eu.j7 (show i<a.length by lia),Eu.j7 (show j<a.length by lia)]at h ⊢;exact v_ () () hij h
def Cl.more{n:Nat}{x:ae×Bool}(h:Cl n z es):Cl n z (es++[x]):=λi j a b c d=>by
 rw[bU];exact bS _ (h i j a b c d)
def Lk.more{n:Nat}{x:ae}{es:Eb}{v:Option (ae)}{k:Bool}(h:Lk n u y es ws v)(hx:x∉es.map (·.1))(px:x.Perm (rg n))(ux:Below u x)(hk:k=true ↔ Below x y):Lk n u y (es++[(x,k)]) (if k=true then ws++[x]else ws) v where
 nd:=by
  rw[bU,cQ];refine⟨h.nd,by simp,λa ha b hb zz=>hx ?_⟩;have:b=x:=by simpa using hb
  rw[<- this,<- zz];exact ha
 pm:=λe he=>by
  rcases bu.mp he with z|z
  ·exact h.pm e z
  ·have:e=(x,k):=by simpa using z
   rw[this];exact px
 wt:=λw hw=>by
  cases k with
  | false=>exact bS _ (h.wt w hw)
  | true=>
   rcases bu.mp hw with z|z
   ·exact bS _ (h.wt w z)
   ·have:w=x:=by simpa using z
    rw[this];exact a_ _ (by simp)
 up:=λe he=>by
  rcases bu.mp he with z|z
  ·exact h.up e z
  ·have:e=(x,k):=by simpa using z
   rw[this];exact ux
 fl:=λe he=>by
  rcases bu.mp he with z|z
  ·exact h.fl e z
  ·have:e=(x,k):=by simpa using z
   rw[this];exact hk
 st:=by rw[bU];exact bS _ h.st
 cl:=λe he h2=>by
  rcases bu.mp he with z|z
  ·rcases h.cl e z h2 with q|q|q
   ·left
    cases k with
    | false=>exact q
    | true=>exact bS _ q
   ·exact .inr (.inl q)
   ·exact .inr (.inr q.more)
  ·have:e=(x,k):=by simpa using z
   subst this;have h2:k=true:=h2;subst h2;left;exact a_ _ (by simp)
def Eg{n:Nat}{a:ae}(la:a.length=n){l:ae}:l∈mZ (stp a (ups a)) ↔ ∃i j,i<j/\j<n/\a.getD i 0<a.getD j 0/\G4 a i j=true/\l=Iv.sw a i j:=by
 rw[(t7 _).mem_iff];unfold stp ups;rw[bH];constructor
 ·rintro⟨p,hp,rfl⟩;obtain⟨h1,h2⟩:=cB.mp hp;obtain⟨h3,h4⟩:=cB.mp h1;have:=EI h3;exact⟨p.1,p.2,this.1,(),dJ h4,h2,rfl⟩
 ·rintro⟨i,j,h1,h2,h3,h4,rfl⟩;exact⟨(i,j),cB.mpr ⟨cB.mpr ⟨MM h1 (),bq h3⟩,h4⟩,rfl⟩
def looked{S0:jL}{n D:Nat}{es:Eb}{ws:List (ae)}{L:List (ae)}{v oth:ae}(hn:n<=9)(h1:1<=n)(po:oth.Perm (rg n))(hD:j8 S D=some (kb es))(hW:jH S W=some (ws.map kh))(hM:jH S M=some (L.map kh))(hL:∀l∈L,l.Perm (rg n)/\Below u l)(lk:Lk n u oth es ws (some v))
  (hDS:S0.length<=D) (hWS:S0.length<=W) (hDW:D≠W) (hDM:D≠M) (hWM:W≠M) (hwe:ws.length<=es.length) (kp:qB S0 S) {a0 a4 a5:A} (hsrc:o_ [a0,kh oth,.ref D,.ref W,a4,a5] T=.ok (mP M (L.map kh).length) S) :
  ∃(es':Eb) (ws':List (ae)) (b5:A) (S':jL),rD o_ (kO 5) rX [a0,kh oth,.ref D,.ref W,a4,a5] T=.nx [a0,kh oth,.ref D,.ref W,a4,b5] S'/\j8 S' D=some (kb es')/\jH S' W=some (ws'.map kh)/\Lk n u oth es' ws' (some v)/\(∀l∈L,l∈es'.map (·.1))/\es.length<=es'.length/\ws'.length+es.length<=ws.length+es'.length/\qB S0 S':=by
 refine wD (n:=M) (xs:=L.map kh) (S1:=S) hsrc
  (λi τ S'=>∃(es':Eb) (ws':List (ae)) (b5:A),τ=[a0,kh oth,.ref D,.ref W,a4,b5]/\j8 S' D=some (kb es')/\jH S' W=some (ws'.map kh)/\jH S' M=some (L.map kh)/\Lk n u oth es' ws' (some v)/\(∀l∈L.take i,l∈es'.map (·.1))/\es.length<=es'.length/\ws'.length+es.length<=ws.length+es'.length/\qB S0 S')
  (λr=>∃(es':Eb) (ws':List (ae)) (b5:A) (S':jL),r=.nx [a0,kh oth,.ref D,.ref W,a4,b5] S'/\j8 S' D=some (kb es')/\jH S' W=some (ws'.map kh)/\Lk n u oth es' ws' (some v)/\(∀l∈L,l∈es'.map (·.1))/\es.length<=es'.length/\ws'.length+es.length<=ws.length+es'.length/\qB S0 S')
  ⟨es,ws,_,rfl,hD,hW,hM,lk,λl hl=>absurd hl (by simp),aS _,aS _,kp⟩ (λi τ S' hh=>by obtain⟨_,_,_,_,_,_,z,_⟩:=hh;exact z) ?_ ?_
 ·rintro i z τ S' hz ⟨es',ws',b5,rfl,hD',hW',hM',lk',hin,hle,hle2,kp'⟩;rw[aR]at hz;obtain⟨x,hx,rfl⟩:=bA.mp hz;obtain⟨px,ux⟩:=hL x (aZ hx);have ht:L.take (i+1)=L.take i++[x]:=by
   obtain⟨hi,e⟩:=aK.mp hx;rw[cG hi,e]
  refine⟨[a0,kh oth,.ref D,.ref W,a4,kh x],S',rfl,.inl ?_⟩;unfold rX;by_cases c:x∈es'.map (·.1)
  ·dsimp[kF,zE,bools,QA hD',bq c,eU];refine⟨_,_,rfl,es',ws',_,rfl,hD',hW',hM',lk',λl hl=>?_,hle,hle2,kp'⟩;rw[ht]at hl
   rcases bu.mp hl with z|z
   ·exact hin l z
   ·have:l=x:=by simpa using z
    rw[this];exact c
  ·obtain⟨k,U,e1,hk,kU⟩:=BH (S:=S') (n:=n) px po h1 ();have hDU:=kU.dct _ _ (λz=>z) hD';have hWU:=kU.lst _ _ (λz=>z) hW';have hMU:=kU.lst _ _ (λz=>z) hM';have fw:=lk'.few hn;have lkb:(kb es').length=es'.length:=aL ..;have sd:Cj (.ref D) (kh x) (.bl k) U=.ok Unit.unit (U.set D (.dct (kb (es'++[(x,k)])))):=by
    show opt (j8 U D) _=_;rw[hDU,j3];show opt (A.ints (x.map .int)) _=_;rw[oV,j3,M3 (by rw[lkb,c7];lia),N4 c]
   have gw:GQ (jF 2) (jF 5) (.bl k) [a0,kh oth,.ref D,.ref W,a4,kh x] U=.ok [a0,kh oth,.ref D,.ref W,a4,kh x] (U.set D (.dct (kb (es'++[(x,k)])))):=by
    show(Cj (.ref D) (kh x) (.bl k) U).bind _=_;rw[sd];rfl
   have lD:=Aj hDU;have hD2:j8 (U.set D (.dct (kb (es'++[(x,k)])))) D=some (kb (es'++[(x,k)])):=Ai lD;have hW2:jH (U.set D (.dct (kb (es'++[(x,k)])))) W=some (ws'.map kh):=by rw[uB hDW];exact hWU
   have hM2:jH (U.set D (.dct (kb (es'++[(x,k)])))) M=some (L.map kh):=by rw[uB hDM];exact hMU
   have ix:=Vy hD2 (CG c);have k2:qB S0 (U.set D (.dct (kb (es'++[(x,k)])))):=(kp'.trans kU).MJ (.inr hDS);have lk2:=lk'.more c px ux hk;have le2:(es'++[(x,k)]).length=es'.length+1:=by simp
   have hin2:∀l∈L.take (i+1),l∈(es'++[(x,k)]).map (·.1):=λl hl=>by
    rw[ht]at hl;rw[bU]
    rcases bu.mp hl with z|z
    ·exact bS _ (hin l z)
    ·have:l=x:=by simpa using z
     rw[this];exact a_ _ (by simp)
   have e1:l8 [kh x,kh oth] S'=.ok (.bl k) U:=e1
   cases k with
   | false=>
    dsimp[kF,zE,bools,QA hD',bh c,fS,e1,gw,ix];exact⟨_,_,rfl,_,ws',_,rfl,hD2,hW2,hM2,lk2,hin2,(),(),k2⟩
   | true=>
    have lW:=oX hW2;have ew:ws'.map kh++[kh x]=(ws'++[x]).map kh:=by rw[bU];rfl
    dsimp[kF,zE,bools,QA hD',bh c,fS,e1,gw,ix,hW2,FO (show(ws'.map kh).length<16777216 by rw[aL];lia),ew];refine⟨_,_,rfl,_,ws'++[x],_,rfl,?_,nE lW,?_,lk2,hin2,(),?_,k2.set (.inr hWS)⟩
    ·rw[xT hDW.symm];exact hD2
    ·rw[nR hWM];exact hM2
    ·rw[aU,le2];show _+1+_<=_;lia
 ·rintro τ S' ⟨es',ws',b5,rfl,hD',hW',hM',lk',hin,hle,hle2,kp'⟩;rw[aL,f7]at hin;exact⟨es',ws',b5,S',rfl,hD',hW',lk',hin,hle,hle2,kp'⟩
end K51
namespace K51
open PySem L2 Am
open Bl
open Stp
open Fw (rg)
def Pa{n:Nat}{xs:ad}(h:jH S n=some xs):A.Q9 (.ref n) S=some (!xs.isEmpty):=by
 show(jH S n).map _=_;rw[h];rfl
def mW{n:Nat}{x:ae}(px:x.Perm (rg n)):x.length=n:=by rw[px.length_eq,Wd.jY]
def Hy{n:Nat}{x:ae}(px:x.Perm (rg n))(h6:n<=6):mD [kh x,kh y,.int 6,.int 9,.int 4] S=.ok .non S:=by
 have lx:=mW px;unfold mD pM pH;dsimp[kF,bools,nI,Nat.reduceAdd,Nat.reduceSub,aL,lx,bq (show(n:Int)<=6 by lia)]
def N_{S:jL}{n D:Nat}{es:Eb}{v:Option (ae)}(hD:j8 S D=some (kb es))(lk:Lk n u y es ws v)(h1:1<=n)(hn:n<=9) :
  ∃(V:Nat) (S':jL),RS.end (RS.seq (.nx [a0,a1,.ref D,a3,a4,a5] S) (lH (j5 (f1 uU) (jG (kM [none,none] (GH (jF 2)) (A9 2 (sP (kO 0) (sP (kO 1) (A6)))) (r8 (jF 1)) (jF 0)) (jQ)))))=.ok (.ref V) S'/\jH S' V=some ((mZ ((es.filter (·.2)).map (·.1))).map kh)/\S'=S.set D (.ins "" [])++[.lst ((es.filter (·.2)).map λe=>kh e.1)]++[.lst ((mZ ((es.filter (·.2)).map (·.1))).map kh)]/\S.length<=V:=by
 have hs:GH (jF 2) [a0,a1,.ref D,a3,a4,a5] S=.ok (nK ((kb es).map Ho)) (S.set D (.ins "" [])):=by
  show opt (j8 S D) _=_;rw[hD,j3]
 have lkb:((kb es).map Ho).length=es.length:=by unfold kb;rw[aL,aL]
 have fw:=lk.few hn;obtain⟨T,g1,g2⟩:=pq (s:=nK ((kb es).map Ho)) (g:=A9 2 (sP (kO 0) (sP (kO 1) (A6)))) (t:=r8 (jF 1)) (e:=jF 0)
  (P:=λS1=>S1=S.set D (.ins "" [])) (T:=λτ=>∃y z,τ=[y,z]) (λi=>Ho ((es.getD i ([],false)).1,.bl (es.getD i ([],false)).2)) (λi=>(es.getD i ([],false)).2) (λi=>kh (es.getD i ([],false)).1)
  (λi S1 hi _=>by
   have hi:i<((kb es).map Ho).length:=hi;rw[lkb]at hi;show((kb es).map Ho)[i]?=_;unfold kb;rw[bJ,aR,aI,aH hi];rfl)
  (λS1 _=>rfl)
  (λi τ S1 hi ⟨y,z,hy⟩ k=>by
   subst hy k;refine⟨[kh (es.getD i ([],false)).1,.bl (es.getD i ([],false)).2],S.set D (.ins "" []),S.set D (.ins "" []),?_,by dsimp[kF,bools],⟨_,_,rfl⟩,λ_=>rfl,λ_=>⟨_,by dsimp[kF,bools],rfl⟩⟩;unfold Ho;dsimp[kF,bools,lC (show([_,_]:ad).length=2 from rfl)])
  es.length 0 (nN [none,none] [a0,a1,.ref D,a3,a4,a5]) (S.set D (.ins "" [])) (by show es.length+0=((kb es).map Ho).length;rw[lkb];rfl) ⟨_,_,rfl⟩ rfl
 subst g2;have ef:=CP es (λe=>e.2) (λe=>kh e.1) ([],false);rw[cE]at ef;rw[ef]at g1;obtain⟨fs,hfs⟩:∃fs:List (ae),fs=(es.filter (·.2)).map (·.1):=⟨_,rfl⟩;have efs:((es.filter (·.2)).map λe=>kh e.1)=fs.map kh:=by rw[hfs,bJ];rfl
 have hne:∀l∈fs,l≠[]:=λl hl=>by
  rw[hfs]at hl;obtain⟨e,he,rfl⟩:=bH.mp hl;have:=mW (lk.pm e (cB.mp he).1);intro z;rw[z]at this;simp at this
  lia
 have ec:kM [none,none] (GH (jF 2)) (A9 2 (sP (kO 0) (sP (kO 1) (A6)))) (r8 (jF 1)) (jF 0) [a0,a1,.ref D,a3,a4,a5] S=.ok (.ref (S.set D (.ins "" [])).length) (S.set D (.ins "" [])++[.lst (fs.map kh)]):=by
  unfold kM;rw[hs,R.lJ];show R.lK (mw (nK ((kb es).map Ho)) _ _ _ ((kb es).map Ho).length 0 _ _) _=_;rw[lkb,g1,R.lg,kE (by rw[aL];exact bX (eG _ _) ()),efs]
 have so:=Gu (S:=S.set D (.ins "" [])++[.lst (fs.map kh)]) (n:=(S.set D (.ins "" [])).length) j4 hne;dsimp[kF,bools,ec,so];rw[hfs]at so ⊢;refine⟨_,_,rfl,j4,by rw[efs,hfs],?_⟩;rw[aU,bN];lia
def DA{S:jL}{n:Nat}{x y:ae}(px:x.Perm (rg n))(py:y.Perm (rg n))(h1:1<=n)(h6:n<=6)(q:ae->Bool)(hq:∀z,z.Perm (rg n)->(q z=true ↔ Below x z/\Below z y)):∃(V:Nat) (S':jL),oN [kh x,kh y] S=.ok (.ref V) S'/\jH S' V=some (((Eu.inj n n).filter q).map kh)/\qB S S'/\S.length<=V:=by
 have hn:n<=9:=()
 have h2:n<=20:=()
 have lx:=mW px;have ly:=mW py;have ep:=u7 (S:=S) (xs:=x) (ys:=y) ();have e1:=Hy (S:=S) (y:=y) px h6;obtain⟨k,S2,e2,hk,k2⟩:=BH (S:=S) (n:=n) px py h1 h2;have k12:=k2
 cases k with
 | false=>
  unfold oN sF sq;dsimp[kF,zE,bools,nI,Nat.reduceAdd,Nat.reduceSub,ep,e1,e2,fS];have e0:(Eu.inj n n).filter q=[]:=List.filter_eq_nil_iff.mpr λz hz hqz=>by
   obtain⟨z1,z2⟩:=(hq z (Eu.Ac.mp hz)).mp hqz;exact absurd (hk.mpr (z1.trans z2)) aY
  rw[e0];exact⟨_,_,rfl,j4,k12.lay,k12.len⟩
 | true=>
  have ed:xW (jF 0) (eC (.bl true)) [kh x,kh y,.unb,.unb,.unb,.unb] S2=.ok (.ref S2.length) (S2++[.dct (kb [(x,true)])]):=by
   show opt (A.ints (x.map .int)) _=_;rw[oV,j3];rfl
  have l1:(S2++[O.dct (kb [(x,true)])]).length=S2.length+1:=by simp
  have key:=qQ (t:=rY) (c:=rW)
   (λτ T=>∃(a4 a5:A) (es:Eb) (ws:List (ae)),τ=[kh x,kh y,.ref S2.length,.ref (S2.length+1),a4,a5]/\j8 T S2.length=some (kb es)/\jH T (S2.length+1)=some (ws.map kh)/\Lk n x y es ws none/\ws.length<=es.length/\qB S2 T)
   (λ_ T=>2 * (362880-((j8 T S2.length).getD []).length)+((jH T (S2.length+1)).getD []).length)
   (λr=>∃(V:Nat) (S':jL),RS.end (RS.seq r (lH (j5 (f1 uU) (jG (kM [none,none] (GH (jF 2)) (A9 2 (sP (kO 0) (sP (kO 1) (A6)))) (r8 (jF 1)) (jF 0)) (jQ)))))=.ok (.ref V) S'/\jH S' V=some (((Eu.inj n n).filter q).map kh)/\qB S S'/\S.length<=V) ?_ 1000000
  ·unfold oN sF sq;dsimp[kF,zE,bools,nI,Nat.reduceAdd,Nat.reduceSub,ep,e1,e2,eU,ed,l1];have hd0:j8 (S2++[O.dct (kb [(x,true)])]++[O.lst [kh x]]) S2.length=some (kb [(x,true)]):=Ak zV;have hw0:jH (S2++[O.dct (kb [(x,true)])]++[O.lst [kh x]]) (S2.length+1)=some [kh x]:=by rw[<- l1];exact j4
   refine key _ _ ⟨_,_,[(x,true)],[x],rfl,hd0,hw0,⟨by simp,λe he=>?_,λw hw=>?_,λe he=>?_,λe he=>?_,by simp,λe he _=>?_⟩,aS _,Kp.refl.lay.lay⟩ ?_
   ·have:e=(x,true):=by simpa using he
    rw[this];exact px
   ·have:w=x:=by simpa using hw
    rw[this];simp
   ·have:e=(x,true):=by simpa using he
    rw[this];exact Below.refl _
   ·have:e=(x,true):=by simpa using he
    rw[this];exact hk
   ·have:e=(x,true):=by simpa using he
    rw[this];left;simp
   ·rw[hd0,hw0];show 2 * (362880-1)+1<1000000;decide
  ·rintro τ T ⟨a4,a5,es,ws,rfl,hD,hW,lk,hwe,kp⟩;have fw:=lk.few hn;unfold rY;have lk2:(kb es).length=es.length:=aL ..
   rcases h_ ws with c|⟨vs,v,c⟩
   ·left;subst c;obtain⟨V,T2,e3,h3,hT2,hV⟩:=N_ (a0:=kh x) (a1:=kh y) (a3:=.ref (S2.length+1)) (a4:=a4) (a5:=a5) hD lk h1 hn;have dn:Eu.Done n x y es:=⟨lk.nd,lk.pm,lk.up,lk.fl,lk.st,λe he h2=>by
     rcases lk.cl e he h2 with z|z|z
     ·cases z
     ·cases z
     ·exact z⟩
    rw[dn.told q hq]at h3;have l2:=k12.len;have lT:=kp.len;refine⟨T,by dsimp[kF,bools,Pa hW];rfl,V,T2,e3,h3,?_,()⟩;rw[hT2];exact k12.trans (((kp.MJ (.inr (aS _))).lay).lay)
   ·right;rw[ie]at c;subst c;have tr:A.Q9 (.ref (S2.length+1)) T=some true:=by
     rw[Pa hW]
     cases vs<;>rfl
    refine⟨T,by dsimp[kF,bools,tr],.inl ?_⟩;have ev:=lk.wt v (by simp);have pv:v.Perm (rg n):=lk.pm _ ev;have uv:Below x v:=lk.up _ ev;have lv:=mW pv;have pop:Qv (.ref (S2.length+1)) [] T=.ok (kh v) (T.set (S2.length+1) (.lst (vs.map kh))):=by
     show opt (jH T (S2.length+1)) _=_;rw[hW,j3,bU];show opt ((vs.map kh++[kh v])[(vs.map kh++[kh v]).length-1]?) _=_;rw[aU,show(vs.map kh).length+[kh v].length-1=(vs.map kh).length by simp,eF (aS _),fZ];show R.ok (kh v) (T.set (S2.length+1) (.lst (vs.map kh++[kh v]).dropLast))=_;rw[List.dropLast_concat]
    have lW:=oX hW;have hD1:j8 (T.set (S2.length+1) (.lst (vs.map kh))) S2.length=some (kb es):=by rw[xT ()];exact hD
    obtain⟨M,U,e4,hM,k4,sM⟩:=JU (S:=T.set (S2.length+1) (.lst (vs.map kh))) (a:=v) () ();have hDU:=k4.dct _ _ (λz=>z) hD1;have hWU:=k4.lst _ _ (λz=>z) (nE (ys:=vs.map kh) lW);rw[bN]at sM;have hsrc:o_ [kh x,kh y,.ref S2.length,.ref (S2.length+1),kh v,a5] (T.set (S2.length+1) (.lst (vs.map kh)))=.ok (mP M ((mZ (stp v (ups v))).map kh).length) U:=
     rL (by dsimp[kF,bools,e4]) hM
    have kU:qB S2 U:=(kp.set (.inr ())).trans k4;rw[aU]at hwe;have hwe':vs.length+1<=es.length:=hwe;have lk0:Lk n x y es vs (some v):=⟨lk.nd,lk.pm,λw hw=>lk.wt w (bS _ hw),lk.up,lk.fl,lk.st,λe he h2=>by
     rcases lk.cl e he h2 with z|z|z
     ·rcases bu.mp z with z|z
      ·exact .inl z
      ·have:e.1=v:=by simpa using z
       rw[this];exact .inr (.inl rfl)
     ·cases z
     ·exact .inr (.inr z)⟩
    obtain⟨es',ws',b5,S',e5,hD',hW',lk',hin,hle,hle2,kp'⟩:=looked (S0:=S2) hn h1 py hDU hWU hM (λl hl=>by
     obtain⟨i,j,c1,c2,c3,c4,rfl⟩:=(Eg lv).mp hl;exact⟨(Stp.Np c1 ()).trans pv,uv.trans (RH pv c1 c2 c3)⟩) lk0 (aS _) () () () () () kU hsrc
    have lkn:Lk n x y es' ws' none:=⟨lk'.nd,lk'.pm,lk'.wt,lk'.up,lk'.fl,lk'.st,λe he h2=>by
     rcases lk'.cl e he h2 with z|z|z
     ·exact .inl z
     ·have z:e.1=v:=aW z;right;right;intro i j c1 c2 c3 c4;rw[z]at c3 c4 ⊢;exact hin _ ((Eg lv).mpr ⟨i,j,c1,c2,c3,c4,rfl⟩)
     ·exact .inr (.inr z)⟩
    unfold rW;dsimp[kF,zE,bools,hW,pop,e5];refine⟨_,_,rfl,⟨_,_,es',ws',rfl,hD',hW',lkn,(),kp'⟩,?_⟩;have fw':=lk'.few hn;have lk3:(kb es').length=es'.length:=aL ..;dsimp[hD',hW',hD,hW,fm,aL,aU,lk2,lk3];show 2 * (362880-es'.length)+ws'.length<2 * (362880-es.length)+(vs.length+1)
    lia
end K51
namespace K51
open PySem L2 Am
def VY(xs:ad)(j:Nat)(h:j<=xs.length):uY xs none (some (j:Int))=xs.take j:=by
 unfold uY;rw[HT.qt,HT.Bt,i6,jz (),jo]
def Xq{us:ae}{t:Nat}(h:t<us.length):HD (.tup (us.map .int)) none (some (t:Int)) S=.ok (.tup ((us.take t).map .int)) S:=by
 have hg:¬(HT.mC (us.map A.int).length 0 none=0/\HT.mC (us.map A.int).length (us.map A.int).length (some (t:Int))=(us.map A.int).length):=by
  rw[HT.qt,aL]
  lia
 have hs:HD (.tup (us.map .int)) none (some (t:Int)) S=.ok (.tup (uY (us.map .int) none (some (t:Int)))) S:=lC hg;rw[hs,VY _ t (by rw[aL];lia),map_take]
def Xi{us:ae}{t:Nat}(h0:1<=t)(h:t<=us.length):HD (.tup (us.map .int)) (some (t:Int)) none S=.ok (.tup ((us.drop t).map .int)) S:=by
 have hg:¬(HT.mC (us.map A.int).length 0 (some (t:Int))=0/\HT.mC (us.map A.int).length (us.map A.int).length none=(us.map A.int).length):=by
  rw[HT.qt,aL]
  lia
 have hs:HD (.tup (us.map .int)) (some (t:Int)) none S=.ok (.tup (uY (us.map .int) (some (t:Int)) none)) S:=lC hg;rw[hs];congr 2;unfold uY;rw[HT.qt,HT.Bt,aL,jz (),cF (by simp),map_drop]
def QT{xs:ae}{k:Nat}(h0:1<=k)(h:k<xs.length):xs.take (k-1)++[xs.getD k 0,xs.getD (k-1) 0]++xs.drop (k+1)=Wd.ex xs k:=by
 apply bR;intro p;rw[Wd.nF h0 h,bO];have e1:xs[k]?=some (xs.getD k 0):=by rw[aI,aH h];rfl
 have e2:xs[k-1]?=some (xs.getD (k-1) 0):=by rw[aI,aH ()];rfl
 by_cases c1:p<k-1
 ·rw[bC (by rw[bB];lia),dm c1,aM (),aM ()]
 ·rw[eF (by rw[bB];lia),bB,jz ()];by_cases c2:p=k-1
  ·rw[aM (),aN c2,e1,show p-(k-1)=0 by lia];rfl
  ·by_cases c3:p=k
   ·rw[aN c3,e2,show p-(k-1)=1 by lia];rfl
   ·rw[aM c3,aM c2,show p-(k-1)=(p-(k+1))+2 by lia];show(xs.drop (k+1))[p-(k+1)]?=_;rw[fG,show k+1+(p-(k+1))=p by lia]
open Fw (rg)
open Wd (ex)
def MA{xs ys:ae}(h:xs.length+ys.length<=16777216):l_ (.tup (xs.map .int)) (.tup (ys.map .int)) S=.ok (.tup ((xs++ys).map .int)) S:=by
 rw[bU];exact M3 (by rw[aL,aL];exact h)
def Me{xs:ae}{k:Nat}(k1:1<=k)(k2:k<xs.length)(hl:xs.length<=1000):kC [kh xs,.int k] S=.ok (kh (ex xs k)) S:=by
 have s1:HD (.tup (xs.map .int)) none (some ((k:Int)-1)) S=.ok (.tup ((xs.take (k-1)).map .int)) S:=by
  rw[show(k:Int)-1=((k-1:Nat):Int)by lia];exact Xq ()
 have s2:HD (.tup (xs.map .int)) (some ((k:Int)+1)) none S=.ok (.tup ((xs.drop (k+1)).map .int)) S:=by
  rw[show(k:Int)+1=((k+1:Nat):Int)by lia];exact Xi () ()
 have x1:nY (xs.map A.int) (k:Int)=some (.int (xs.getD k 0)):=HP rfl ();have x2:nY (xs.map A.int) ((k:Int)-1)=some (.int (xs.getD (k-1) 0)):=HP (k:=k-1) () ();have d1:l_ (.tup ((xs.take (k-1)).map .int)) (.tup [.int (xs.getD k 0),.int (xs.getD (k-1) 0)]) S=.ok (.tup ((xs.take (k-1)++[xs.getD k 0,xs.getD (k-1) 0]).map .int)) S:=
  MA (ys:=[xs.getD k 0,xs.getD (k-1) 0]) (by rw[bB];show _+2<=_;lia)
 have d2:l_ (.tup ((xs.take (k-1)++[xs.getD k 0,xs.getD (k-1) 0]).map .int)) (.tup ((xs.drop (k+1)).map .int)) S=.ok (.tup ((ex xs k).map .int)) S:=by
  rw[MA (by rw[aU,bB,cN];show _+2+_<=_;lia),QT k1 k2]
 unfold kC n5 nZ;dsimp[kF,zE,bools,nI,Nat.reduceAdd,Nat.reduceSub,s1,x1,x2,M3 (show 2<=sizeLine by rw[c7];decide),d1,s2,d2]
theorem Ej{a:ae}{x:Int}:∀(i:Nat),i<=a.length->((jX 0 (i:Int)).filter λj=>decide (a.getD j.toNat 0>x)).length=(a.take i).countP λy=>decide (x<y)
 | 0,_=>rfl
 | i+1,h=>by
  have e:jX 0 ((i+1:Nat):Int)=jX 0 (i:Int)++[(i:Int)]:=by
   have:=JZ 0 i;rw[jt,jt]at this;exact this
  rw[e,i9,aU,Ej i (),Bl.take_snoc (show i<a.length by lia),i8];congr 1;rw[iy,bT,cC,aI,aH (show i<a.length by lia)];show(if decide (x<a[i])=true then[(i:Int)]else[]).length=0+_;split<;>rfl
def NV{a:ae}(hl:a.length<=20):∃S',mX [kh a] S=.ok (.int (Iv.inv a:Nat)) S'/\qB S S':=by
 unfold mX ue tX;dsimp[kF,bools,nI,Nat.reduceAdd,Nat.reduceSub];refine wR (lo:=0) (hi:=(a.length:Int)) (S1:=S) (show uS _ _=_ from oW (by dsimp[kF,bools,aL]) (mS () ()))
  (λi τ S1=>(∃a2,τ=[kh a,.int (Iv.inv (a.take i):Nat),a2])/\qB S S1)
  (λr=>∃S',RS.end (RS.seq r _)=.ok (.int (Iv.inv a:Nat)) S'/\qB S S') ⟨⟨_,rfl⟩,Kp.refl⟩ ?_ ?_
 ·rintro i τ S1 hi ⟨⟨a2,rfl⟩,kp⟩;left;have hi':i<a.length:=()
  have ec:=xK (lo:=0) (hi:=(i:Int)) (cap:=[some 0,some 2]) (src:=oz (jF 2)) (t:=ug (jP Cv (jP om (jF 1) (jF 0)) (jP om (jF 1) (jF 2)))) (e:=jF 0) (τ:=[kh a,.int (Iv.inv (a.take i):Nat),.int (i:Int)]) (S:=S1) (S1:=S1)
   (oW (by dsimp[kF,bools]) (mS () ()))
   (λj=>decide (a.getD j.toNat 0>a.getD i 0)) (λj=>.int j) (λj h1 h2=>by
    have x1:nY (a.map A.int) j=some (.int (a.getD j.toNat 0)):=HP () ();have x2:nY (a.map A.int) (i:Int)=some (.int (a.getD i 0)):=HP rfl hi';dsimp[kF,bools,x1,x2]) (λj _ _ _=>by dsimp[kF,bools]) ()
  have e2:Iv.inv (a.take (i+1))=Iv.inv (a.take i)+(a.take i).countP λy=>decide (a.getD i 0<y):=by
   rw[Bl.take_snoc hi',Eu.Ls,aI,aH hi'];rfl
  unfold ve;rw[jt];dsimp[kF,bools,ec,aL,Ej i (jm hi'),j4];exact⟨_,_,rfl,⟨.int (i:Int),by rw[e2];rfl⟩,kp.lay⟩
 ·rintro τ S1 ⟨⟨a2,rfl⟩,kp⟩;refine⟨S1,?_,kp⟩;rw[show((a.length:Int)-0).toNat=a.length by lia,f7];dsimp[kF,bools]
def HV{i:Int}:m7 [.int i] S=.ok (.bl true) S:=by
 unfold m7 rG rf;dsimp[kF,bools,nI,Nat.reduceAdd,Nat.reduceSub,show Dr .int "int" = some true from rfl,show Dr .int "bool" = some false from rfl,fS]
def Lg{n:Nat}{xs:ae}(hp:xs.Perm (rg n))(hn:n<=20):∃S',oU [kh xs] S=.ok (kh (He.bk xs)) S'/\qB S S':=by
 have hl:=mW hp;have hin:∀v:Int,1<=v->v<(n:Int)+1->v∈xs:=λv h1 h2=>hp.mem_iff.mpr (kG.mpr ⟨h1,h2⟩);have hs:oA (eC (.int 1)) (jP l_ (j5 (f1 nh) (jG (jF 0) (jQ))) (eC (.int 1))) [.tup (xs.map .int)] S=.ok (kN 1 ((n:Int)+1)) S:=
  uF (S1:=S) (by dsimp[kF,bools]) (by dsimp[kF,bools,aL,hl]) (mS () ()) (mS () ())
 have hfl:(xs.map A.int).all A.flat=true:=by rw[all_map];exact ir.mpr λ_ _=>rfl
 have he:∀v:Int,1<=v->v<(n:Int)+1->true=true->jP l_ (NK (jF 1) (jG (jF 0) (jQ))) (eC (.int 1)) (.int v::nN [some 0] [.tup (xs.map .int)]) S=.ok (A.int (((xs.idxOf v:Nat):Int)+1)) S:=λv h1 h2 _=>by
  have e:xs.findIdx? (· == v)=some (xs.idxOf v):=by
   rw[gG];refine⟨List.idxOf_lt_length_iff.mpr (hin v h1 h2),by simp,λj hj=>?_⟩;have:=List.not_of_lt_findIdx (p:=(· == v)) (xs:=xs) hj;simpa using this
  have e2:(xs.map A.int).findIdx? (λz=>Uk z (.int v))=some (xs.idxOf v):=by
   rw[List.findIdx?_map];exact e
  have e3:A.seq S (.tup (xs.map .int))=some (xs.map .int):=rfl;unfold jP NK Rq;dsimp[kF,bools,e3,e2,lC (show A.flat (.int v)=true/\(xs.map A.int).all A.flat=true from⟨rfl,hfl⟩)]
 have ec:=xK (cap:=[some 0]) (t:=sU) hs (λ_=>true) (λv=>A.int (((xs.idxOf v:Nat):Int)+1)) (λ_ _ _=>rfl) he ();rw[fh.mpr (λ_ _=>rfl)]at ec;have eb:((jX 1 ((n:Int)+1)).map λv=>A.int (((xs.idxOf v:Nat):Int)+1))=(He.bk xs).map A.int:=by
  unfold He.bk jX;rw[bJ,bJ,hl,show((n:Int)+1-1).toNat=n by lia];refine cD λi _=>?_;show A.int (((xs.idxOf (1+(i:Int)):Nat):Int)+1)=_;rw[Int.add_comm 1];rfl
 rw[eb]at ec;refine⟨S++[O.lst ((He.bk xs).map A.int)],?_,Kp.refl.lay⟩;have el:jH (S++[O.lst ((He.bk xs).map A.int)]) S.length=some ((He.bk xs).map A.int):=j4;unfold oU tF tN;dsimp[kF,bools,nI,Nat.reduceAdd,Nat.reduceSub,ec,el]
end K51
namespace K51
open PySem L2 Am
open Wd (ex led kj)
open Fw (rg)
abbrev fl (xs:ae)(n:Nat):ae:=(jX 1 (n:Int)).filter λk=>decide (xs.getD (k-1).toNat 0>xs.getD k.toNat 0)
def Iu{xs:ae}{n:Nat}{k:Int}:k∈fl xs n ↔ 1<=k/\k<n/\xs.getD k.toNat 0<xs.getD (k-1).toNat 0:=by
 unfold fl;rw[cB,kG,gA];constructor
 ·exact λh=>⟨h.1.1,h.1.2,h.2⟩
 ·exact λh=>⟨⟨h.1,h.2.1⟩,h.2.2⟩
def downs{S:jL}{n:Nat}{xs:ae}(hlen:xs.length=n)(h2:n<=20):kM [none,some 0] (oA (eC (.int 1)) (j5 (f1 nh) (jG (jF 0) (jQ)))) (kO 0) (ug (jP Cv (jP om (jF 1) (jP aSub (jF 0) (eC (.int 1)))) (jP om (jF 1) (jF 0)))) (jF 0) [kh xs,w1,w2] S=.ok (.ref S.length) (S++[.lst ((fl xs n).map .int)]):=by
 have ec:=xK (lo:=1) (hi:=(n:Int)) (cap:=[some 0]) (src:=oA (eC (.int 1)) (j5 (f1 nh) (jG (jF 0) (jQ)))) (t:=ug (jP Cv (jP om (jF 1) (jP aSub (jF 0) (eC (.int 1)))) (jP om (jF 1) (jF 0)))) (e:=jF 0) (τ:=[kh xs,w1,w2]) (S:=S) (S1:=S)
  (uF (S1:=S) (by dsimp[kF,bools]) (by dsimp[kF,bools,aL,hlen]) (mS () ()) (mS () ()))
  (λk=>decide (xs.getD (k-1).toNat 0>xs.getD k.toNat 0)) (λk=>.int k) (λk h1 h2=>by
   have x1:nY (xs.map A.int) (k-1)=some (.int (xs.getD (k-1).toNat 0)):=SX () ();have x2:nY (xs.map A.int) k=some (.int (xs.getD k.toNat 0)):=SX () ();dsimp[kF,bools,x1,x2]) (λk _ _ _=>by dsimp[kF,bools]) ()
 exact ec
def B0{x:A}:nY (xs++[x]) (-1)=some x:=by
 have e:yM (xs++[x]).length (-1)=some xs.length:=by
  unfold yM;rw[aU,dh,aM (),aN ()];congr 1
  lia
 unfold nY;rw[e,dB];simp
abbrev kI (k:Nat):A:=.int k
def N7{S:jL}{n:Nat}{a:ae}(pa:a.Perm (rg n))(hn:n<=20):∃(W:Nat) (w:ag) (S':jL),oY [kh a] S=.ok (.ref W) S'/\jH S' W=some (w.map kI)/\kj (rg n) w/\led (rg n) w=a/\qB S S'/\S.length<=W:=by
 have la:=mW pa;have iv:=Iv.tP a;have i4:a.length * a.length<=400:=by rw[la];exact i_ hn hn
 have key:=qQ (t:=oG) (c:=qG)
  (λτ T=>∃(z:ae) (v:ag) (D:Nat),τ=[kh z,.ref S.length,.ref D]/\z.Perm (rg n)/\jH T S.length=some (v.map kI)/\jH T D=some ((fl z n).map .int)/\S.length<D/\kj z v.reverse/\led z v.reverse=a/\v.length+Iv.inv z=Iv.inv a/\qB S T)
  (λτ _=>match τ with
   | .tup xs::_=>Iv.inv ((A.ints xs).getD [])
   | _=>0)
  (λr=>∃(W:Nat) (w:ag) (S':jL),RS.end (RS.seq r (lH (OW Hj (jF 1))))=.ok (.ref W) S'/\jH S' W=some (w.map kI)/\kj (rg n) w/\led (rg n) w=a/\qB S S'/\S.length<=W) ?_ 1000000
 ·unfold oY tu tW;dsimp[kF,bools,nI,Nat.reduceAdd,Nat.reduceSub,kE (show([]:ad).length<=16777216 by simp),downs la hn];refine key _ _ ⟨a,[],(S++[O.lst []]).length,rfl,pa,qv j4,j4,by simp,trivial,rfl,by simp,Kp.refl.lay.lay⟩ ?_;show Iv.inv ((A.ints (a.map .int)).getD [])<_;rw[ints_map];show Iv.inv a<_
  lia
 ·rintro τ T ⟨z,v,D,rfl,pz,hW,hD,lD,hr,hl,hi,kp⟩;have lz:=mW pz;have hD':jH (T++[O.lst []]) D=some ((fl z n).map .int):=qv hD;have te:oG [kh z,.ref S.length,.ref D] T=.ok (!(fl z n).isEmpty) (T++[O.lst []]):=by
   unfold oG;have e:=eq_nil hD' (j4 (S:=T) (xs:=[]));rw[List.isEmpty_map]at e;dsimp[kF,bools,kE (show([]:ad).length<=16777216 by simp),Lc e]
  rcases h_ (fl z n)with c|⟨l',kk,c⟩
  ·left;refine⟨_,by rw[te,c];rfl,?_⟩;have ez:z=rg n:=Fw.Ew pz λk hk=>by
    have:(k:Int)∈fl z n:=Iu.mpr ⟨by have:=hk.1;lia,by have:=hk.2.1;lia,by
     rw[show((k:Int)-1).toNat=k-1 by have:=hk.1;lia,cC];exact hk.2.2⟩
    rw[c]at this;cases this
   subst ez;have hW':jH (T++[O.lst []]) S.length=some (v.map kI):=qv hW;refine⟨(T++[O.lst []]).length,v.reverse,T++[O.lst []]++[O.lst (v.map kI).reverse],?_,?_,hr,hl,kp.lay.lay,?_⟩
   ·dsimp[kF,bools,hW']
   ·rw[List.map_reverse];exact j4
   ·have:=kp.len;rw[aU];lia
  ·right;rw[ie]at c;refine⟨T++[O.lst []],by rw[te,c];simp,.inl ?_⟩;obtain⟨k1,k2,k3⟩:=Iu.mp (show kk∈fl z n by rw[c];simp);obtain⟨k,rfl⟩:∃k:Nat,kk=k:=⟨kk.toNat,()⟩;rw[show((k:Int)-1).toNat=k-1 by lia,cC]at k3;have k1:1<=k:=()
   have k2:k<n:=()
   have pe:=Eu.Qu pz k1 k2;have hW':jH (T++[O.lst []]) S.length=some (v.map kI):=qv hW;have ix:nY ((fl z n).map A.int) (-1)=some (.int k):=by rw[c,bU];exact B0
   have lx:=Me (S:=T++[O.lst []]) (xs:=z) (k:=k) k1 () ();have lT:=kp.len;have vl:(v.map kI).length<16777216:=by rw[aL];lia
   have hDs:jH ((T++[O.lst []]).set S.length (.lst (v.map kI++[.int k]))) D=some ((fl z n).map .int):=by rw[uB ()];exact hD'
   unfold qG;dsimp[kF,bools,hD',ix,lx,hW',FO vl,downs (mW pe) hn];have li:=oX hW';have iu:=Fw.vM (l:=ex z k) k1 (by rw[Wd.mz];lia) (by rw[Eu.lo pz k1 k2,Eu.hi pz k1 k2];exact k3);rw[Eu.Rf pz k1 k2]at iu;refine⟨_,_,rfl,⟨ex z k,v++[k],_,rfl,pe,?_,j4,by rw[bN,aU,dh];lia,?_,?_,?_,(kp.lay.set (.inr (aS _))).lay⟩,?_⟩
   ·rw[bU];exact qv (nE li)
   ·rw[iR];refine⟨k1,by rw[Wd.mz];lia,by rw[Eu.lo pz k1 k2,Eu.hi pz k1 k2];exact k3,?_⟩;rw[Eu.Rf pz k1 k2];exact hr
   ·rw[iR];show led (ex (ex z k) k) v.reverse=a;rw[Eu.Rf pz k1 k2];exact hl
   ·rw[aU,dh];lia
   ·show Iv.inv ((A.ints ((ex z k).map .int)).getD [])<Iv.inv ((A.ints (z.map .int)).getD []);rw[ints_map,ints_map];show Iv.inv (ex z k)<Iv.inv z
    lia
end K51
namespace K51
open PySem L2 Am
open Wd (ex led kj)
open Fw (rg)
open Eu (Lo)
abbrev ki (ks:List (ae)):List (ae×A):=ks.map λz=>(z,.int (Iv.inv z:Nat))
theorem AH:∀{ks:List (ae)}{w:ae},nB (ki ks) w=if w∈ks then some (.int (Iv.inv w:Nat))else none
 | [],w=>rfl
 | e::es,w=>by
  show nB ((e,.int (Iv.inv e:Nat))::ki es) w=_;by_cases c:e=w
  ·subst c;rw[sI rfl,aN (aP ..)]
  ·rw[sj c,AH];by_cases d:w∈es
   ·rw[aN d,aN (aQ _ d)]
   ·rw[aM d,aM λz=>(bP.mp z).elim (λq=>c q.symm) d]
abbrev pu (ks:List (ae))(w:ae):List (ae):=if w∈ks then ks else ks++[w]
def QZ{w:ae}:putD (ki ks) w (.int (Iv.inv w:Nat))=ki (pu ks w):=by
 unfold putD pu;rw[AH];by_cases c:w∈ks
 ·rw[aN c,aN c,aN (by simp)];unfold ki;rw[bJ];refine cD λz _=>?_;show(if z=w then(z,_)else(z,_))=_;split
  ·next e=>rw[e]
  ·rfl
 ·rw[aM c,aM c,aM (by simp)];unfold ki;rw[bU];rfl
def UH{ks:List (ae)}{w:ae}(h:ks.Nodup):(pu ks w).Nodup:=by
 unfold pu;split
 ·exact h
 ·next c=>exact cQ.mpr ⟨h,by simp,λa ha b hb e=>c (by rw[<- br.mp hb,<- e];exact ha)⟩
def Jy{ks:List (ae)}{w z:ae}:z∈pu ks w ↔ z∈ks\/z=w:=by
 unfold pu;split
 ·next c=>exact⟨.inl,λh=>h.elim id λe=>by rw[e];exact c⟩
 ·rw[bu,br]
def PN(ks:List (ae)):(ki ks).map UA=ks.map kh:=by
 unfold ki;rw[bJ];rfl
def D_{n k D:Nat}{ks:List (ae)}(hn:n<=6)(k1:1<=k)(k2:k<n)(hD:j8 S D=some (ki ks))(nd:ks.Nodup)(hp:∀z∈ks,z.Perm (rg n)) :
  ∃(ls:List (ae)) (b3:A) (S':jL),pR [a0,.ref D,.int k,a3] S=.nx [a0,.ref D,.int k,b3] S'/\j8 S' D=some (ki ls)/\ls.Nodup/\(∀z,z∈ls ↔ z∈ks\/∃y∈ks,y.getD (k-1) 0<y.getD k 0/\z=ex y k)/\Kp (·=D) S S':=by
 have dl:=Aj hD;have hs:s_ [a0,.ref D,.int k,a3] S=.ok (mP S.length (ks.map kh).length) (S++[O.lst (ks.map kh)]):=by
  refine rL ?_ j4;show(opt (j8 S D) _)=_;rw[hD,j3,PN]
 unfold pR;refine wD (n:=S.length) (xs:=ks.map kh) (S1:=S++[O.lst (ks.map kh)]) hs
  (λi τ T=>(∃b3,τ=[a0,.ref D,.int k,b3])/\jH T S.length=some (ks.map kh)/\∃ls:List (ae),j8 T D=some (ki ls)/\ls.Nodup/\(∀z∈ls,z.Perm (rg n))/\(∀z,z∈ls ↔ z∈ks\/∃y∈ks.take i,y.getD (k-1) 0<y.getD k 0/\z=ex y k)/\Kp (·=D) S T)
  (λr=>∃(ls:List (ae)) (b3:A) (S':jL),r=.nx [a0,.ref D,.int k,b3] S'/\j8 S' D=some (ki ls)/\ls.Nodup/\(∀z,z∈ls ↔ z∈ks\/∃y∈ks,y.getD (k-1) 0<y.getD k 0/\z=ex y k)/\Kp (·=D) S S')
  ⟨⟨_,rfl⟩,j4,ks,Ak hD,nd,hp,λz=>⟨.inl,λh=>h.elim id λh=>by obtain⟨y,hy,_⟩:=h;cases hy⟩,Kp.refl.lay⟩ (λi τ T h=>h.2.1) ?_ ?_
 ·rintro i x τ T hx ⟨⟨b3,rfl⟩,hM,ls,hL,ln,lp,lm,lk⟩;rw[aR]at hx;obtain⟨y,hy,rfl⟩:=bA.mp hx;have ym:=aZ hy;have py:=hp y ym;have ly:=mW py;have ht:ks.take (i+1)=ks.take i++[y]:=by
   obtain⟨hi,e⟩:=aK.mp hy;rw[cG hi,e]
  refine⟨[a0,.ref D,.int k,kh y],T,rfl,.inl ?_⟩;have x1:nY (y.map A.int) ((k:Int)-1)=some (.int (y.getD (k-1) 0)):=HP (k:=k-1) () ();have x2:nY (y.map A.int) (k:Int)=some (.int (y.getD k 0)):=HP rfl ();unfold sW;by_cases c:y.getD (k-1) 0<y.getD k 0
  ·have lx:=Me (S:=T) (xs:=y) (k:=k) k1 () ();have iu:=Fw.vM (l:=y) k1 () c;have fw:=QW (n:=n) () ln lp;have ix:G9 (.ref D) (kh y) T=.ok (.int (Iv.inv y:Nat)) T:=by
    show opt (j8 T D) _=_;rw[hL,j3];show opt (A.ints (y.map .int)) _=_;rw[oV,j3,AH,aN ((lm y).mpr (.inl ym)),j3]
   have sd:Cj (.ref D) (kh (ex y k)) (.int ((Iv.inv y:Nat)+1)) T=.ok Unit.unit (T.set D (.dct (ki (pu ls (ex y k))))):=by
    show opt (j8 T D) _=_;rw[hL,j3];show opt (A.ints ((ex y k).map .int)) _=_;have lk':(ki ls).length=ls.length:=aL ..;rw[oV,j3,M3 (by rw[lk',c7];lia),<- QZ,iu];rfl
   have gw:GQ (jF 1) (eFn kC (jG (jF 3) (jG (jF 2) jQ))) (.int ((Iv.inv y:Nat)+1)) [a0,.ref D,.int k,kh y] T=.ok [a0,.ref D,.int k,kh y] (T.set D (.dct (ki (pu ls (ex y k))))):=by
    unfold GQ;dsimp[kF,bools,lx,sd]
   dsimp[kF,zE,bools,x1,x2,bq c,ix,gw];have tl:D<T.length:=Aj hL;refine⟨_,_,rfl,⟨_,rfl⟩,by rw[uB ()];exact hM,pu ls (ex y k),Ai tl,UH ln,λz hz=>?_,λz=>?_,lk.MJ (.inl rfl)⟩
   ·rcases Jy.mp hz with q|q
    ·exact lp z q
    ·rw[q];exact Eu.Qu py k1 k2
   ·rw[Jy,lm,ht];constructor
    ·rintro((q|⟨y',h1,h2,h3⟩)|q)
     ·exact .inl q
     ·exact .inr ⟨y',bS _ h1,h2,h3⟩
     ·exact .inr ⟨y,a_ _ (aP ..),c,q⟩
    ·rintro(q|⟨y',h1,h2,h3⟩)
     ·exact .inl (.inl q)
     ·rcases bu.mp h1 with h1|h1
      ·exact .inl (.inr ⟨y',h1,h2,h3⟩)
      ·rw[br.mp h1]at h3;exact .inr h3
  ·dsimp[kF,zE,bools,x1,x2,bh c];refine⟨_,_,rfl,⟨_,rfl⟩,hM,ls,hL,ln,lp,λz=>?_,lk⟩;rw[lm,ht];constructor
   ·rintro(q|⟨y',h1,h2,h3⟩)
    ·exact .inl q
    ·exact .inr ⟨y',bS _ h1,h2,h3⟩
   ·rintro(q|⟨y',h1,h2,h3⟩)
    ·exact .inl q
    ·rcases bu.mp h1 with h1|h1
     ·exact .inr ⟨y',h1,h2,h3⟩
     ·rw[br.mp h1]at h2;exact absurd h2 c
 ·rintro τ T ⟨⟨b3,rfl⟩,hM,ls,hL,ln,lp,lm,lk⟩;rw[aL,f7]at lm;exact⟨ls,b3,T,rfl,hL,ln,lm,lk⟩
end K51
namespace K51
open PySem L2 Am
open Wd (ex led kj)
open Fw (rg)
open Eu (Lo)
abbrev sO (m:Nat)(ks:List (ae)):ae:=(List.range (m+1)).map λj=>((ks.countP λz=>Iv.inv z == j:Nat):Int)
def sN(m:Nat)(ks:List (ae)):(sO m ks).length=m+1:=by unfold sO;rw[aL,cP]
def UL{N:Nat}(hN:N<=1000)(T:jL):oh (.rng 1 ((N:Int)+1)) T=.ok (kh (rg N)) T:=CZ (Bs (show(-1000000:Int)<=1 by decide) ⋯ (show -1000000<=(N:Int)+1 by lia) () ())
def Qn{S:jL}{D:Nat}{ks:List (ae)}(h:j8 S D=some (ki ks)):UB (.ref D) S=.ok (.ref S.length) (S++[.lst ((ks.map λz=>(Iv.inv z:Int)).map .int)]):=by
 show opt (j8 S D) _=_;rw[h,j3];unfold ki;rw[bJ,bJ];rfl
def T5(ks:List (ae))(i:Nat):((ks.map λz=>(Iv.inv z:Int)).countP λx=>x == (i:Int))=ks.countP λz=>Iv.inv z == i:=by
 rw[iN];refine gT λz _=>?_;show((Iv.inv z:Int) == (i:Int))=true ↔ _;rw[beq_iff_eq,beq_iff_eq]
 lia
def zp{S:jL}{n:Nat}{a:ae}(pa:a.Perm (rg n))(h1:1<=n)(hn:n<=6):∃(V:Nat) (ks:List (ae)) (S':jL),m9 [kh a] S=.ok (.ref V) S'/\Lo n a ks/\jH S' V=some ((sO (Iv.inv a) ks).map .int)/\qB S S'/\S.length<=V:=by
 have la:=mW pa;have iv:=Iv.tP a;have i4:a.length * a.length<=36:=by rw[la];exact i_ hn hn
 have ed:xW (j5 (f1 oh) (jG (j5 (f2 qx) (jG (eC (.int 1)) (jG (jP l_ (j5 (f1 nh) (jG (jF 0) jQ)) (eC (.int 1))) jQ))) jQ)) (eC (.int 0)) [kh a,.unb,.unb,.unb] S=.ok (.ref S.length) (S++[.dct (ki [rg n])]):=by
  unfold xW;dsimp[kF,bools,aL,la,UL (show n<=1000 by lia)];show opt (A.ints ((rg n).map .int)) _=_;rw[oV,j3];unfold ki;rw[bI,Fw.rO];rfl
 obtain⟨W,w,S1,e1,hW,hR,hL,k1,lW⟩:=N7 (S:=S++[O.dct (ki [rg n])]) pa ();have dl:j8 S1 S.length=some (ki [rg n]):=k1.dct _ _ (λz=>z) zV;unfold m9 qS r_;dsimp[kF,bools,nI,Nat.reduceAdd,Nat.reduceSub];rw[show(xW (j5 (f1 oh) (jG (j5 (f2 qx) (jG (eC (.int 1)) (jG (jP l_ (j5 (f1 nh) (jG (jF 0) jQ)) (eC (.int 1))) jQ))) jQ)) (eC (.int 0)) [kh a,.unb,.unb,.unb] S)=_ from ed];dsimp[kF,bools];refine wD (n:=W) (xs:=w.map kI) (S1:=S1) (show sY _ _=_ from rL (by dsimp[kF,bools,e1]) hW)
  (λi τ T=>(∃b2 b3,τ=[kh a,.ref S.length,b2,b3])/\jH T W=some (w.map kI)/\(∃ks,j8 T S.length=some (ki ks)/\Lo n (led (rg n) (w.take i)) ks)/\qB S T)
  (λr=>∃(V:Nat) (ks:List (ae)) (S':jL),RS.end (RS.seq r _)=.ok (.ref V) S'/\Lo n a ks/\jH S' V=some ((sO (Iv.inv a) ks).map .int)/\qB S S'/\S.length<=V)
  ⟨⟨_,_,rfl⟩,hW,⟨_,dl,Lo.start n⟩,(Kp.refl.lay).trans k1⟩ (λi τ T h=>h.2.1) ?_ ?_
 ·rintro i x τ T hx ⟨⟨b2,b3,rfl⟩,hM,⟨ks,hD,lo⟩,kp⟩;rw[aR]at hx;obtain⟨k,hk,rfl⟩:=bA.mp hx;obtain⟨hi,ek⟩:=aK.mp hk;have ew:w=w.take i++k::w.drop (i+1):=by rw[<- ek,d_,b_]
  rw[ew]at hR;obtain⟨r1,r2,r3,_⟩:=hR.drop;rw[Wd.wK,Wd.jY]at r2;have pv:(led (rg n) (w.take i)).Perm (rg n):=Wd.uV λq hq=>by
   have:=Wd.kj.valid hR q (by rw[<- ew];exact bL hq);exact this
  refine⟨[kh a,.ref S.length,.int k,b3],T,rfl,.inl ?_⟩;obtain⟨ls,b3',T',e2,hD',nd,hm,kk⟩:=D_ (a0:=kh a) (a3:=b3) (k:=k) hn r1 r2 hD lo.nd λz hz=>((lo.mm z).mp hz).1;rw[aU,dh]at lW;refine⟨_,_,e2,⟨_,_,rfl⟩,?_,⟨ls,hD',?_⟩,kp.old kk λq hq z=>()⟩
  ·exact kk.lst _ _ () hM
  ·rw[cG hi,ek,Wd.wY];exact lo.step pv r1 r2 r3 nd hm
 ·rintro τ T ⟨⟨b2,b3,rfl⟩,hM,⟨ks,hD,lo⟩,kp⟩;rw[aL,f7,hL]at lo;obtain⟨T1,e2,k2⟩:=NV (S:=T) (a:=a) ();have hD1:=k2.dct _ _ (λz=>z) hD;have hs:oz (jP l_ (eFn mX (jG (jF 0) jQ)) (eC (.int 1))) [kh a,.ref S.length,b2,b3] T=.ok (kN 0 (((Iv.inv a+1:Nat)):Int)) T1:=oW (S1:=T1) (by dsimp[kF,bools,e2];rfl) (mS () ());have fw:=QW (n:=n) () lo.nd λz hz=>((lo.mm z).mp hz).1;obtain⟨T',g1,g2⟩:=pq (s:=kN 0 (((Iv.inv a+1:Nat)):Int)) (g:=kO 0) (t:=sU) (e:=L3 u9 (TU (jF 1)) (jG (jF 0) jQ)) (P:=λT2=>qB T1 T2) (T:=λτ'=>∃y,τ'=[y,.ref S.length])
   (λi=>.int i) (λ_=>true) (λi=>.int ((ks.countP λz=>Iv.inv z == i:Nat):Int))
   (λi S2 hi _=>by
    have hi:i<((((Iv.inv a+1:Nat)):Int)-0).toNat:=hi;show(if _ then _ else _)=_;rw[aN hi,jt])
   (λ_ _=>rfl)
   (λi τ' S2 hi ⟨y,hy⟩ k=>by
    subst hy;have hD2:=k.dct _ _ (λz=>z) hD1;have hl2:jH (S2++[O.lst ((ks.map λz=>(Iv.inv z:Int)).map .int)]) S2.length=some ((ks.map λz=>(Iv.inv z:Int)).map .int):=j4;have mc:u9 (.ref S2.length) [.int i] (S2++[O.lst ((ks.map λz=>(Iv.inv z:Int)).map .int)])=.ok (.int ((ks.countP λz=>Iv.inv z == i:Nat):Int)) (S2++[O.lst ((ks.map λz=>(Iv.inv z:Int)).map .int)]):=by
     show opt (jH _ _) _=_;rw[hl2,j3];show opt (A.ints _) _=_;rw[ints_map,j3,T5]
    refine⟨[.int i,.ref S.length],S2,S2,rfl,rfl,⟨_,rfl⟩,(λz=>nomatch z),λ_=>⟨S2++[O.lst ((ks.map λz=>(Iv.inv z:Int)).map .int)],?_,k.lay⟩⟩;unfold L3 TU;dsimp[kF,bools,Qn hD2,hl2,mc])
   (Iv.inv a+1) 0 [.unb,.ref S.length] T1 (by show _=((((Iv.inv a+1:Nat)):Int)-0).toNat;lia) ⟨_,rfl⟩ Kp.refl
  rw[fh.mpr (λ_ _=>rfl),<- cE]at g1;have eq:((List.range (Iv.inv a+1)).map λi=>A.int ((ks.countP λz=>Iv.inv z == i:Nat):Int))=(sO (Iv.inv a) ks).map .int:=by unfold sO;rw[bJ];rfl
  rw[eq]at g1;refine⟨T'.length,ks,T'++[O.lst ((sO (Iv.inv a) ks).map .int)],?_,lo,j4,((kp.trans k2).trans g2).lay,by have:=((kp.trans k2).trans g2).len;exact this⟩;have ec:kM [none,some 1] (oz (jP l_ (eFn mX (jG (jF 0) jQ)) (eC (.int 1)))) (kO 0) sU (L3 u9 (TU (jF 1)) (jG (jF 0) jQ)) [kh a,.ref S.length,b2,b3] T=.ok (.ref T'.length) (T'++[O.lst ((sO (Iv.inv a) ks).map .int)]):=by
   unfold kM;rw[hs,R.lJ];show R.lK (mw (kN 0 (((Iv.inv a+1:Nat)):Int)) _ _ _ ((((Iv.inv a+1:Nat)):Int)-0).toNat 0 _ _) _=_;rw[show((((Iv.inv a+1:Nat)):Int)-0).toNat=Iv.inv a+1 by lia];show R.lK (mw (kN 0 (((Iv.inv a+1:Nat)):Int)) _ _ _ (Iv.inv a+1) 0 [.unb,.ref S.length] _) _=_;rw[g1,R.lg,kE (by rw[aL,sN];lia)]
  dsimp[kF,bools,ec]
end K51
namespace K51
open PySem L2 Am
open Wd (ex led kj)
open Fw (rg)
open Eu (Lo inj)
open Bl
def Nf{ks:List (ae)}(h:j<=m):(sO m ks).getD j 0=((ks.countP λz=>Iv.inv z == j:Nat):Int):=by
 unfold sO;rw[aI,aR,cj ()];rfl
def IF{l:ae}(h:Iv.inv l<=m):(sO m ks).set (Iv.inv l) ((sO m ks).getD (Iv.inv l) 0+1)=sO m (ks++[l]):=by
 rw[Nf h];refine bR λj=>?_;by_cases hj:j<m+1
 ·have g:∀ks',(sO m ks')[j]?=some ((ks'.countP λz=>Iv.inv z == j:Nat):Int):=λks'=>by unfold sO;rw[aR,cj hj];rfl
  rw[g,jc,sN,i8,bT,iM];by_cases e:Iv.inv l=j
  ·subst e;rw[aN rfl,aN hj,aN (by simp)];congr 1
  ·rw[aM e,g,aM (by simpa using e)];rfl
 ·rw[bG (by rw[bN,sN];lia),bG (by rw[sN];lia)]
abbrev qd (n:Nat)(a z:ae):Bool:=@decide (Below (rg n) z/\Below z a) (Classical.propDecidable _)
def K_{n:Nat}{a:ae}:qd n a z=true ↔ Below (rg n) z/\Below z a:=@gA _ (Classical.propDecidable _)
def SK{n:Nat}{z:ae}(pz:z.Perm (rg n)):Below (rg n) z:=by
 obtain⟨h1,h2⟩:=He.Bo pz;have:=Wd.xP h1;rw[h2]at this;exact this
def xH{n:Nat}{a:ae}:Lo n a ((inj n n).filter (qd n a)) where
 nd:=by
  refine ig fj (gU (λ{a b} h z=>?_) (Eu.zK n));rw[z,Sx.sE]at h;cases h
 mm:=λz=>by
  rw[cB,Eu.Ac,K_];exact⟨λh=>⟨h.1,h.2.2⟩,λh=>⟨h.1,SK h.1,h.2⟩⟩
def L1{n:Nat}(hn:n<=20):mF [.int n] S=.ok (kh (rg n)) S:=by
 unfold mF pT pV;dsimp[kF,bools,nI,Nat.reduceAdd,Nat.reduceSub,UL (show n<=1000 by lia)]
def Gj{n:Nat}{x:ae}(px:x.Perm (rg n))(h1:1<=n)(h2:n<=20):∃S',nv [kh x] S=.ok (.int (Iv.inv x:Nat)) S'/\qB S S':=by
 obtain⟨P,S1,e1,g1,k1,_⟩:=TX (S:=S) (mW px) h2;unfold nv xD xx;dsimp[kF,bools,nI,Nat.reduceAdd,Nat.reduceSub,e1,g1,PU (mW px) h1];exact⟨_,rfl,k1⟩
def ya{S:jL}{n:Nat}{a:ae}(pa:a.Perm (rg n))(h1:1<=n)(hn:n<=6):∃(D:Nat) (S':jL),uW [kh a] S=.ok (.ref D) S'/\jH S' D=some ((sO (Iv.inv a) ((inj n n).filter (qd n a))).map .int)/\qB S S'/\S.length<=D:=by
 have la:=mW pa;have iv:=Iv.tP a;have i4:a.length * a.length<=36:=by rw[la];exact i_ hn hn
 obtain⟨S1,e1,k1⟩:=Gj (S:=S++[O.lst [.int 0]]) pa h1 ();have h0:jH S1 S.length=some [.int 0]:=k1.lst _ _ (λz=>z) j4;have em:vd (.ref S.length) (.int ((Iv.inv a:Nat)+1)) S1=.ok (.ref S1.length) (S1++[O.lst ((sO (Iv.inv a) []).map .int)]):=by
  have:=O0 (k:=Iv.inv a+1) h0 ();have e:(sO (Iv.inv a) []).map A.int=List.replicate (Iv.inv a+1) (.int 0):=by
   unfold sO;rw[bJ];refine List.eq_replicate_iff.mpr ⟨by simp,λx hx=>?_⟩;obtain⟨q,_,rfl⟩:=bH.mp hx;rfl
  rw[e];exact this
 obtain⟨V,S2,e2,hV,k2,lV⟩:=DA (S:=S1++[O.lst ((sO (Iv.inv a) []).map .int)]) (dS (rg n)) pa h1 hn (qd n a) (λz _=>K_);have hD2:jH S2 S1.length=some ((sO (Iv.inv a) []).map .int):=k2.lst _ _ (λz=>z) j4;have l1:=k1.len;rw[aU,dh]at l1;rw[aU,dh]at lV;unfold uW wN z0;dsimp[kF,bools,nI,Nat.reduceAdd,Nat.reduceSub,aL,la,bh (show ¬(6:Int)<n by lia),kE (show([.int 0]:ad).length<=16777216 by simp),e1,em];refine wD (n:=V) (xs:=((inj n n).filter (qd n a)).map kh) (S1:=S2) (show yX _ _=_ from rL (by dsimp[kF,bools,aL,la,L1 (show n<=20 by lia),e2]) hV)
  (λi τ T=>(∃b2,τ=[kh a,.ref S1.length,b2])/\jH T V=some (((inj n n).filter (qd n a)).map kh)/\jH T S1.length=some ((sO (Iv.inv a) (((inj n n).filter (qd n a)).take i)).map .int)/\qB S T)
  (λr=>∃(D:Nat) (S':jL),RS.end (RS.seq r _)=.ok (.ref D) S'/\jH S' D=some ((sO (Iv.inv a) ((inj n n).filter (qd n a))).map .int)/\qB S S'/\S.length<=D)
  ⟨⟨_,rfl⟩,hV,hD2,(((Kp.refl.lay).trans k1).lay).trans k2⟩ (λi τ T h=>h.2.1) ?_ ?_
 ·rintro i x τ T hx ⟨⟨b2,rfl⟩,hM,hD,kp⟩;rw[aR]at hx;obtain⟨l,hl,rfl⟩:=bA.mp hx;obtain⟨hi,el⟩:=aK.mp hl;obtain⟨pl,bl⟩:=(xH.mm l).mp (aZ hl);have ml:=(Eu.mono pa _ l rfl pl bl).1;refine⟨[kh a,.ref S1.length,kh l],T,rfl,.inl ?_⟩;obtain⟨T1,e3,k3⟩:=Gj (S:=T) pl h1 ();have hD1:=k3.lst _ _ (λz=>z) hD;have hM1:=k3.lst _ _ (λz=>z) hM;have cl:=sN (Iv.inv a) (((inj n n).filter (qd n a)).take i);have x1:((sO (Iv.inv a) (((inj n n).filter (qd n a)).take i)).map A.int)[((Iv.inv l:Nat):Int).toNat]?=some (.int ((sO (Iv.inv a) (((inj n n).filter (qd n a)).take i)).getD (Iv.inv l) 0)):=by
   rw[cC,aR,aI,aH ()];rfl
  have x2:yM ((sO (Iv.inv a) (((inj n n).filter (qd n a)).take i)).map A.int).length ((Iv.inv l:Nat):Int)=some (Iv.inv l):=vQ rfl (by rw[aL];lia);unfold za;dsimp[kF,zE,bools,e3,hD1,lC (show(0:Int)<=((Iv.inv l:Nat):Int)by lia),x1,x2];have lt:=oX hD1;refine⟨_,_,rfl,⟨_,rfl⟩,by rw[nR ()];exact hM1,?_,(kp.trans k3).set (.inr ())⟩;rw[nE lt,cG hi,el,<- IF ml,gS]
 ·rintro τ T ⟨⟨b2,rfl⟩,hM,hD,kp⟩;rw[aL,f7]at hD;dsimp[kF,bools];exact⟨_,_,rfl,hD,kp,()⟩
end K51
namespace K51
open PySem L2 Am
open Wd (ex led kj)
open Fw (rg)
open Eu (Lo inj)
def IS{n:Nat}{bs:List Bool}(h:jH S n=some xs)(hb:A.A7 xs=some bs):RK (.ref n) S=.ok (.bl (bs.all λb=>b)) S:=by
 show opt (jH S n) _=_;rw[h];show opt (A.A7 xs) _=_;rw[hb];rfl
theorem Pf:∀(xs:ad),A.A7 (xs.map λ_=>.bl true)=some (xs.map λ_=>true)
 | []=>rfl
 | x::xs=>by show(A.A7 (xs.map λ_=>.bl true)).map (true::·)=_;rw[Pf xs];rfl
theorem Pj:∀(xs:ad),((xs.map λ_=>true).all λb=>b)=true
 | []=>rfl
 | x::xs=>Pj xs
def u5{n V:Nat}{a:ae}(pa:a.Perm (rg n))(h1:1<=n)(hn:n<=6)(hV:jH S V=some ((sO (Iv.inv a) ks).map .int))(he:sO (Iv.inv a) ks=sO (Iv.inv a) ((inj n n).filter (qd n a))) :
  ∃S',lB [kh a,.ref V] S=.ok (.bl true) S'/\qB S S':=by
 have la:=mW pa;have iv:=Iv.tP a;have i4:a.length * a.length<=36:=by rw[la];exact i_ hn hn
 obtain⟨D,S1,e1,hD,k1,lD⟩:=ya (S:=S) pa h1 hn;have hV1:=k1.lst _ _ (λz=>z) hV;have q1:=Lc (Uh hD hV1);rw[he,bq rfl]at q1;have cl:=sN (Iv.inv a) ((inj n n).filter (qd n a));generalize sO (Iv.inv a) ((inj n n).filter (qd n a))=cs at hD cl;have cc:=KU (cap:=[]) (src:=qD (jF 2)) (t:=sU) (e:=eFn m7 (jG (jF 0) (jQ))) (τ:=[kh a,.ref V,.ref D]) (S:=S1) (rL (by dsimp[kF,bools]) hD) hD (λ_=>true) (λ_=>.bl true) (λ_ _=>rfl) (λx hx _=>by
  obtain⟨i,_,rfl⟩:=bH.mp hx;dsimp[kF,bools,HV]) (by rw[aL];lia)
 rw[fh.mpr (λ_ _=>rfl)]at cc;have ea:=IS (j4 (S:=S1) (xs:=(cs.map A.int).map λ_=>A.bl true)) (Pf _);rw[Pj]at ea;have hD2:jH (S1++[O.lst ((cs.map A.int).map λ_=>A.bl true)]) D=some (cs.map .int):=qv hD;unfold lB rm rZ;dsimp[kF,bools,nI,Nat.reduceAdd,Nat.reduceSub,e1,hD,eN,show Dr .lst "list" = some true from rfl,eU,q1,cc,ea,hD2,FO (show(cs.map A.int).length<16777216 by rw[aL];lia)];exact⟨_,rfl,k1.lay.set (.inr ())⟩
def PD(ns:ae)(hl:ns.length<=63):∃S',y9 [.frz (ns.map .int)] []=.ok (.bl true) S':=by
 obtain⟨c0,ec0⟩:=E5 (S:=[]) (ns:=ns) (k:=0) ⋯;obtain⟨S1,e1,b1,kp1⟩:=ET (S:=[]) (c:=c0) (k:=1) ⋯ ⋯;have b1l:0<S1.length:=by obtain⟨_,_,e,_⟩:=b1;exact oX e
 obtain⟨os,hos⟩:∃os:ad,os=[.int 5,.int 4,.int 5,.int 3,.int 2,.int 1]:=⟨_,rfl⟩;have n1:newL [.int 5,.int 4,.int 5,.int 3,.int 2,.int 1] S1=.ok (.ref S1.length) (S1++[O.lst os]):=by rw[hos];exact kE (show 6<=16777216 by decide)
 have k1:qB S1 (S1++[O.lst os]):=Kp.refl.lay;obtain⟨q,S2,e2,q0,q1,b2,kp2⟩:=digit (m:=6) (b1.kp k1 λz=>z) ⋯ ⋯;have g2:jH S2 S1.length=some os:=kp2.lst _ _ (by show S1.length≠0;lia) j4;obtain⟨m,em,m0,m1⟩:∃m:Nat,nY os q=some (.int m)/\1<=m/\m<=6:=by
  have:q=0\/q=1\/q=2\/q=3\/q=4\/q=5:=()
  rw[hos]
  rcases this with rfl|rfl|rfl|rfl|rfl|rfl
  ·exact⟨5,rfl,by decide,by decide⟩
  ·exact⟨4,rfl,by decide,by decide⟩
  ·exact⟨5,rfl,by decide,by decide⟩
  ·exact⟨3,rfl,by decide,by decide⟩
  ·exact⟨2,rfl,by decide,by decide⟩
  ·exact⟨1,rfl,by decide,by decide⟩
 obtain⟨d,S3,e3,d0,d1,b3,kp3⟩:=digit (m:=4) b2 ⋯ ⋯;obtain⟨n,hn,n0,n6⟩:∃n:Nat,(n:Int)=(if d=3 then 6 else(m:Int))/\1<=n/\n<=6:=by
  by_cases c:d=3
  ·exact⟨6,by rw[aN c];rfl,by decide,by decide⟩
  ·exact⟨m,by rw[aM c],m0,m1⟩
 obtain⟨a,S4,e4,pa,b4,kp4⟩:=Ba (n:=(n:Int)) b3 () ();obtain⟨c1,ec1⟩:=E5 (S:=S4) (ns:=ns) (k:=1) ⋯;obtain⟨S5,e5,b5,kp5⟩:=ET (S:=S4) (c:=c1) (k:=2) ⋯ ⋯;obtain⟨o,S6,e6,po,b6,kp6⟩:=Ba (n:=5) b5 ⋯ ⋯;obtain⟨V,ks,S7,e7,lo,hV,k7,lV⟩:=zp (S:=S6) pa n0 n6;obtain⟨S8,e8,k8⟩:=u5 pa n0 n6 hV (by unfold sO;exact cD λj _=>by rw[lo.cnt xH]);obtain⟨W,ls,S9,e9,lo9,hW,k9,lW⟩:=zp (S:=S8) (n:=5) po ⋯ ⋯;obtain⟨S10,e10,k10⟩:=u5 (n:=5) po ⋯ ⋯ hW (by unfold sO;exact cD λj _=>by rw[lo9.cnt xH]);obtain⟨S11,e11,k11⟩:=Lg (S:=S10) pa ();have hV11:=(((k8.trans k9).trans k10).trans k11).lst _ _ (λz=>z) hV;have ib:=He.Kx pa;obtain⟨S12,e12,k12⟩:=u5 (S:=S11) (ks:=ks) (He.sQ pa) n0 n6 (by rw[ib];exact hV11) (by
  unfold sO;exact cD λj _=>by rw[lo.V0 pa xH])
 obtain⟨S13,e13,k13⟩:=u5 (S:=S12) pa n0 n6 (k12.lst _ _ (λz=>z) hV11) (by unfold sO;exact cD λj _=>by rw[lo.cnt xH]);unfold y9 Im Mq;dsimp[kF,bools,nI,Nat.reduceAdd,Nat.reduceSub,ec0,e1,n1,e2,g2,em,e3];by_cases c:d=3
 ·rw[aN c]at hn;dsimp[kF,bools,show(d == 3)=true by simpa using c,<- hn,e4,ec1,e5,e6,e7,e8,e9,e10,e11,e12,e13,eU];exact⟨_,rfl⟩
 ·rw[aM c]at hn;dsimp[kF,bools,show(d == 3)=false by simpa using c,<- hn,e4,ec1,e5,e6,e7,e8,e9,e10,e11,e12,e13,eU];exact⟨_,rfl⟩
end K51
namespace K51
open PySem L2 Am
def all_mk{l:PySem.W.OpenLaw}{w:ah}{K:au}{h:aq}{mg:Str->ba}{fa:ak}(X:K.In h)(G:h.Ns mainGlobals mg)(hfa:mg "law" = some (.ref fa))
  (a1:Df K "plain_order" pK)
  (a2:Df K "need_pair" qU)
  (a3:Df K "exchanged_places" mU)
  (a4:Df K "place_pairs" p_)
  (a5:Df K "wrong_pairs" p7)
  (a6:Df K "length" yD)
  (a7:Df K "first_above_nought" lX)
  (a8:Df K "bar" Lh)
  (a9:Df K "is_below" ud)
  (a10:Df K "need_bounds" qa)
  (a11:Df K "is_step" vt)
  (a12:Df K "steps" Ar)
  (a13:Df K "steps_above" pI)
  (a14:Df K "between" vG)
  (a15:Df K "count" A4)
  (a16:Df K "_law_cell" t6)
  (a17:Df K "_law_bag" vH)
  (a18:Df K "_law_mixed" rK)
  (a19:Df K "_law_digit" rC)
  (a20:Df K "_law_order" rz)
  (a21:Df K "_law_exchanged" n9)
  (a22:Df K "_law_long" tH)
  (a23:Df K "_law_word" t8)
  (a24:Df K "_law_whole" rJ)
  (a25:Df K "_law_back" tD)
  (a26:Df K "_law_count" rB)
  (a27:Df K "_law_right" qW)
  (a28:Df K "law" LJ)
  (Yz:PySem.W.nsIn K mainGlobals "tuple" = some none)
  (YA:PySem.W.nsIn K mainGlobals "range" = some none)
  (YB:PySem.W.nsIn K mainGlobals "len" = some none)
  (YC:PySem.W.nsIn K mainGlobals "list" = some none)
  (YD:PySem.W.nsIn K mainGlobals "max" = some none)
  (YE:PySem.W.nsIn K mainGlobals "min" = some none)
  (YF:PySem.W.nsIn K mainGlobals "any" = some none)
  (YG:PySem.W.nsIn K mainGlobals "sorted" = some none)
  (YH:PySem.W.nsIn K mainGlobals "abs" = some none)
  (YI:PySem.W.nsIn K mainGlobals "isinstance" = some none)
  (YJ:PySem.W.nsIn K mainGlobals "bool" = some none)
  (YK:PySem.W.nsIn K mainGlobals "int" = some none)
  (YL:PySem.W.nsIn K mainGlobals "all" = some none)
  {Yv:Tok} (YM:PySem.W.nsIn K mainGlobals "MOST_CLIMBED_PAIRS" = some (some (.int 4 Yv)))
  {Yw:Tok} (YN:PySem.W.nsIn K mainGlobals "MOST_CLIMBED_THINGS" = some (some (.int 9 Yw)))
  {Yx:Tok} (YO:PySem.W.nsIn K mainGlobals "MOST_THINGS_chains" = some (some (.int 6 Yx)))
  {Yy:Tok} (YQ:PySem.W.nsIn K mainGlobals "MOST_THINGS_counts" = some (some (.int 6 Yy)))
  : ∃fd:FuncData,(∀(s:aC) (v:af),BindsTo s fd ⟨[v],[]⟩ [("_law_script",v)])/\∀base:aq,K.In base->base.Ns mainGlobals mg->FnOk l.prog w K mg base qy 8 fa fd ["_law_script"] (rq K 1 y9):=by
 obtain⟨f,fd,a,F⟩:=a28;have e:=hfa.symm.trans (gq X G a)
 cases e
 have XG:=cg X G Yz;have XF:=cg X G YA;have XD:=cg X G YB;have XH:=cg X G YC;have XR:=cg X G YD;have X8:=cg X G YE;have X9:=cg X G YF;have XT:=cg X G YG;have Ym:=cg X G YH;have XM:=cg X G YI;have Yn:=cg X G YJ;have Yo:=cg X G YK;have Yr:=cg X G YL;have Yd:∃t,mg "MOST_CLIMBED_PAIRS" = some (.int 4 t):=⟨Yv,gq X G YM⟩;have Ye:∃t,mg "MOST_CLIMBED_THINGS" = some (.int 9 t):=⟨Yw,gq X G YN⟩;have Yg:∃t,mg "MOST_THINGS_chains" = some (.int 6 t):=⟨Yx,gq X G YO⟩;have Yj:∃t,mg "MOST_THINGS_counts" = some (.int 6 t):=⟨Yy,gq X G YQ⟩;refine⟨fd,λs v=>(by obtain⟨_,_,_,_,_,_,_,_,_,rfl,_,_⟩:=F.ex;exact .of_eq rfl),λbase _ _=>?_⟩;have E:En l.prog w K mg base:=⟨h,X,G⟩;have Yl:=a1.kA E (λF=>xY F XG XF) (Hi λ_ _ _ _ _ _ _=>rfl);have XS:=a2.kA E (λF=>AB F XD) (L6 λ_ _ _ _ _ _ _ _=>rfl);have Yb:=a3.kA E (λF=>sS F XH XG) (Xa λ_ _ _ _ _ _ _ _ _=>rfl);have XQ:=a4.kA E (λF=>yp F XF) (Hi λ_ _ _ _ _ _ _=>rfl);have X5:=a5.kA E (λF=>yh F XD XQ) (Hi λ_ _ _ _ _ _ _=>rfl);have XI:=a6.kA E (λF=>Ht F XD X5) (Hi λ_ _ _ _ _ _ _=>rfl);have X6:=a7.kA E (λF=>qO F) (Hi λ_ _ _ _ _ _ _=>rfl);have X7:=a8.kA E (λF=>Rh F XD XF XR XS X6) (L6 λ_ _ _ _ _ _ _ _=>rfl);have XX:=a9.kA E (λF=>Bp F X7) (L6 λ_ _ _ _ _ _ _ _=>rfl);have Yh:=a10.kA E (λF=>yc F XD XI) (Xe λ_ _ _ _ _ _ _ _ _ _ _=>rfl);have X_:=a11.kA E (λF=>CQ F X8 XR X9) (Xa λ_ _ _ _ _ _ _ _ _=>rfl);have Yc:=a12.kA E (λF=>KD F XT X_ Yb) (L6 λ_ _ _ _ _ _ _ _=>rfl);have Yi:=a13.kA E (λF=>xJ F XD Yc XQ) (Hi λ_ _ _ _ _ _ _=>rfl);have Yk:=a14.kA E (λF=>Dg F XT Yd Ye Yg XS Yh XX Yi) (L6 λ_ _ _ _ _ _ _ _=>rfl);have Ys:=a15.kA E (λF=>LM F XD Yj XI Yk Yl) (Hi λ_ _ _ _ _ _ _=>rfl);have X0:=a16.kA E (λF=>BZ F XD) (L6 λ_ _ _ _ _ _ _ _=>rfl);have XZ:=a17.kA E (λF=>DM F Ym) (L6 λ_ _ _ _ _ _ _ _=>rfl);have XY:=a18.kA E (λF=>AA F) (Hi λ_ _ _ _ _ _ _=>rfl);have XJ:=a19.kA E (λF=>zZ F XF XY) (L6 λ_ _ _ _ _ _ _ _=>rfl);have X3:=a20.kA E (λF=>zP F XH XF XD XG XJ) (L6 λ_ _ _ _ _ _ _ _=>rfl);have XU:=a21.kA E (λF=>vp F) (L6 λ_ _ _ _ _ _ _ _=>rfl);have Yq:=a22.kA E (λF=>BS F XF XD) (Hi λ_ _ _ _ _ _ _=>rfl);have Yp:=a23.kA E (λF=>Bu F XF XD XU) (Hi λ_ _ _ _ _ _ _=>rfl);have Yt:=a24.kA E (λF=>Ax F XM Yn Yo) (Hi λ_ _ _ _ _ _ _=>rfl);have Yu:=a25.kA E (λF=>CI F XG XF XD) (Hi λ_ _ _ _ _ _ _=>rfl);have X4:=a26.kA E (λF=>z8 F XG XF XD XH Yp XU Yq) (Hi λ_ _ _ _ _ _ _=>rfl);have XW:=a27.kA E (λF=>A3 F Yr XM XH Ys Yt) (L6 λ_ _ _ _ _ _ _ _=>rfl);exact P6 F XZ X0 XJ X3 X4 XW Yu
def walk{l:PySem.W.OpenLaw}{q:aj}{XP:(Str->ba)->aq->Prop}{YP:ah->aq->Prop}{d:DefRec}{K:Params->au}(hn:l.most=some 63)(hdf:d.params.defaults=[])
  (hY:∀(w:ah) (h:aq),YP w h->(K w.params).In h)
  (F:∀(w:ah) (mg:Str->ba) (fa:ak) (h:aq),(K w.params).In h->h.Ns mainGlobals mg->mg d.name=some (.ref fa) ->
   ∃fd:FuncData,(∀(s:aC) (u:af),BindsTo s fd ⟨[u],[]⟩ [("_law_script",u)])/\∀base:aq,(K w.params).In base->base.Ns mainGlobals mg->FnOk l.prog w (K w.params) mg base qy 8 fa fd ["_law_script"] (rq (K w.params) 1 y9)) :
  PySem.W.WalkO q loose XP YP l.row.toRowW d [] (λf vs=>PySem.call f vs):=
 L2.NC (n:=63) (k:=8) (x := "_law_script") (CX:=λ_=>qy) (sp:=λw=>rq (K w.params) 1 y9) hn ⋯ hdf ⟨rfl,by decide,by decide⟩ hY F (λ_ H a ns hl hO hS=>Hl hO hS (PD ns hl)) λ_ _ _ _ _ z=>z
end K51
open PySem PySem.W PyProof.Rows
namespace PySem.W.Fast
def tw17338942238633458494:=Nat
def tw15189365716368659333:=Nat
def tw2442863484552017123:=Nat
def tw12330874214676550912:=Nat
def tw16162164052797012649:=Nat
def tw6816824024909255186:=Nat
def tw14062934000182744378:=Nat
def tw13321805506559015695:=Nat
def tw2344035882453050372:=Nat
def tw465535933653486286:=Nat
def tw12742625703269784885:=Nat
def tw13182610865762594774:=Nat
def tw14406060108285070315:=Nat
def tw1743097779494024868:=Nat
def tw4524136048431047031:=Nat
def tw15196664612396251300:=Nat
def tw16296883876691587941:=Nat
def tw4247454622508003825:=Nat
def tw18072317671229943684:=Nat
def tw631928961786047249:=Nat
def tw14330000877794059712:=Nat
def tw10117471312617188702:=Nat
def tw15458405064735085199:=Nat
def tw9022281497781498296:=Nat
def tw1809147604665359410:=Nat
def tw6258552662601733279:=Nat
def tw4996417377802853857:=Nat
def tw5801889778596206252:=Nat
def tw8232978032853598047:=Nat
def tw3360994893345977575:=Nat
def tw10642603733955605607:=Nat
def tw2249358110336912239:=Nat
def tw4842423973348360699:=Nat
def tw15324817337645743937:=Nat
def tw6982861863504970222:=Nat
def tw5797009056916714344:=Nat
def tw18418388858115090676:=Nat
def tw4329383886860786930:=Nat
def tw6684279351852952554:=Nat
def tw15655911786067971892:=Nat
def tw4086595344513830136:=Nat
def tw8192413779421623181:=Nat
def tw15196530520256190555:=Nat
def tw17866158946546525888:=Nat
def tw6382292078194949258:=Nat
def tw15480711072394341448:=Nat
def tw5146806843708750857:=Nat
def tw15039188426453390038:=Nat
def tw12686811515798201246:=Nat
def tw3812650826300222682:=Nat
def tw11642853589928969950:=Nat
def tw9439855379713196143:=Nat
def tw5440250289551091689:=Nat
def tw6342800578935747432:=Nat
def tw18057265498519917515:=Nat
def tw17217868085666722561:=Nat
def tw3374938121467060674:=Nat
def tw5568786964056234623:=Nat
def tw10050599326200463204:=Nat
def tw9692811289496784679:=Nat
def tw11857677423592370346:=Nat
def tw1052935631305908119:=Nat
def tw11120415179796411492:=Nat
def tw8500421172068335458:=Nat
def tw9487700512631971337:=Nat
def tw7839246197190562780:=Nat
def tw8953496770638919510:=Nat
def tw11976559636906795405:=Nat
def tw972138800644050333:=Nat
def tw2966515479287297219:=Nat
def tw18037461615222041109:=Nat
def tw15451618480534912500:=Nat
def tw9186509666031416385:=Nat
def tw14594391398130001085:=Nat
def tw8546966858945663865:=Nat
def tw1786180470293993115:=Nat
def tw615880210546721554:=Nat
def tw4102540107529645293:=Nat
def tw15460215993885541720:=Nat
def tw388516525788345177:=Nat
def tw14177950394077756004:=Nat
def tw8019244250421256352:=Nat
def tw18409843255099010581:=Nat
def tw15093006835287531438:=Nat
def tw16761292497241800798:=Nat
def tw3953876386929146943:=Nat
def tw2191522745073822188:=Nat
def tw6107827027056532709:=Nat
def tw8044499817721184144:=Nat
def tw14909105968004416240:=Nat
def tw442720177793705998:=Nat
def tw13466642137522122435:=Nat
def tw13187615816659801629:=Nat
def tw16443856487320121703:=Nat
def tw7662472938671364465:=Nat
def tw13795432693335909879:=Nat
def tw6640801991544639753:=Nat
def tw2741601945920633058:=Nat
def tw2818107331532645646:=Nat
def tw4416345386009033028:=Nat
end PySem.W.Fast
set_option maxRecDepth 100000 in
set_option maxHeartbeats 0 in
theorem PySem.Challenge.cw_undercells_k51_counts_holds : PySem.Challenge.rw_undercells_k51_counts.Holds := by
 w_on;o_law;k_head;(case hw=>w_witness2)
 k_fill
 refine K51.walk (l:=PySem.Challenge.rw_undercells_k51_counts) rfl rfl (fun w h Y=>PySem.W.kIn_of Y) ?F
 case F=>
  intro w mg fa h KX G hmg;refine' K51.all_mk KX G hmg (.of ?_ ?_ ?_ ?_) (.of ?_ ?_ ?_ ?_) (.of ?_ ?_ ?_ ?_) (.of ?_ ?_ ?_ ?_) (.of ?_ ?_ ?_ ?_) (.of ?_ ?_ ?_ ?_) (.of ?_ ?_ ?_ ?_) (.of ?_ ?_ ?_ ?_) (.of ?_ ?_ ?_ ?_) (.of ?_ ?_ ?_ ?_) (.of ?_ ?_ ?_ ?_) (.of ?_ ?_ ?_ ?_) (.of ?_ ?_ ?_ ?_) (.of ?_ ?_ ?_ ?_) (.of ?_ ?_ ?_ ?_) (.of ?_ ?_ ?_ ?_) (.of ?_ ?_ ?_ ?_) (.of ?_ ?_ ?_ ?_) (.of ?_ ?_ ?_ ?_) (.of ?_ ?_ ?_ ?_) (.of ?_ ?_ ?_ ?_) (.of ?_ ?_ ?_ ?_) (.of ?_ ?_ ?_ ?_) (.of ?_ ?_ ?_ ?_) (.of ?_ ?_ ?_ ?_) (.of ?_ ?_ ?_ ?_) (.of ?_ ?_ ?_ ?_) (.of ?_ ?_ ?_ ?_) ?_ ?_ ?_ ?_ ?_ ?_ ?_ ?_ ?_ ?_ ?_ ?_ ?_ ?_ ?_ ?_ ?_
  any_goals first|k_is|kernel_rfl
