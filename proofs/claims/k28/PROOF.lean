import PyProof.Rows.All
import Wide.All
import OpenK.AllK
import Wide.FinOn
import Lean
import PyProof.EqAt
import PyProof.EqKinds
import PyProof.TupleCall
import PySem.Challenge.RW_undercells_k28_products_by_any_word
set_option autoImplicit true
set_option relaxedAutoImplicit true
set_option Elab.async false
set_option linter.all false
set_option maxRecDepth 100000
set_option maxHeartbeats 4000000
local macro_rules|`(command|abbrev $n:declId $s:optDeclSig $v:declVal)=>`(command|noncomputable def $n:declId $s:optDeclSig $v:declVal)|`(command|meta abbrev $n:declId $s:optDeclSig $v:declVal)=>`(command|@[reducible]noncomputable def $n:declId $s:optDeclSig $v:declVal)
local macro_rules|`(∅)=>`(by decide +kernel)
local macro_rules|`(⋯)=>`(by decide)
local macro_rules|`(tactic|dsimp[$l,*])=>`(tactic|simp only[$l,*])|`(tactic|dsimp[$l,*]$o:location)=>`(tactic|simp only[$l,*]$o:location)
local macro_rules(kind:=Lean.Parser.Term.structInst)|`({})=>`({cls:=.type "list",data:=.seq ([]:List PySem.Value).toArray})
set_option hygiene false
local macro_rules|`(tactic|room)=>`(tactic|obtain⟨ρ,S,τ,R,r,h⟩:=h9)
local macro_rules|`(tactic|z_go)=>`(tactic|obtain⟨ρ,S,a,b,R,va,vb,h⟩:=h9)
local macro_rules|`(tactic|x_go)=>`(tactic|intro X hP hw hK hc i pins s σ H E I hf st hg)
local macro_rules|`(tactic|w_up)=>`(tactic|intro pins s σ H xs us Q I r h)
local macro_rules|`(tactic|k_ne)=>`(tactic|intro pins s σ H Q I h)
local macro_rules|`(tactic|kt_k)=>`(tactic|obtain⟨f0,f1,f2,f3,f4,f5⟩:=hf it (by simp))
local macro_rules|`(tactic|kd_p)=>`(tactic|refine⟨ρ,S,τ,R,r,jC (jD h) .refl λo S1 h1 ρ1 H1 x e1 R1 v1=>⟨ρ1,S1,τ,R1,r.ext e1,jC (jD h1) e1 λi S2 h2 ρ2 H2 y e2 R2 v2=>?_⟩⟩)
local macro_rules|`(tactic|gn_on)=>`(tactic|obtain⟨w,rfl,ρ,S,x,R,hv,h⟩:=Ux h0)
local macro_rules|`(tactic|gp_on)=>`(tactic|obtain⟨xs,hn,h⟩:=jF h)
local macro_rules|`(tactic|kj_on)=>`(tactic|have n0:newL [] S=.ok (.ref S.length) (S++[.lst []]):=j7 (show 0<=16777216 by decide))
local macro_rules|`(tactic|kcf_m)=>`(tactic|intro pins s σ H x y v u Q I rx ry h)
local macro_rules|`(tactic|kcj_m)=>`(tactic|obtain⟨u,rfl,rx⟩:=vals1 r)
local macro_rules|`(tactic|kpc_g)=>`(tactic|refine⟨ρ2,S2,o,i,a,R2,v1.ext e2,v2,va.ext (e1.trans e2),jC (jD h2) (e1.trans e2) λ_ S3 h3 ρ3 H3 e3 R3=>?_⟩)
local macro_rules|`(tactic|kpf_c)=>`(tactic|have hfree:∀y∈scope.names,y.2=.free->∃c,X.env.cells.lookup y.1=some c:=λy hy e=>I.ok.has _ (S.fr y hy e))
local macro_rules|`(tactic|ksr_p)=>`(tactic|exact mV (show 2<=16777216 by decide))
local macro_rules|`(tactic|kst_p)=>`(tactic|obtain⟨ρ,S,τ,R,r,h⟩:=h)
set_option hygiene true
local macro_rules|`(())=>`(by lia)
@[reducible]def ag:=List Int
@[reducible]def am:=List Nat
@[reducible]def ar:=List PySem.Str
@[reducible]def ba:=List PySem.Value
@[reducible]def bd:=List PySem.Addr
@[reducible]def bi:=Option PySem.Value
@[reducible]def bj:=Option Int
@[reducible]def bn:=Option Bool
@[reducible]def bp:=Option Nat
@[reducible]def bv:=List (PySem.Addr×PySem.Obj)
def aF:=@List.getElem?_eq_getElem
def aG:=@PySem.wpAny_bind
def aH:=@List.length_map
def aI:=@List.getD_eq_getElem?_getD
def aJ:=@if_neg
def aK:=@if_pos
def aL:=@List.getElem?_eq_some_iff
def aM:=@List.mem_cons_self
def aN:=@List.mem_cons_of_mem
def aO:=@List.getElem?_map
def aP:=@PySem.wpAny_pure
def aQ:=@List.length_append
def aR:=@Nat.le_refl
def aS:=@List.mem_singleton
def aV:=@PySem.Heap.get?_push_of_some
def aW:=@List.mem_of_getElem?
def aX:=@Option.map_eq_some_iff
def aY:=@List.size_toArray
def aZ:=@PyProof.Rows.wpS_bind
def a_:=@Option.some.inj
def bf:=@decide_eq_true
def bg:=@PySem.Heap.lt_size
def bh:=@List.map_map
def bq:=@List.length_cons
def bu:=@List.mem_map
def bw:=@decide_eq_false
def bz:=@PyProof.Rows.wpS_pure
def bA:=@Bool.false_eq_true
def bB:=@List.map_cons
def bC:=@PySem.Heap.get?_push_size
def bD:=@Nat.ne_of_lt
def bE:=@Bool.false_ne_true
def bF:=@List.mem_cons
def bG:=@List.mem_append_right
def bH:=@List.mem_append
def bI:=@List.getElem?_append_left
def bJ:=@Nat.le_trans
def bK:=@List.length_take
def bL:=@Nat.zero_le
def bM:=@PySem.PassesOwn.never
def bN:=@Nat.mul_le_mul_right
def bO:=@beq_self_eq_true
def bP:=@List.forall_mem_cons
def bQ:=@List.getElem?_eq_none
def bR:=@List.length_nil
def bU:=@List.map_append
def bV:=@Nat.lt_of_lt_of_le
def bW:=@List.pairwise_cons
def bX:=@of_decide_eq_true
def bY:=@List.append_assoc
def bZ:=@Nat.zero_add
def b9:=@List.length_singleton
def b_:=@List.getElem?_set_self
def cg:=@if_false
def cj:=@List.pairwise_singleton
def ck:=@Bool.not_true
def cu:=@PySem.W.mg_none_of
def cA:=@Int.zero_add
def cB:=@List.pairwise_append
def cC:=@PySem.wpAny_newObj_type
def cE:=@List.length_set
def cF:=@List.length_range
def cG:=@List.pairwise_iff_getElem
def cH:=@List.append_nil
def cI:=@List.getElem_mem
def cJ:=@List.getElem?_set_ne
def cK:=@List.pairwise_map
def cL:=@List.ext_getElem?
def cM:=@PySem.F.slot_dict_get
def cN:=@List.length_filter_le
def cO:=@PyProof.Rows.wpS_forRange
def cP:=@List.map_congr_left
def cQ:=@List.mem_filter
def cR:=@List.nodup_cons
def cT:=@List.find?_cons
def cU:=@List.mem_range
def cV:=@Option.bind_eq_some_iff
def cW:=@List.take_add_one
def cX:=@List.mem_of_mem_take
def cY:=@List.drop_eq_getElem_cons
def cZ:=@if_true
def c5:=@PySem.F.slot_dict_keyiterator_next
def c6:=@PySem.W.kia_one
def c7:=@Option.map_some
def c8:=@Nat.lt_succ_self
def c9:=@List.filter_cons
def c_:=@List.take_length
def dc:=@List.range_eq_range'
def dg:=@List.length_drop
def dh:=@List.getElem_map
def di:=@List.replicate_succ
def dj:=@congrArg
def dm:=@PySem.wpAny_holding
def dw:=@Ne.symm
def dz:=@Int.add_zero
def dB:=@of_decide_eq_false
def dD:=@Nat.lt_of_le_of_lt
def dF:=@List.getElem_inj
def dG:=@PySem.wpAny_call_entry
def dH:=@Option.bind_some
def dI:=@PySem.wpAny_truthy_bool
def dJ:=@List.getElem?_append_right
def dM:=@Int.toNat_natCast
def dN:=@List.nodup_nil
def dO:=@List.foldl_append
def dP:=@Array.length_toList
def dQ:=@List.getElem?_range
def dR:=@PySem.F.type_dict_get
def dS:=@Nat.succ_mul
def dU:=@PySem.AutoSeq1.wpAny_loadPart'
def dW:=@List.Perm.eq_of_pairwise
def dX:=@PySem.Heap.size_push
def dY:=@PySem.wpAny_typeNameOfWhole_keyiter
def dZ:=@Nat.mul_le_mul
def d8:=@PySem.wpAny_callSpecial?_slot
def d9:=@List.flatten_cons
def d_:=@Nat.lt_succ_of_lt
def eg:=@List.nodup_append
def eB:=@List.flatMap_cons
def eE:=@PyProof.Rows.wpS_mono
def eF:=@PyProof.Rows.callWith_type1
def eG:=@PySem.sizeLine_eq
def eK:=@Option.getD_some
def eL:=@List.all_eq_true
def eN:=@List.prefix_refl
def eO:=@PySem.F.slot_tuple_iterator_next
def eS:=@PySem.wpAny_rule
def eT:=@Bool.not_false
def eU:=@List.take_zero
def eV:=@List.prefix_append
def eW:=@List.Perm.refl
def eX:=@List.getElem_range
def eY:=@Array.getElem?_toList
def eZ:=@List.getElem?_toArray
def e_:=@PySem.wpAny_passesOwn
def fh:=@List.foldl_cons
def fj:=@List.getElem?_of_mem
def fm:=@List.mem_of_mem_drop
def fq:=@PyProof.Rows.listItems_at
def fB:=@PySem.wpAny_standAt
def fC:=@Option.isSome_iff_exists
def fD:=@PySem.wpAny_typeNameOf_keyiter
def fF:=@List.idxOf_lt_length_iff
def fG:=@PySem.F.slot_list_append
def fH:=@PySem.F.type_list_append
def fJ:=@PyProof.Rows.slot_tuple_getitem
def fK:=@beq_eq_false_iff_ne
def fL:=@PySem.mem_of_lookup
def fM:=@List.filter_eq_self
def fN:=@List.mem_map_of_mem
def fO:=@List.length_eq_zero_iff
def fP:=@List.mem_flatMap
def fQ:=@PySem.tupleKind_room_in1
def fR:=@PyProof.Rows.wpS_modify
def fS:=@List.getElem?_drop
def fV:=@Nat.not_lt_zero
def fW:=@Nat.lt_irrefl
def fX:=@List.any_cons
def fY:=@Int.add_assoc
def fZ:=@List.set_append_right
def f6:=@List.mem_append_left
def f7:=@PySem.wpAny_mono
def f9:=@PySem.Around.under_plainId
def f_:=@Option.map_map
def gb:=@Nat.pow_le_pow_right
def gc:=@PySem.wpAny_typeOf
def gf:=@List.lookup_cons
def gg:=@List.range'_succ
def gh:=@List.any_eq_true
def gp:=@PySem.Calls.call_function_entry
def gq:=@List.mem_of_find?_eq_some
def gr:=@PySem.Heap.SameBut.update
def gu:=@PySem.F.args_dict_keyiterator_next_1
def gv:=@List.getElem?_take_of_lt
def gw:=@PySem.F.args_tuple_add_2
def gz:=@Bool.false_or
def gA:=@PySem.F.entry_dict_keyiterator_next
def gB:=@PySem.F.slot_list_getattribute
def gC:=@List.sum_cons
def gD:=@List.Pairwise.imp_of_mem
def gE:=@List.forIn_cons
def gF:=@PySem.wpAny_pyIter_tuple
def gG:=@PySem.Obj.data_mapFields
def gH:=@List.find?_eq_none
def gI:=@Int.emod_lt_of_pos
def gJ:=@PySem.F.entry_tuple_add
def gK:=@PySem.wpAny_field
def gM:=@PySem.F.args_dict_get_3
def gO:=@Nat.one_mul
def gP:=@PySem.F.slot_tuple_add
def gQ:=@List.map_nil
def gR:=@List.range_succ_eq_map
def gS:=@List.all_map
def gT:=@Option.isSome_map
def gU:=@PySem.F.entry_dict_get
def gW:=@PyProof.Rows.wpS_get
def gY:=@List.take_succ_eq_append_getElem
def gZ:=@Nat.sub_self
def g_:=@PySem.Heap.get?_push_ne
def h_:=@Array.getElem?_eq_none
def ie:=@Nat.lt_of_succ_lt_succ
def ig:=@List.find?_map
def ir:=@Int.mul_zero
def iu:=@List.eraseIdxIfInBounds_toArray
def iw:=@PySem.Heap.get?_update_self
def iy:=@List.take_append_drop
def iz:=@PySem.wpAny_isOneOf_keyiter
def iA:=@Bool.and_eq_true
def iB:=@Nat.le_of_not_lt
def iC:=@PySem.Heap.size_update
def iD:=@Nat.add_assoc
def iE:=@Bool.or_eq_false_iff
def iF:=@PySem.wpAny_execs_nil
def iG:=@PySem.codeAny_builtin
def iH:=@List.find?_some
def iI:=@Int.emod_nonneg
def iJ:=@List.filterMap_cons
def iK:=@List.flatMap_append
def iL:=@PySem.codeAny_mono
def iM:=@List.map_set
def iN:=@PySem.wpAny_Call_Name_kw
def iO:=@List.zip_cons_cons
def iP:=@List.filterMap_map
def iQ:=@PySem.wpAny_setField
def iR:=@List.perm_ext_iff_of_nodup
def iS:=@PySem.wpAny_fieldsOf
def iT:=@List.getElem_idxOf
def iU:=@PySem.wpAny_pyIter_list
def iV:=@List.reverse_cons
def iW:=@PySem.wpAny_dictEntries
def iX:=@List.find?_isSome
def iY:=@List.isEmpty_cons
def iZ:=@PySem.Paired.length
def i6:=@PySem.wpAny_newList
def i7:=@List.zipIdx_cons
def i8:=@List.countP_cons
def i9:=@decide_eq_decide
def i_:=@List.isEmpty_nil
def ja:=@Nat.le_of_lt
def jb:=@PySem.call_meets
def jc:=@List.of_mem_zip
def jd:=@List.filter_map
def je:=@Nat.min_eq_left
def jf:=@Bool.and_false
def jg:=@List.drop_zero
def jh:=@Array.size_zip
def ji:=@List.forIn_nil
def jk:=@Nat.add_mul
def jl:=@List.foldl_map
def jm:=@List.map_id
@[reducible]def af:=PySem.Value
@[reducible]def ah:=PySem.World
@[reducible]def aj:=PySem.Program
@[reducible]def ak:=PySem.Addr
@[reducible]def aq:=PySem.Heap
@[reducible]def au:=PySem.W.Frag
@[reducible]def az:=PySem.Around
@[reducible]def aA:=PySem.Shared
@[reducible]def aC:=PySem.Expr
@[reducible]def aE:=PySem.Stmt
def anI{a b:Prop}(h:a)(k:b):a/\b:=⟨h,k⟩
open Array (size_map)
open Int (mul_one zero_mul)
open List (all_cons map_drop map_id' map_take)
open Nat (add_zero lt_trans ne_of_gt)
open Option (getD_none isSome_none isSome_some)
namespace L2
open PySem PySem.Spec PyProof.Rows
meta abbrev Key:=Sum Int Str
abbrev CQ:Key->af->Bool
 | .inl k,v=>Value.isInt k v
 | .inr x,v=>Value.isStrOf x v
abbrev abi (w:ah):Key->Int
 | .inl k=>hashInt k
 | .inr x=>hashStr w x
def lK:∀{k:Key}{v:af},CQ k v=true->(∃i t,k=Sum.inl i/\v=Value.int i t)\/(∃x t,k=Sum.inr x/\v=Value.str x t)
 | .inl i,v,h=>by
  obtain⟨t,e⟩:=Value.isInt_shape (k:=i) (v:=v) h;exact .inl ⟨i,t,rfl,e⟩
 | .inr x,v,h=>by
  obtain⟨t,e⟩:=Value.isStrOf_shape (x:=x) (v:=v) h;exact .inr ⟨x,t,rfl,e⟩
def LV(i:Int)(t:Tok):CQ (.inl i) (.int i t)=true:=by simp[CQ,Value.isInt]
def Mc(x:Str)(t:Tok):CQ (.inr x) (.str x t)=true:=by simp[CQ,Value.isStrOf]
def Xg(a b:Int):decide ((Sum.inl a:Key)=Sum.inl b)=(a == b):=by
 by_cases e:a=b
 ·subst e;simp
 ·have h:¬(Sum.inl a:Key)=Sum.inl b:=λq=>e (Sum.inl.inj q);rw[bw h];exact(fK.mpr e).symm
def XT(a b:Str):decide ((Sum.inr a:Key)=Sum.inr b)=decide (a=b):=by
 by_cases e:a=b
 ·subst e;simp
 ·have h:¬(Sum.inr a:Key)=Sum.inr b:=λq=>e (Sum.inr.inj q);rw[bw h,bw e]
def Xc(a:Int)(b:Str):decide ((Sum.inl a:Key)=Sum.inr b)=false:=bw (λq=>nomatch q)
def YG(a:Str)(b:Int):decide ((Sum.inr a:Key)=Sum.inl b)=false:=bw (λq=>nomatch q)
abbrev kh (prog:aj)(w:ah):PySem.KeyKind prog w Key where
 is:=CQ
 hash:=abi w
 inj:=λv a b ha hb=>by
  rcases lK ha with⟨i,t,rfl,rfl⟩|⟨x,t,rfl,rfl⟩
  ·rcases lK hb with⟨j,u,rfl,e⟩|⟨y,u,rfl,e⟩
   ·injection e with e1 _;rw[e1]
   ·exact nomatch e
  ·rcases lK hb with⟨j,u,rfl,e⟩|⟨y,u,rfl,e⟩
   ·exact nomatch e
   ·injection e with e1 _;rw[e1]
 byValue:=λk v h=>by
  rcases lK h with⟨i,t,rfl,rfl⟩|⟨x,t,rfl,rfl⟩<;>rfl
 pyHash:=λhv h=>by
  rcases lK hv with⟨i,t,rfl,rfl⟩|⟨x,t,rfl,rfl⟩
  ·exact wpAny_pyHash_int h
  ·exact wpAny_pyHash_str h
 eqBool:=λhu hv h=>by
  rcases lK hu with⟨i,t,rfl,rfl⟩|⟨x,t,rfl,rfl⟩
  ·rcases lK hv with⟨j,u,rfl,rfl⟩|⟨y,u,rfl,rfl⟩
   ·rw[Xg]at h;exact wpAny_eqBool_int h
   ·rw[Xc]at h;exact SeqAt.EqAt.int_str i t y u _ _ _ _ h
  ·rcases lK hv with⟨j,u,rfl,rfl⟩|⟨y,u,rfl,rfl⟩
   ·rw[YG]at h;exact SeqAt.EqAt.str_int x t j u _ _ _ _ h
   ·rw[XT]at h;exact wpAny_eqBool_str h
 «strs»:=λk x t v h=>by
  rcases lK h with⟨i,u,rfl,e⟩|⟨y,u,rfl,e⟩
  ·exact nomatch e
  ·injection e with e1 _
   subst e1
   cases v<;>rfl
def GA(prog:aj)(w:ah)(i:Int)(t:Tok):(kh prog w).is (.inl i) (.int i t)=true:=LV i t
def Fc(prog:aj)(w:ah)(x:Str)(t:Tok):(kh prog w).is (.inr x) (.str x t)=true:=Mc x t
inductive V where
 | non|bl (b:Bool)|int (i:Int)|str (x:Str)|byt (b:Array UInt8)|flt (b:UInt64)|ref (a:ak)|ty (n:String)
 deriving DecidableEq
abbrev RelV:V->af->Prop
 | .non,u=>u=Value.none
 | .bl b,u=>u=Value.bool b
 | .int i,u=>∃t,u=Value.int i t
 | .str x,u=>∃t,u=Value.str x t
 | .byt b,u=>∃t,u=Value.bytes b t
 | .flt b,u=>∃t,u=Value.float b t
 | .ref a,u=>u=Value.ref a
 | .ty n,u=>u=Value.type n
meta abbrev Vals:List V->ba->Prop:=Paired RelV
def Vals.length{xs:List V}{us:ba}(r:Vals xs us):xs.length=us.length:=iZ r
theorem Vals.get:∀{xs:List V}{us:ba}{i:Nat}{x:V},Vals xs us->xs[i]?=some x->∃u,us[i]?=some u/\RelV x u
 | _,_,_,_,.nil,e=>by simp at e
 | _,_,0,_,.cons r _,e=>by simp at e;subst e;exact⟨_,rfl,r⟩
 | _,_,i+1,x,.cons _ t,e=>by
  obtain⟨u,h1,h2⟩:=Vals.get (i:=i) (x:=x) t (by simpa using e);exact⟨u,by simpa using h1,h2⟩
theorem Vals.set{x:V}(r:RelV x u):∀{xs:List V}{us:ba}(i:Nat),Vals xs us->Vals (xs.set i x) (us.set i u)
 | _,_,_,.nil=>.nil
 | _,_,0,.cons _ t=>.cons r t
 | _,_,i+1,.cons q t=>.cons q (Vals.set r i t)
theorem Vals.append:∀{xs ys:List V}{us ws:ba},Vals xs us->Vals ys ws->Vals (xs++ys) (us++ws)
 | _,_,_,_,.nil,s=>s
 | _,_,_,_,.cons r t,s=>.cons r (Vals.append t s)
theorem Vals.take:∀{xs:List V}{us:ba}(n:Nat),Vals xs us->Vals (xs.take n) (us.take n)
 | _,_,0,_=>.nil
 | _,_,_+1,.nil=>.nil
 | _,_,n+1,.cons r t=>.cons r (Vals.take n t)
theorem Vals.drop:∀{xs:List V}{us:ba}(n:Nat),Vals xs us->Vals (xs.drop n) (us.drop n)
 | _,_,0,r=>r
 | _,_,_+1,.nil=>.nil
 | _,_,n+1,.cons _ t=>Vals.drop n t
abbrev zk:Option V->bi->Prop
 | some v,some u=>RelV v u
 | none,none=>True
 | _,_=>False
abbrev KV {κ:Type}:List (κ×V)->List (κ×af)->Prop:=Paired λ(p:κ×V) (q:κ×af)=>p.1=q.1/\RelV p.2 q.2
abbrev kV:Key->V
 | .inl i=>.int i
 | .inr x=>.str x
inductive HO where
 | lst (xs:List V)
 | tup (xs:List V)
 | dK (kvs:List (Key×V))|dT (kvs:List (List Key×V))
 | set (S:Int->Bool) (n:Nat)
 | ins (C dx:ak) (fs:List (Str×V))
 | own (x:ak)
 | xd (fs:List (Str×V))
 | met (f x:ak)
 | rng (lo hi:Int)
 | frz (o:Obj) (u:HO)
 | tbl (ps:Array af)
 | ext (φ:aq->Prop)
meta abbrev Hp:=ak->Option HO
abbrev upd (H:Hp)(a:ak)(o:HO):Hp:=λb=>if b=a then some o else H b
def kP{H:Hp}{a:ak}:upd H a o a=some o:=by unfold upd;rw[aK rfl]
def jH{H:Hp}{a:ak}(h:b≠a):upd H a o b=H b:=by unfold upd;rw[aJ h]
def ZA{H:Hp}{a:ak}(h:H a=some o)(h':H b=some u)(d:o≠u):a≠b:=by
 intro e;subst e;rw[h]at h';exact d (a_ h')
def jP{H:Hp}{a:ak}(h:H a=some o)(h':H b=none):a≠b:=by
 intro e;subst e;rw[h]at h';cases h'
abbrev qc (h:aq)(a:ak)(items:Array af):Prop:=∃o,h.get? a=some o/\o.cls=.type "tuple" /\ o.dict=none/\∃n,o.data=.seq items n
def qc.tup{a:ak}:qc h a items->IsTup h a items:=λ⟨o,e,c,_,n,d⟩=>⟨o,e,c,n,d⟩
def qc.new(h:aq)(items:Array af):qc (h.push { cls:=.type "tuple",data:=.seq items }) h.objs.size items:=⟨_,bC _ rfl,rfl,rfl,_,rfl⟩
def qc.lt{h:aq}{a:ak}(x:qc h a items):a<h.objs.size:=let⟨_,ho,_⟩:=x;bg ho
section
variable (P:aj) (w:ah)
abbrev lW (H:Hp)(h:aq)(a:ak):HO->Prop
 | .lst xs=>xs.length<=sizeLine/\∃(its:ba) (n:Nat),Vals xs its/\h.get? a=some { cls:=.type "list",data:=.seq its.toArray n }
 | .tup xs=>xs.length<=sizeLine/\∃its:ba,Vals xs its/\qc h a its.toArray
 | .dK kvs=>kvs.length<=sizeLine/\(a == sysModules)=false/\∃vs,KV kvs vs/\h.DictOf (kh P w) a vs
 | .dT kvs=>kvs.length<=sizeLine/\(a == sysModules)=false/\∃xs:List (List Key×ak×af),
   Paired (λ(p:List Key×V) (q:List Key×ak×af)=>p.1=q.1/\H q.2.1=some (.tup (p.1.map kV))/\RelV p.2 q.2.2) kvs xs /\
   ∃o es ep,h.get? a=some o/\o.ExactDict/\o.data=.dict es ep/\es.toList=xs.map (entryOfKey (tupleKind (kh P w)))/\(xs.map (·.1)).Nodup
 | .set S n=>h.SetOf (intKind P w) a S n
 | .ins C dx fs=>H dx=some (.own a)/\fs.length<=1000/\dx≠a/\h.get? a=some (PySem.W.instObj C dx) /\
   ∃mA,h.Ns1 dx mA/\(∀f,zk (fs.lookup f) (mA f))/\PySem.Within mA (fs.map (·.1))
 | .own _=>∃o,h.get? a=some o
 | .xd fs=>∃mA,h.Ns1 a mA/\∀f,zk (fs.lookup f) (mA f)
 | .rng lo hi=>∃t u v,h.get? a=some { cls:=.type "range",data:=.fields #[.int lo t,.int hi u,.int 1 v]}
 | .frz o u=>h.get? a=some o/\lW H h a u
 | .tbl ps=>h.get? a=some { cls:=.none,data:=.fields ps }
 | .met f x=>h.get? a=some (PySem.W.methodObj (.ref f) (.ref x))
 | .ext φ=>φ h/\(∃o,h.get? a=some o)/\∀h1 h2:aq,φ h1->(∀o,h1.get? a=some o->h2.get? a=some o)->φ h2
abbrev xH (H:Hp)(h:aq):Prop:=∀a o,H a=some o->lW P w H h a o
end
section
variable {P:aj}{w:ah}{H H':Hp}{h h':aq}{a:ak}{o:HO}
def lW.lt(x:lW P w H h a o):a<h.objs.size:=by
 cases o with
 | lst xs=>obtain⟨_,_,_,_,e⟩:=x;exact bg e
 | tup xs=>obtain⟨_,_,_,p⟩:=x;exact qc.lt p
 | dK kvs=>obtain⟨_,_,_,_,o,_,_,e,_⟩:=x;exact bg e
 | dT kvs=>obtain⟨_,_,_,_,o,_,_,e,_⟩:=x;exact bg e
 | set S n=>obtain⟨o,_,_,_,e,_⟩:=x;exact bg e
 | ins C dx fs=>obtain⟨_,_,_,e,_⟩:=x;exact bg e
 | own y=>obtain⟨_,e⟩:=x;exact bg e
 | xd fs=>obtain⟨_,⟨_,_,_,e,_⟩,_⟩:=x;exact bg e
 | rng lo hi=>obtain⟨_,_,_,e⟩:=x;exact bg e
 | frz ob u=>obtain⟨e,_⟩:=x;exact bg e
 | tbl ps=>exact bg (show h.get? a=some _ from x)
 | met f y=>exact bg (show h.get? a=some _ from x)
 | ext φ=>obtain⟨_,⟨_,e⟩,_⟩:=x;exact bg e
theorem Paired.WV{α β:Type}{F G:α->β->Prop}:∀{l₁:List α}{l₂:List β},Paired F l₁ l₂->(∀a b,F a b->G a b)->Paired G l₁ l₂
 | _,_,.nil,_=>.nil
 | _,_,.cons r t,f=>.cons (f _ _ r) (Paired.WV t f)
def lW.stay(x:lW P w H h a o)(k:∀b u,(b=a\/H b=some (.own a))->h.get? b=some u->h'.get? b=some u)
  (ho:∀b,H b=some (.own a)->H' b=some (.own a)) (ht:∀b xs,H b=some (.tup xs)->H' b=some (.tup xs)):lW P w H' h' a o:=by
 induction o with
 | lst xs=>obtain⟨z,its,n,r,e⟩:=x;exact⟨z,its,n,r,k _ _ (.inl rfl) e⟩
 | tup xs=>obtain⟨z,its,r,ob,e,c⟩:=x;exact⟨z,its,r,ob,k _ _ (.inl rfl) e,c⟩
 | dK kvs=>obtain⟨z,y,vs,r,ob,es,ep,e,c⟩:=x;exact⟨z,y,vs,r,ob,es,ep,k _ _ (.inl rfl) e,c⟩
 | dT kvs=>
  obtain⟨z,y,xs,r,ob,es,ep,e,c⟩:=x;exact⟨z,y,xs,Paired.WV r λp q z=>⟨z.1,ht _ _ z.2.1,z.2.2⟩,ob,es,ep,k _ _ (.inl rfl) e,c⟩
 | set S n=>obtain⟨ob,es,ep,t,e,c⟩:=x;exact⟨ob,es,ep,t,k _ _ (.inl rfl) e,c⟩
 | ins C dx fs=>
  obtain⟨d,z,ne,e,mA,⟨od,es,ep,e2,c⟩,r⟩:=x;exact⟨ho _ d,z,ne,k _ _ (.inl rfl) e,mA,⟨od,es,ep,k _ _ (.inr d) e2,c⟩,r⟩
 | own y=>obtain⟨ob,e⟩:=x;exact⟨ob,k _ _ (.inl rfl) e⟩
 | xd fs=>obtain⟨mA,⟨od,es,ep,e,c⟩,r⟩:=x;exact⟨mA,⟨od,es,ep,k _ _ (.inl rfl) e,c⟩,r⟩
 | rng lo hi=>obtain⟨t,u,v,e⟩:=x;exact⟨t,u,v,k _ _ (.inl rfl) e⟩
 | frz ob u ih=>obtain⟨e,q⟩:=x;exact⟨k _ _ (.inl rfl) e,ih q⟩
 | tbl ps=>
  have e:h.get? a=some { cls:=.none,data:=.fields ps }:=x
  skip
  exact k a _ (.inl rfl) e
 | met f y=>
  have e:h.get? a=some (PySem.W.methodObj (.ref f) (.ref y)):=x
  skip
  exact k a _ (.inl rfl) e
 | ext φ=>obtain⟨p,⟨o,e⟩,st⟩:=x;exact⟨st _ _ p λo q=>k _ _ (.inl rfl) q,⟨o,k _ _ (.inl rfl) e⟩,st⟩
def xH.lt(x:xH P w H h)(e:H a=some o):a<h.objs.size:=(x a o e).lt
def xH.fresh(x:xH P w H h)(e:h.objs.size<=a):H a=none:=by
 cases q:H a with
 | none=>rfl
 | some u=>exact absurd (bV (x.lt q) e) (fW _)
def xH.kept(x:xH P w H h)(k:∀b u,h.get? b=some u->h'.get? b=some u):xH P w H h':=λa o e=>
 (x a o e).stay (λb u _ q=>k b u q) (λ_ q=>q) λ_ _ q=>q
def xH.laid(x:xH P w H h)(k:∀b u,h.get? b=some u->h'.get? b=some u)(hp:h.objs.size<=a)(new:lW P w (upd H a o) h' a o):xH P w (upd H a o) h':=λb u e=>by
 have hn:=x.fresh hp;by_cases hb:b=a
 ·subst hb;rw[kP]at e;cases e;exact new
 ·rw[jH hb]at e;exact(x b u e).stay (λc v _ q=>k c v q) (λc q=>by rw[jH (jP q hn)];exact q) λc xs q=>by rw[jH (jP q hn)];exact q
end
abbrev Rd (H:Hp)(a:ak)(u:HO):Prop:=H a=some u\/∃o,H a=some (.frz o u)
def Rd.ok{P:aj}{w:ah}{H:Hp}{a:ak}(r:Rd H a u)(x:xH P w H h):lW P w H h a u:=by
 rcases r with r|⟨o,r⟩
 ·exact x a u r
 ·obtain⟨_,q⟩:=x a _ r;exact q
abbrev Zv:Option HO->Prop
 | some (.lst _)=>True
 | some (.dK _)=>True
 | some (.dT _)=>True
 | some (.set _ _)=>True
 | some (.ins _ _ _)=>True
 | some (.ext _)=>True
 | _=>False
section
variable {P:aj}{w:ah}{H:Hp}{h h':aq}{x e:ak}{o':HO}
def xH.write(ok:xH P w H h)(mu:Zv (H x))(he:e=x\/H e=some (.own x))(k:∀b u,b≠e->h.get? b=some u->h'.get? b=some u)(heo:∃u,h'.get? e=some u)
  (new:lW P w (upd H x o') h' x o'):xH P w (upd H x o') h':=λb u q=>by
 have nown:∀c y,H c=some (.own y)->c≠x:=λc y r z=>by subst z;rw[r]at mu;exact mu
 have ntup:∀c xs,H c=some (.tup xs)->c≠x:=λc xs r z=>by subst z;rw[r]at mu;exact mu
 by_cases hb:b=x
 ·subst hb;rw[kP]at q;cases q;exact new
 ·rw[jH hb]at q;by_cases hbe:b=e
  ·have q':H b=some (.own x):=by
    rcases he with z|z
    ·exact absurd (hbe.trans z) hb
    ·rw[hbe];exact z
   rw[q]at q';cases q';obtain⟨v,hv⟩:=heo;exact⟨v,by rw[hbe];exact hv⟩
  ·refine(ok b u q).stay (λc v hc r=>k c v ?_ r) (λc r=>by rw[jH (nown c b r)];exact r) λc xs r=>by rw[jH (ntup c xs r)];exact r
   rcases hc with rfl|hc
   ·exact hbe
   ·rintro rfl
    rcases he with z|z
    ·exact nown c b hc z
    ·rw[hc]at z;cases z;exact hb rfl
end
structure Un (fs ex:bd)(H H':Hp)(h h':aq):Prop where
 keep:∀b o,h.get? b=some o->H b=none->b∉fs->b∉ex->h'.get? b=some o
 slot:∀b o,h.get? b=some o->H b=none->b∈fs->b∉ex->∃sl,h'.get? b=some { o with slots:=sl }
 free:∀b o,h.get? b=some o->H b=none->b∉ex->H' b=none
 there:∀b o,h.get? b=some o->b∉ex->∃o',h'.get? b=some o'
 tups:∀b xs,H b=some (.tup xs)->H' b=some (.tup xs)
 frzs:∀b o u,H b=some (.frz o u)->H' b=some (.frz o u)
 tbls:∀b ps,H b=some (.tbl ps)->∃more,H' b=some (.tbl (ps++more))
section
variable {fs ex:bd}{H H1:Hp}{h h1 h':aq}{a x e:ak}{o:HO}
def Un.any(u:Un fs ex H H1 h h1){ob:Obj}(q:h.get? b=some ob)(n:H b=none)(hx:b∉ex):∃sl,h1.get? b=some { ob with slots:=sl }:=by
 by_cases hb:b∈fs
 ·exact u.slot b ob q n hb hx
 ·exact⟨ob.slots,u.keep b ob q n hb hx⟩
def Un.kept(k:∀b u,h.get? b=some u->h'.get? b=some u):Un fs ex H H h h':=
 ⟨λb ob q _ _ _=>k b ob q,λb ob q _ _ _=>⟨ob.slots,k b ob q⟩,λ_ _ _ n _=>n,λb ob q _=>⟨ob,k b ob q⟩,λ_ _ q=>q,λ_ _ _ q=>q,λ_ ps q=>⟨#[],by rw[q];simp⟩⟩
def Un.refl:Un fs ex H H h h:=Un.kept λ_ _ q=>q
def Un.laid(k:∀b u,h.get? b=some u->h'.get? b=some u)(hp:h.objs.size<=a)(hn:H a=none):Un fs ex H (upd H a o) h h' where
 keep:=λb u q _ _ _=>k b u q
 slot:=λb u q _ _ _=>⟨u.slots,k b u q⟩
 free:=λb u q n _=>by rw[jH (bD (bV (bg q) hp))];exact n
 there:=λb u q _=>⟨u,k b u q⟩
 tups:=λb xs q=>by rw[jH (jP q hn)];exact q
 frzs:=λb u xs q=>by rw[jH (jP q hn)];exact q
 tbls:=λb ps q=>⟨#[],by rw[jH (jP q hn),q];simp⟩
def Un.write(mu:Zv (H x))(he:e=x\/H e=some (.own x))(k:∀b u,b≠e->h.get? b=some u->h'.get? b=some u)(heo:∃u,h'.get? e=some u):Un fs ex H (upd H x o) h h':=by
 have hx:∀b,H b=none->b≠x:=λb n z=>by subst z;rw[n]at mu;exact mu
 have hb:∀b,H b=none->b≠e:=λb n z=>by
  subst z
  rcases he with r|r
  ·exact hx b n r
  ·rw[n]at r;cases r
 have hm:∀b u,H b=some u->¬Zv (some u)->b≠x:=λb u q nm z=>by subst z;rw[q]at mu;exact nm mu
 refine⟨λb u q n _ _=>k b u (hb b n) q,λb u q n _ _=>⟨u.slots,k b u (hb b n) q⟩,λb u q n _=>by rw[jH (hx b n)];exact n,λb u q _=>?_,
  λb xs q=>by rw[jH (hm b _ q λz=>z)];exact q,λb u xs q=>by rw[jH (hm b _ q λz=>z)];exact q,λb ps q=>⟨#[],by rw[jH (hm b _ q λz=>z),q];simp⟩⟩
 by_cases hbe:b=e
 ·subst hbe;exact heo
 ·exact⟨u,k b u hbe q⟩
end
abbrev trk (h:aq)(H:Hp):bd:=(List.range h.objs.size).filter λa=>(H a).isSome
abbrev EE (h:aq)(H:Hp):aq:=PySem.W.hideAll h (trk h H)
def MS(h:aq)(H:Hp):(EE h H).objs.size=h.objs.size:=PySem.W.hideAll_size _ _
def P_{h:aq}{H:Hp}(e:h.get? b=some o)(n:H b=none):(EE h H).get? b=some o:=
 PySem.W.hideAll_get _ e λhm=>by
  have q:(H b).isSome=true:=(cQ.mp hm).2;rw[n]at q;simp at q
def Uz{h:aq}{H:Hp}(e:(EE h H).get? b=some o):h.get? b=some o/\H b=none:=by
 have e':h.get? b=some o:=PySem.W.of_hideAll (trk h H) e;refine⟨e',?_⟩
 cases q:H b with
 | none=>rfl
 | some x=>
  have hm:b∈trk h H:=cQ.mpr ⟨cU.mpr (bg e'),by simp[q]⟩;have z:(EE h H).get? b=none:=PySem.W.hideAll_none (trk h H) hm;rw[z]at e;cases e
abbrev SM (g h:aq)(L:ak):bv:=(List.range h.objs.size).filterMap λa=>if a=L\/(g.get? a).isSome=true then none else(h.get? a).map λo=>(a,o)
abbrev rest (g h:aq)(L d:ak):bv:=(SM g h L).filter λp=>decide (p.1≠d)
structure Mod (K:au)(mg:Str->bi)(base:aq):Prop where
 kin:K.In base
 glob:base.Ns mainGlobals mg
 blt:∃mb,base.Ns builtinsNs mb/\∀x:Str,x ≠ "__name__" -> mb x=bootBuiltins x
 nolimit:base.NoLimit
structure Cx where
 prog:aj
 w:ah
 K:au
 mg:Str->bi
 base:aq
 A:az
 N:ar
 s₀:aA
 H₀:Hp
 env:Env
 outer:List Env
 stack:List Env
 ex:bd
 fn:Str->Bool
 calm:Bool
 pn:bv
 xe:af->aA->Prop
abbrev frs (l:List Env):bd:=l.filterMap (·.frame)
meta abbrev Cx.fs (X:Cx):bd:=frs X.outer
abbrev Zm (sc:Scope)(x:Str):Prop:=sc.names.lookup x=some .local\/sc.names.lookup x=some .cell\/sc.names.lookup x=some .free
abbrev Loc (sc:Scope)(x:Str):Prop:=sc.names.lookup x=some .local\/sc.names.lookup x=some .cell
abbrev Look (env:Env)(h:aq)(m:Str->bi)(x:Str)(u:af):Prop:=
 (env.kindOf x=some .local/\m x=some u)\/((env.kindOf x=some .cell\/env.kindOf x=some .free)/\∃c,env.cells.lookup x=some c/\h.IsCell c (some u))
structure Cx.Ok (X:Cx):Prop where
 mod:Mod X.K X.mg X.base
 kind:X.env.scope.kind=.function
 glob:X.env.globals=mainGlobals
 blt:X.env.builtins=builtinsNs
 above:X.s₀.heap.objs.size<=X.env.locals
 inj:∀x y c,X.env.cells.lookup x=some c->X.env.cells.lookup y=some c->x=y
 has:∀x,(X.env.kindOf x=some .cell\/X.env.kindOf x=some .free)->∃c,X.env.cells.lookup x=some c
 cab:∀x c,X.fn x=true->X.env.cells.lookup x=some c->X.s₀.heap.objs.size<=c
 hd:X.calm=true->X.A.handled=none
 frames:X.A.frames=some X.stack
 stk:X.stack=X.outer\/(X.stack=X.env::X.outer/\X.env.frame=some X.env.locals)
 exf:∀b∈X.ex,b≠X.env.locals/\∀x c,X.env.cells.lookup x=some c->c≠b
 bs:∀b o,X.base.get? b=some o->X.s₀.heap.get? b=some o/\X.H₀ b=none
 bsz:X.base.objs.size<=X.s₀.heap.objs.size
 noex:∀b o,X.base.get? b=some o->b∉X.ex
 exfs:∀b∈X.ex,b∉X.fs
 AX:X.s₀.heap.FunFrames X.base X.outer
 frf:∀b∈X.fs,X.H₀ b=none
structure Inv (X:Cx)(pins:bv)(σ:List (Option V))(H:Hp)(s:aA):Prop where
 ok:X.Ok
 os:s.os=X.s₀.os
 bare:AllBare s.gens
 base:Un X.fs X.ex X.H₀ H X.s₀.heap s.heap
 loc:∃m,s.heap.Ns X.env.locals m/\∀(i:Nat) (x:Str) (v:V),X.N[i]?=some x->σ[i]?=some (some v)->Zm X.env.scope x->∃u,RelV v u/\Look X.env s.heap m x u
 cell:∀x c,X.env.cells.lookup x=some c->∃v,s.heap.IsCell c v
 free:H X.env.locals=none
 freeC:∀x c,X.env.cells.lookup x=some c->H c=none
 pin:∀p∈X.pn++pins,s.heap.get? p.1=some p.2/\H p.1=none/\p.1≠X.env.locals/\p.1∉X.fs/\∀v,p.2.data≠.cell v
 hok:xH X.prog X.w H s.heap
 len:σ.length=X.N.length
section
variable {X:Cx}{pins:bv}{σ:List (Option V)}{H H':Hp}{s:aA}{h':aq}
def Cx.Ok.abh(ok:X.Ok)(e:X.base.get? b=some o):b∉X.fs:=λhb=>by
 have:=(ok.AX.mem hb).1;rw[e]at this;cases this
def Inv.bs(I:Inv X pins σ H s):∀b o,X.base.get? b=some o->s.heap.get? b=some o/\H b=none:=λb o e=>
 ⟨I.base.keep b o (I.ok.bs b o e).1 (I.ok.bs b o e).2 (I.ok.abh e) (I.ok.noex b o e),I.base.free b o (I.ok.bs b o e).1 (I.ok.bs b o e).2 (I.ok.noex b o e)⟩
def Inv.bk(I:Inv X pins σ H s):∀b o,X.base.get? b=some o->s.heap.get? b=some o:=λb o e=>(I.bs b o e).1
def Inv.mod(I:Inv X pins σ H s):Mod X.K X.mg X.base:=I.ok.mod
def Inv.E6(I:Inv X pins σ H s):X.K.In s.heap:=I.ok.mod.kin.keeps I.bk
def Inv.lt(I:Inv X pins σ H s):X.env.locals<s.heap.objs.size:=let⟨_,hn,_⟩:=I.loc;hn.lt
def Inv.sz(I:Inv X pins σ H s):X.s₀.heap.objs.size<=s.heap.objs.size:=bJ I.ok.above (ja I.lt)
def Inv.abm(I:Inv X pins σ H s){a:ak}(h:s.heap.objs.size<=a):a∉X.fs:=λhb=>by
 obtain⟨_,o,ho,_⟩:=I.ok.AX.mem hb;exact absurd (bV (bg ho) (bJ I.sz h)) (fW _)
def Inv.X4(I:Inv X pins σ H s):∀x c,X.env.cells.lookup x=some c->c≠X.env.locals:=λx c e z=>by
 obtain⟨v,o,ho,hd⟩:=I.cell x c e;obtain⟨m,⟨o',es,ep,ho',hd',_⟩,_⟩:=I.loc;rw[z,ho']at ho;cases ho;rw[hd']at hd;cases hd
def Inv.AX(I:Inv X pins σ H s):s.heap.FunFrames X.base X.outer:=by
 have all:∀(l:List Env),(∀b∈frs l,b∈X.fs)->X.s₀.heap.FunFrames X.base l->s.heap.FunFrames X.base l:=by
  intro l
  induction l with
  | nil=>intro _ _;trivial
  | cons env r ih=>
   intro hs hl;obtain⟨hk,⟨L,o,hf,hn,ho,hd⟩,hr⟩:=hl;have hL:L∈X.fs:=hs L (by unfold frs;rw[iJ,hf];exact aM);obtain⟨sl,e⟩:=I.base.slot L o ho (I.ok.frf L hL) hL λz=>I.ok.exfs L z hL;exact⟨hk,⟨L,_,hf,hn,e,hd⟩,ih (λb hb=>hs b (by unfold frs;rw[iJ,hf];exact aN _ hb)) hr⟩
 exact all X.outer (λ_ hb=>hb) I.ok.AX
def Inv.stack(I:Inv X pins σ H s):s.heap.FunFrames X.base X.stack:=by
 rcases I.ok.stk with e|⟨e,hf⟩
 ·rw[e];exact I.AX
 ·rw[e];obtain⟨m,hn,_⟩:=I.loc;refine .cons (by rw[I.ok.kind];decide) hf hn ?_ I.AX;exact Heap.get?_none_of_le (bJ I.ok.bsz I.ok.above)
def Inv.HU(I:Inv X pins σ H s):∀b∈frs X.stack,b∈X.env.locals::X.fs:=λb hb=>by
 rcases I.ok.stk with e|⟨e,hf⟩
 ·rw[e]at hb;exact aN _ hb
 ·rw[e]at hb;unfold frs at hb;rw[iJ,hf]at hb;exact hb
def Inv.LA(I:Inv X pins σ H s):∀b∈frs X.stack,H b=none:=λb hb=>by
 rcases bF.mp (I.HU b hb)with e|hb
 ·rw[e];exact I.free
 ·obtain⟨_,o,ho,_⟩:=I.ok.AX.mem hb;exact I.base.free b o ho (I.ok.frf b hb) λz=>I.ok.exfs b z hb
def Inv.step{g':Array GenState}{t':Nat}{d':Drawn}{ch:bd}(I:Inv X pins σ H s)
  (hch:∀b∈ch,(b∈X.ex\/X.s₀.heap.objs.size<=b)/\b≠X.env.locals/\(∀x c,X.env.cells.lookup x=some c->c≠b)/\∀p∈X.pn++pins,p.1≠b)
  (keep:∀b o,b≠X.env.locals->b∉X.fs->b∉ch->s.heap.get? b=some o->H b=none->h'.get? b=some o)
  (slot:∀b o,b≠X.env.locals->b∈X.fs->b∉ch->s.heap.get? b=some o->H b=none->∃sl,h'.get? b=some { o with slots:=sl }) (free:∀b o,b∉ch->s.heap.get? b=some o->H b=none->H' b=none)
  (there:∀b o,b∉ch->s.heap.get? b=some o->∃o',h'.get? b=some o')
  (tups:∀b xs,H b=some (.tup xs)->H' b=some (.tup xs)) (frzs:∀b o u,H b=some (.frz o u)->H' b=some (.frz o u)) (tbls:∀b ps,H b=some (.tbl ps)->∃more,H' b=some (.tbl (ps++more)))
  (ns:∀m,s.heap.Ns X.env.locals m->h'.Ns X.env.locals m) (hok:xH X.prog X.w H' h') (hg:AllBare g') :
  Inv X pins σ H' { s with heap:=h',gens:=g',drawn:=d',toks:=t' }:=by
 have neL:∀b o,X.s₀.heap.get? b=some o->b≠X.env.locals:=λb o e=>bD (bV (bg e) I.ok.above);have neC:∀b o,X.s₀.heap.get? b=some o->b∉X.ex->b∉ch:=λb o e hx hb=>by
  rcases(hch b hb).1 with z|z
  ·exact hx z
  ·exact absurd (bV (bg e) z) (fW _)
 have cellK:∀x c,X.env.cells.lookup x=some c->∀v,s.heap.IsCell c v->h'.IsCell c v:=λx c e v ⟨o,ho,hd⟩=>by
  have nch:c∉ch:=λz=>(hch c z).2.2.1 x c e rfl;by_cases hc:c∈X.fs
  ·obtain⟨sl,q⟩:=slot c o (I.X4 x c e) hc nch ho (I.freeC x c e);exact⟨_,q,hd⟩
  ·exact⟨o,keep c o (I.X4 x c e) hc nch ho (I.freeC x c e),hd⟩
 refine⟨I.ok,I.os,hg,⟨λb o e n hb hx=>?_,λb o e n hb hx=>?_,λb o e n hx=>?_,λb o e hx=>?_,λb xs e=>tups b xs (I.base.tups b xs e),λb o xs e=>frzs b o xs (I.base.frzs b o xs e),λb ps e=>?_⟩,?_,λx c e=>?_,?_,λx c e=>?_,λp hp=>?_,hok,I.len⟩
 ·exact keep b o (neL b o e) hb (neC b o e hx) (I.base.keep b o e n hb hx) (I.base.free b o e n hx)
 ·obtain⟨sl,e1⟩:=I.base.slot b o e n hb hx;obtain⟨sl',e2⟩:=slot b _ (neL b o e) hb (neC b o e hx) e1 (I.base.free b o e n hx);exact⟨sl',e2⟩
 ·obtain⟨o',e1⟩:=I.base.there b o e hx;exact free b o' (neC b o e hx) e1 (I.base.free b o e n hx)
 ·obtain⟨o',e1⟩:=I.base.there b o e hx;exact there b o' (neC b o e hx) e1
 ·obtain⟨m1,e1⟩:=I.base.tbls b ps e;obtain⟨m2,e2⟩:=tbls b _ e1;exact⟨m1++m2,by rw[e2,Array.append_assoc]⟩
 ·obtain⟨m,hn,hl⟩:=I.loc;refine⟨m,ns m hn,λi x v e1 e2 e3=>?_⟩;obtain⟨u,r,l⟩:=hl i x v e1 e2 e3;refine⟨u,r,?_⟩
  rcases l with l|⟨k,c,e,z⟩
  ·exact .inl l
  ·exact .inr ⟨k,c,e,cellK x c e _ z⟩
 ·obtain⟨v,z⟩:=I.cell x c e;exact⟨v,cellK x c e v z⟩
 ·obtain⟨m,⟨o,_,_,ho,_⟩,_⟩:=I.loc;exact free _ o (λz=>(hch _ z).2.1 rfl) ho I.free
 ·obtain⟨v,o,ho,hd⟩:=I.cell x c e;exact free c o (λz=>(hch c z).2.2.1 x c e rfl) ho (I.freeC x c e)
 ·obtain⟨e,n,ne,nf,d⟩:=I.pin p hp;have nch:p.1∉ch:=λz=>(hch p.1 z).2.2.2 p hp rfl;exact⟨keep p.1 p.2 ne nf nch e n,free p.1 p.2 nch e n,ne,nf,d⟩
def Inv.un{t':Nat}(I:Inv X pins σ H s)(u:Un X.fs [] H H' s.heap h')(hok:xH X.prog X.w H' h'):Inv X pins σ H' { s with heap:=h',toks:=t' }:=by
 obtain⟨m,⟨o,es,ep,ho,r⟩,_⟩:=id I.loc;obtain⟨sl,hL⟩:=u.any ho I.free (by simp);exact I.step (g':=s.gens) (d':=s.drawn) (ch:=[]) (nofun) (λb o _ hb _ e n=>u.keep b o e n hb (by simp)) (λb o _ hb _ e n=>u.slot b o e n hb (by simp)) (λb o _ e n=>u.free b o e n (by simp)) (λb o _ e=>u.there b o e (by simp)) u.tups u.frzs u.tbls (λm' hm=>by
  obtain⟨o',es',ep',ho',r'⟩:=hm;rw[ho]at ho';cases ho';exact⟨_,es',ep',hL,r'⟩) hok I.bare
def Inv.call{g':Array GenState}{t':Nat}{d':Drawn}{ch:bd}(I:Inv X pins σ H s)(u:Un (frs X.stack) ch H H' s.heap h')(hok:xH X.prog X.w H' h')(hg:AllBare g')
  (hch:∀b∈ch,(b∈X.ex\/X.s₀.heap.objs.size<=b)/\b≠X.env.locals/\(∀x c,X.env.cells.lookup x=some c->c≠b)/\∀p∈X.pn++pins,p.1≠b) :
  Inv X pins σ H' { s with heap:=h',gens:=g',drawn:=d',toks:=t' }:=by
 obtain⟨m,⟨o,es,ep,ho,r⟩,_⟩:=id I.loc;obtain⟨sl,hL⟩:=u.any ho I.free λz=>(hch _ z).2.1 rfl;exact I.step (ch:=ch) hch (λb o hL hb hc e n=>u.keep b o e n (λz=>(bF.mp (I.HU b z)).elim hL hb) hc) (λb o _ _ hc e n=>u.any e n hc) (λb o hc e n=>u.free b o e n hc) (λb o hc e=>u.there b o e hc) u.tups u.frzs u.tbls (λm' hm=>by
  obtain⟨o',es',ep',ho',r'⟩:=hm;rw[ho]at ho';cases ho';exact⟨_,es',ep',hL,r'⟩) hok hg
def Inv.turned{t':Nat}{it:ak}(I:Inv X pins σ H s)(k:∀b o,b≠it->s.heap.get? b=some o->h'.get? b=some o)(hn:H it=none)(hL:it≠X.env.locals)
  (h1:it∈X.ex\/X.s₀.heap.objs.size<=it) (h2:∀x c,X.env.cells.lookup x=some c->c≠it) (h3:∀p∈X.pn++pins,p.1≠it):Inv X pins σ H { s with heap:=h',toks:=t' }:=by
 have nit:∀b u,H b=some u->b≠it:=λb u e z=>by rw[z,hn]at e;cases e
 refine I.step (g':=s.gens) (d':=s.drawn) (ch:=[it]) (λb hb=>?_) (λb o _ _ hc e _=>k b o (λz=>hc (by simp[z])) e) (λb o _ _ hc e _=>⟨o.slots,k b o (λz=>hc (by simp[z])) e⟩) (λ_ _ _ _ n=>n)
  (λb o hc e=>⟨o,k b o (λz=>hc (by simp[z])) e⟩) (λ_ _ e=>e) (λ_ _ _ e=>e) (λb ps e=>⟨#[],by rw[e];simp⟩) (λm hm=>?_) (λb u e=>?_) I.bare
 ·have e:b=it:=by simpa using hb
  subst e;exact⟨h1,hL,h2,h3⟩
 ·obtain⟨o,es,ep,ho,r⟩:=hm;exact⟨o,es,ep,k _ o (dw hL) ho,r⟩
 ·refine(I.hok b u e).stay (λc v hc q=>k c v ?_ q) (λ_ q=>q) λ_ _ q=>q
  rcases hc with z|z
  ·rw[z];exact nit b u e
  ·exact nit c _ z
def Inv.tok(I:Inv X pins σ H s)(t:Nat):Inv X pins σ H { s with toks:=t }:=I.un (h':=s.heap) (t':=t) Un.refl I.hok
def Inv.kept{t':Nat}(I:Inv X pins σ H s)(k:∀b u,s.heap.get? b=some u->h'.get? b=some u):Inv X pins σ H { s with heap:=h',toks:=t' }:=I.un (Un.kept k) (I.hok.kept k)
def Inv.laid{a:ak}{t':Nat}(I:Inv X pins σ H s)(k:∀b u,s.heap.get? b=some u->h'.get? b=some u)(hp:s.heap.objs.size<=a)(new:lW X.prog X.w (upd H a o) h' a o) :
  Inv X pins σ (upd H a o) { s with heap:=h',toks:=t' }:=I.un (Un.laid k hp (I.hok.fresh hp)) (I.hok.laid k hp new)
def Inv.write{x e:ak}{t':Nat}(I:Inv X pins σ H s)(mu:Zv (H x))(he:e=x\/H e=some (.own x))(k:∀b u,b≠e->s.heap.get? b=some u->h'.get? b=some u)(heo:∃u,h'.get? e=some u)
  (new:lW X.prog X.w (upd H x o) h' x o):Inv X pins σ (upd H x o) { s with heap:=h',toks:=t' }:=I.un (Un.write mu he k heo) (I.hok.write mu he k heo new)
def Inv.KI{pins':bv}(I:Inv X pins σ H s)(h:∀p∈pins',s.heap.get? p.1=some p.2/\H p.1=none/\p.1≠X.env.locals/\p.1∉X.fs/\∀v,p.2.data≠.cell v):Inv X pins' σ H s:=
 ⟨I.ok,I.os,I.bare,I.base,I.loc,I.cell,I.free,I.freeC,λp hp=>(bH.mp hp).elim (λz=>I.pin p (f6 _ z)) (h p),I.hok,I.len⟩
def GB{N:ar}(hN:N.Nodup){i j:Nat}{x:Str}(a:N[i]?=some x)(b:N[j]?=some x):i=j:=by
 obtain⟨h1,e1⟩:=aL.mp a;obtain⟨h2,e2⟩:=aL.mp b;exact(dF hN).mp (e1.trans e2.symm)
def Me{A:az}{E:af->aA->Prop}{i:Nat}{x:Str}{v:V}{Q:Unit->aA->Prop}(I:Inv X pins σ H s)(hN:X.N.Nodup)(hi:X.N[i]?=some x)(hx:Loc X.env.scope x)(r:RelV v u)
  (h:∀s',Inv X pins (σ.set i (some v)) H s'->(∃a,Heap.SameBut a s.heap s'.heap/\(a=X.env.locals\/X.env.cells.lookup x=some a))->Q Unit.unit s') (hf:X.fn x=true\/X.env.scope.names.lookup x=some .local:=by first|exact .inl rfl|exact .inr rfl|assumption):wpAny M A (storeName X.env x u) Q E s:=by
 obtain⟨m,hn,hl⟩:=id I.loc;have hcls:(X.env.scope.kind == .class || (X.env.scope.kind == .module && X.env.locals != X.env.globals))=false:=by rw[I.ok.kind];rfl
 have hiσ:i<σ.length:=by rw[I.len];exact(aL.mp hi).1
 have X4:=I.X4;have tracked:∀{a:ak} {h':aq},(∃o,s.heap.get? a=some o/\H a=none)->Heap.SameBut a s.heap h'->xH X.prog X.w H h':=λ{a h'} ha hs b ob e=>by
  obtain⟨_,_,hfree⟩:=ha;refine(I.hok b ob e).stay (λc w' hc q=>(hs.2 c ?_).trans q) (λ_ q=>q) λ_ _ q=>q;rintro rfl
  rcases hc with rfl|hc
  ·rw[hfree]at e;cases e
  ·rw[hfree]at hc;cases hc
 rcases hx with hk|hk
 ·refine wpAny_storeName_local hk hn (λh' hn' hs=>?_) hcls;obtain⟨oL,_,_,hoL,_⟩:=id hn;refine h _ ⟨I.ok,I.os,I.bare,⟨λb o e n hb hx=>?_,λb o e n hb hx=>?_,I.base.free,λb o e hx=>?_,I.base.tups,I.base.frzs,I.base.tbls⟩,⟨_,hn',λj y v' e1 e2 e3=>?_⟩,λy c e=>?_,I.free,I.freeC,λp hp=>?_,tracked ⟨oL,hoL,I.free⟩ hs,by simpa using I.len⟩ ⟨_,hs,.inl rfl⟩
  ·exact(hs.2 b (bD (bV (bg e) I.ok.above))).trans (I.base.keep b o e n hb hx)
  ·obtain⟨sl,e1⟩:=I.base.slot b o e n hb hx;exact⟨sl,(hs.2 b (bD (bV (bg e) I.ok.above))).trans e1⟩
  ·obtain⟨o',e1⟩:=I.base.there b o e hx;exact⟨o',(hs.2 b (bD (bV (bg e) I.ok.above))).trans e1⟩
  ·by_cases hj:j=i
   ·subst hj;rw[hi]at e1;cases e1;rw[b_ hiσ]at e2
    cases e2
    exact⟨u,r,.inl ⟨hk,by simp⟩⟩
   ·rw[cJ (dw hj)]at e2;obtain⟨u',r',q⟩:=hl j y v' e1 e2 e3;refine⟨u',r',?_⟩
    rcases q with⟨k,e⟩|⟨k,c,e,z⟩
    ·refine .inl ⟨k,?_⟩;have:y≠x:=λe=>hj (GB hN e1 (e ▸ hi));simp[this,e]
    ·exact .inr ⟨k,c,e,z.sameBut hs (X4 y c e)⟩
  ·obtain⟨w',z⟩:=I.cell y c e;exact⟨w',z.sameBut hs (X4 y c e)⟩
  ·obtain⟨e,n,ne,nf,d⟩:=I.pin p hp;exact⟨(hs.2 p.1 ne).trans e,n,ne,nf,d⟩
 ·have hfn:X.fn x=true:=by
   rcases hf with z|z
   ·exact z
   ·rw[z]at hk;cases hk
  obtain⟨c,hc⟩:=I.ok.has x (.inl hk);obtain⟨w',z⟩:=I.cell x c hc;refine wpAny_storeName_cell I.ok.kind hk hc z (λh' hc' hs=>?_);obtain⟨oc,hoc,hocd⟩:=id z;refine h { s with heap:=h' } ⟨I.ok,I.os,I.bare,⟨λb o e n hb hx=>?_,λb o e n hb hx=>?_,I.base.free,λb o e hx=>?_,I.base.tups,I.base.frzs,I.base.tbls⟩,⟨m,hn.sameBut hs (dw (X4 x c hc)),λj y v' e1 e2 e3=>?_⟩,λy c' e=>?_,I.free,I.freeC,λp hp=>?_,tracked ⟨oc,hoc,I.freeC x c hc⟩ hs,by simpa using I.len⟩ ⟨c,hs,.inr hc⟩
  ·exact(hs.2 b (bD (bV (bg e) (I.ok.cab x c hfn hc)))).trans (I.base.keep b o e n hb hx)
  ·obtain⟨sl,e1⟩:=I.base.slot b o e n hb hx;exact⟨sl,(hs.2 b (bD (bV (bg e) (I.ok.cab x c hfn hc)))).trans e1⟩
  ·obtain⟨o',e1⟩:=I.base.there b o e hx;exact⟨o',(hs.2 b (bD (bV (bg e) (I.ok.cab x c hfn hc)))).trans e1⟩
  ·by_cases hj:j=i
   ·subst hj;rw[hi]at e1;cases e1;rw[b_ hiσ]at e2
    cases e2
    exact⟨u,r,.inr ⟨.inl hk,c,hc,hc'⟩⟩
   ·rw[cJ (dw hj)]at e2;obtain⟨u',r',q⟩:=hl j y v' e1 e2 e3;refine⟨u',r',?_⟩
    rcases q with q|⟨k,c',e,z'⟩
    ·exact .inl q
    ·refine .inr ⟨k,c',e,z'.sameBut hs ?_⟩;rintro rfl;exact hj (GB hN e1 (I.ok.inj _ _ _ e hc ▸ hi))
  ·by_cases hcc:c'=c
   ·subst hcc;exact⟨_,hc'⟩
   ·obtain⟨w2,z2⟩:=I.cell y c' e;exact⟨w2,z2.sameBut hs hcc⟩
  ·obtain⟨e,n,ne,nf,d⟩:=I.pin p hp;refine⟨(hs.2 p.1 ?_).trans e,n,ne,nf,d⟩;intro q;rw[q,hoc]at e;have q':oc=p.2:=a_ e;exact d w' (by rw[<- q'];exact hocd)
def Gu{A:az}{E:af->aA->Prop}{i:Nat}{x:Str}{v:V}{Q:Unit->aA->Prop}(I:Inv X pins σ H s)(hN:X.N.Nodup)(hi:X.N[i]?=some x)(hx:Loc X.env.scope x)(r:RelV v u)
  (h:∀s',Inv X pins (σ.set i (some v)) H s'->Q Unit.unit s') (hf:X.fn x=true\/X.env.scope.names.lookup x=some .local:=by first|exact .inl rfl|exact .inr rfl|assumption):wpAny M A (storeName X.env x u) Q E s:=
 Me I hN hi hx r (λs' I' _=>h s' I') hf
def Inv.Rz{s':aA}{ch:bd}(I:Inv X pins σ H s)(ho:s'.os=s.os)(u:Un (frs X.stack) ch H H' s.heap s'.heap)(hok:xH X.prog X.w H' s'.heap)(hg:AllBare s'.gens)
  (hch:∀b∈ch,(b∈X.ex\/X.s₀.heap.objs.size<=b)/\b≠X.env.locals/\(∀x c,X.env.cells.lookup x=some c->c≠b)/\∀p∈X.pn++pins,p.1≠b):Inv X pins σ H' s':=by
 obtain⟨h',g',d',t',o'⟩:=s';have e:o'=s.os:=ho;subst e;exact I.call (g':=g') (t':=t') (d':=d') u hok hg hch
end
meta abbrev XK:=af->Option ak->Hp->Prop
meta abbrev St:=List (Option V)
meta abbrev VK:=V->Hp->Prop
meta abbrev TE:=St->Hp->VK->Prop
meta abbrev TT:=St->Hp->(Bool->Hp->Prop)->Prop
meta abbrev TA:=St->Hp->(List V->Hp->Prop)->Prop
structure Ends where
 nx:St->Hp->Prop
 rt:VK
 bk:St->Hp->Prop:=λ_ _=>False
 ct:St->Hp->Prop:=λ_ _=>False
meta abbrev TS:=Ends->St->Hp->Prop
abbrev EP (X:Cx)(pins:bv)(σ:St)(Q:VK)(u:af)(s':aA):Prop:=∃v H',Inv X pins σ H' s'/\RelV v u/\Q v H'
abbrev TP (X:Cx)(pins:bv)(σ:St)(Q:Bool->Hp->Prop)(b:Bool)(s':aA):Prop:=∃H',Inv X pins σ H' s'/\Q b H'
abbrev AP (X:Cx)(pins:bv)(σ:St)(Q:List V->Hp->Prop)(us:ba)(s':aA):Prop:=∃vs H',Inv X pins σ H' s'/\Vals vs us/\Q vs H'
abbrev SP (X:Cx)(pins:bv)(D:Ends)(f:Flow)(s':aA):Prop:=
 match f with
 | .next=>∃σ' H',Inv X pins σ' H' s'/\D.nx σ' H'
 | .brk=>∃σ' H',Inv X pins σ' H' s'/\D.bk σ' H'
 | .cont=>∃σ' H',Inv X pins σ' H' s'/\D.ct σ' H'
 | .ret u=>∃v σ' H',Inv X pins σ' H' s'/\RelV v u/\D.rt v H'
abbrev PE (X:Cx)(e:aC)(t:TE):Prop:=
 ∀(pins:bv) (s:aA) (σ:St) (H:Hp) (Q:VK),Inv X pins σ H s->t σ H Q->wpAny (model X.prog X.w) X.A (eval e X.env) (EP X pins σ Q) X.xe s
abbrev PT (X:Cx)(e:aC)(t:TT):Prop:=
 ∀(pins:bv) (s:aA) (σ:St) (H:Hp) (Q:Bool->Hp->Prop),Inv X pins σ H s->t σ H Q->wpAny (model X.prog X.w) X.A (isTrue e X.env (eval e X.env)) (TP X pins σ Q) X.xe s
abbrev PW (X:Cx)(e:aC)(t:TT):Prop:=
 ∀(whole:Sem af) (pins:bv) (s:aA) (σ:St) (H:Hp) (Q:Bool->Hp->Prop),Inv X pins σ H s->t σ H Q->wpAny (model X.prog X.w) X.A (isTrue e X.env whole) (TP X pins σ Q) X.xe s
abbrev PA (X:Cx)(es:List aC)(t:TA):Prop:=
 ∀(pos:Pos) (pins:bv) (s:aA) (σ:St) (H:Hp) (Q:List V->Hp->Prop),Inv X pins σ H s->t σ H Q->wpAny (model X.prog X.w) X.A (spliced (backTo pos (starEach es X.env))) (AP X pins σ Q) X.xe s
abbrev PS (X:Cx)(st:aE)(t:TS):Prop:=
 ∀(pins:bv) (s:aA) (σ:St) (H:Hp) (D:Ends),Inv X pins σ H s->t D σ H->wpAny (model X.prog X.w) X.A (exec st X.env) (SP X pins D) X.xe s
abbrev DR (X:Cx)(st:List aE)(t:TS):Prop:=
 ∀(pins:bv) (s:aA) (σ:St) (H:Hp) (D:Ends),Inv X pins σ H s->t D σ H->wpAny (model X.prog X.w) X.A (execs st X.env) (SP X pins D) X.xe s
def mP{α:Type}{t:Sem α}{Q Q':α->aA->Prop}{A:az}{E:af->aA->Prop}(h:wpAny M A t Q E s)(hQ:∀a s,Q a s->Q' a s):wpAny M A t Q' E s:=f7 h hQ λ_ _ x=>x
section
variable {X:Cx}
abbrev aat (i:Nat):TE:=λσ H Q=>∃v,σ[i]?=some (some v)/\Q v H
abbrev tC (v:V):TE:=λ_ H Q=>Q v H
def NU{i:Nat}{x:Str}(hN:X.N[i]?=some x)(hv:Zm X.env.scope x)(hd:(x == ("__debug__" : Str))=false:=by decide)(hcd:(x == ("__classdict__" : Str))=false:=by decide):PE X (.Name x pos) (aat i):=by
 k_ne;obtain⟨v,e,h⟩:=h;obtain⟨m,hn,hl⟩:=I.loc;obtain⟨u,r,l⟩:=hl i x v hN e hv;have fin:EP X pins σ Q u s:=⟨v,H,I,r,h⟩
 rcases l with⟨hk,hm⟩|⟨hk,c,hc,hcell⟩
 ·exact wpAny_Name (wpAny_loadName_local I.ok.kind hk hn hm fin) hd
 ·rcases hk with hk|hk
  ·exact wpAny_Name (wpAny_loadName_cell I.ok.kind hk hc hcell fin) hd
  ·exact wpAny_Name (wpAny_loadName_free I.ok.kind hk hc hcell fin hcd) hd
def YB{i j pos}:PE X (.Constant (.int i) j pos) (tC (.int i)):=λ_ _ _ H _ I h=>wpAny_Constant_int ⟨.int i,H,I.tok _,⟨_,rfl⟩,h⟩
def Y3{b j pos}:PE X (.Constant (.bool b) j pos) (tC (.bl b)):=λ_ _ _ H _ I h=>Constant_bool ⟨.bl b,H,I,rfl,h⟩
abbrev Gl (X:Cx)(x:Str):Prop:=X.env.kindOf x=some .globalImplicit
def Ka{E:af->aA->Prop}{H:Hp}{x:Str}{Q:af->aA->Prop}(I:Inv X pins σ H s)(hg:Gl X x)(hm:X.mg x=some u)(h:Q u s)
  (hd:(x == ("__debug__" : Str))=false:=by decide):wpAny (model X.prog X.w) X.A (eval (.Name x pos) X.env) Q E s:=
 Calls.Name_function_global I.ok.kind hg (Calls.loadGlobal_global (by rw[I.ok.glob];exact I.mod.glob.keeps I.bk) hm h) hd
def za{E:af->aA->Prop}{H:Hp}{x:Str}{Q:af->aA->Prop}(I:Inv X pins σ H s)(hg:Gl X x)(hm:X.mg x=none)(hv:bootBuiltins x=some u)(h:Q u s)
  (hn:x ≠ "__name__" := by decide) (hd:(x == ("__debug__" : Str))=false:=by decide):wpAny (model X.prog X.w) X.A (eval (.Name x pos) X.env) Q E s:=by
 obtain⟨mb,h1,h2⟩:=I.mod.blt;exact Calls.Name_function_global I.ok.kind hg (Calls.loadGlobal_builtin (by rw[I.ok.glob];exact I.mod.glob.keeps I.bk) hm (by rw[I.ok.blt];exact h1.keeps I.bk) ((h2 x hn).trans hv) h) hd
def Tw{x:Str}{v:V}(hg:Gl X x)(hm:X.mg x=some u)(r:RelV v u)(hd:(x == ("__debug__" : Str))=false:=by decide):PE X (.Name x pos) (tC v):=
 λ_ _ _ H _ I h=>Ka I hg hm ⟨v,H,I,r,h⟩ hd
def UR{x:Str}{v:V}(hg:Gl X x)(hm:X.mg x=none)(hv:bootBuiltins x=some u)(r:RelV v u)(hn:x ≠ "__name__" := by decide)(hd:(x == ("__debug__" : Str))=false:=by decide):PE X (.Name x pos) (tC v):=
 λ_ _ _ H _ I h=>za I hg hm hv ⟨v,H,I,r,h⟩ hn hd
variable {a b:aC}{ta tb:TE}{pos:Pos}
variable {tA tB':TT}{rest:List aC}
abbrev Za (t u:TT):TT:=λσ H Q=>t σ H λc H1=>if c=true then u σ H1 Q else Q false H1
abbrev tOr (t u:TT):TT:=λσ H Q=>t σ H λc H1=>if c=true then Q true H1 else u σ H1 Q
abbrev abK (t:TT):TT:=λσ H Q=>t σ H λc H1=>Q (!c) H1
def Ud(ha:PT X a tA):PW X (.BoolOp .And [a] pos) tA:=by
 intro wh pins s σ H Q I h;refine isTrue_and (mP (ha pins s σ H Q I h) λc s1 e=>?_)
 cases c with
 | true=>exact isTrue_and_nil e
 | false=>exact e
def X9(ha:PT X a tA):PW X (.BoolOp .Or [a] pos) tA:=by
 intro wh pins s σ H Q I h;refine isTrue_or (mP (ha pins s σ H Q I h) λc s1 e=>?_)
 cases c with
 | false=>exact isTrue_or_nil e
 | true=>exact e
def WZ(ha:PT X a tA)(hb:PW X (.BoolOp .And (b::rest) pos) tB'):PW X (.BoolOp .And (a::b::rest) pos) (Za tA tB'):=by
 intro wh pins s σ H Q I h;refine isTrue_and (mP (ha pins s σ H _ I h) λc s1 ⟨H1,I1,q1⟩=>?_)
 cases c with
 | true=>exact hb wh pins s1 σ H1 Q I1 q1
 | false=>exact⟨H1,I1,q1⟩
def aae(ha:PT X a tA)(hb:PW X (.BoolOp .Or (b::rest) pos) tB'):PW X (.BoolOp .Or (a::b::rest) pos) (tOr tA tB'):=by
 intro wh pins s σ H Q I h;refine isTrue_or (mP (ha pins s σ H _ I h) λc s1 ⟨H1,I1,q1⟩=>?_)
 cases c with
 | true=>exact⟨H1,I1,q1⟩
 | false=>exact hb wh pins s1 σ H1 Q I1 q1
def W3(ha:PT X a tA):PT X (.UnaryOp .Not a pos) (abK tA):=by
 k_ne;exact isTrue_not (ha pins s σ H (λc H1=>Q (!c) H1) I h)
abbrev Zj (ta tb:TE):TE:=λσ H Q=>ta σ H λx H1=>∃c,x=.bl c/\if c=true then tb σ H1 Q else Q (.bl false) H1
abbrev aaE (ta:TE):TE:=λσ H Q=>ta σ H λx H1=>∃c,x=.bl c/\Q (.bl (!c)) H1
def Xo{op}{t:TE}(h:PE X a t):PE X (.BoolOp op [a] pos) t:=λpins s σ H Q I hw=>BoolOp_one (h pins s σ H Q I hw)
def WM(ha:PE X a ta)(hb:PE X (.BoolOp .And (b::rest) pos) tb):PE X (.BoolOp .And (a::b::rest) pos) (Zj ta tb):=by
 k_ne;refine BoolOp_and (mP (ha pins s σ H _ I h) λv s1 ⟨x,H1,I1,r1,q1⟩=>?_);obtain⟨c,rfl,q1⟩:=q1
 cases r1
 refine dI ?_
 cases c with
 | true=>exact hb pins s1 σ H1 Q I1 q1
 | false=>exact⟨.bl false,H1,I1,rfl,q1⟩
def Xn(ha:PE X a ta):PE X (.UnaryOp .Not a pos) (aaE ta):=by
 k_ne;refine UnaryOp_ (mP (ha pins s σ H _ I h) λv s1 ⟨x,H1,I1,r1,q1⟩=>?_);obtain⟨c,rfl,q1⟩:=q1
 cases r1
 exact not_of (dI ⟨.bl (!c),H1,I1,rfl,q1⟩)
end
abbrev rG (K:au)(H:Hp)(a:ak)(xs:List V):Prop:=
 Rd H a (.lst xs) \/
  ∃(o:Obj) (its:Array af) (n:Nat),K.lookup a=some o/\o.cls=.type "list" /\ o.dict=none/\o.data=.seq its n/\its.size<=sizeLine/\Vals xs its.toList
abbrev m_ (K:au)(H:Hp)(a:ak)(xs:List V):Prop:=
 Rd H a (.tup xs) \/
  ∃(o:Obj) (its:Array af) (n:Nat),K.lookup a=some o/\o.cls=.type "tuple" /\ o.dict=none/\o.data=.seq its n/\its.size<=sizeLine/\Vals xs its.toList
abbrev abG:af->Option V
 | .none=>some .non
 | .bool b=>some (.bl b)
 | .int i _=>some (.int i)
 | .str x _=>some (.str x)
 | .bytes b _=>some (.byt b)
 | .float b _=>some (.flt b)
 | .ref a=>some (.ref a)
 | .type n=>some (.ty n)
 | _=>none
def RelV.abs{x:V}(r:RelV x u):abG u=some x:=by
 cases x with
 | non=>cases r;rfl
 | bl _=>cases r;rfl
 | int _=>obtain⟨t,rfl⟩:=r;rfl
 | str _=>obtain⟨t,rfl⟩:=r;rfl
 | byt _=>obtain⟨t,rfl⟩:=r;rfl
 | flt _=>obtain⟨t,rfl⟩:=r;rfl
 | ref _=>cases r;rfl
 | ty _=>cases r;rfl
def RelV.inj{x:V}(r:RelV x u)(q:RelV y u):x=y:=a_ (r.abs.symm.trans q.abs)
theorem Vals.inj:∀{xs ys:List V}{us:ba},Vals xs us->Vals ys us->xs=ys
 | _,_,_,.nil,.nil=>rfl
 | _,_,_,.cons r t,.cons r' t'=>by rw[r.inj r',Vals.inj t t']
section
variable {X:Cx}{pins:bv}{σ:St}{H:Hp}{s:aA}{a:ak}{xs ys:List V}
def rG.of{K:au}(h:H a=some (.lst xs)):rG K H a xs:=.inl (.inl h)
def m_.of{K:au}(h:H a=some (.tup xs)):m_ K H a xs:=.inl (.inl h)
def Inv.list(I:Inv X pins σ H s)(h:rG X.K H a xs):∃its:ba,Vals xs its/\PlainL s.heap a its.toArray/\xs.length<=sizeLine:=by
 rcases h with h|⟨o,its,n,hk,hc,hd,hs,hz,r⟩
 ·obtain⟨z,its,n,r,e⟩:=h.ok I.hok;exact⟨its,r,⟨_,n,e,rfl,rfl,rfl⟩,z⟩
 ·refine⟨its.toList,r,⟨o,n,I.E6 a o hk,hc,hd,by simpa using hs⟩,?_⟩;have e:=r.length;dsimp[dP]at e
  lia
def Inv.tuple(I:Inv X pins σ H s)(h:m_ X.K H a xs):∃its:ba,Vals xs its/\IsTup s.heap a its.toArray/\xs.length<=sizeLine:=by
 rcases h with h|⟨o,its,n,hk,hc,_,hs,hz,r⟩
 ·obtain⟨z,its,r,p⟩:=h.ok I.hok;exact⟨its,r,p.tup,z⟩
 ·refine⟨its.toList,r,⟨o,I.E6 a o hk,hc,n,by simpa using hs⟩,?_⟩;have e:=r.length;dsimp[dP]at e
  lia
def Inv.P1(I:Inv X pins σ H s)(h:rG X.K H a xs)(h':rG X.K H a ys):xs=ys:=by
 obtain⟨its,r,⟨o,n,e,_,_,d⟩,_⟩:=I.list h;obtain⟨its',r',⟨o',n',e',_,_,d'⟩,_⟩:=I.list h';rw[e]at e';cases e';rw[d]at d'
 injection d' with d1 _
 have:its=its':=by simpa using dj Array.toList d1
 subst this;exact r.inj r'
def Inv.yR(I:Inv X pins σ H s)(h:m_ X.K H a xs)(h':m_ X.K H a ys):xs=ys:=by
 obtain⟨its,r,⟨o,e,_,n,d⟩,_⟩:=I.tuple h;obtain⟨its',r',⟨o',e',_,n',d'⟩,_⟩:=I.tuple h';rw[e]at e';cases e';rw[d]at d'
 injection d' with d1 _
 have:its=its':=by simpa using dj Array.toList d1
 subst this;exact r.inj r'
end
meta abbrev Cx.Ck (X:Cx)(E:af->aA->Prop):Cx:={ X with xe:=E }
meta abbrev Cx.nox (X:Cx):Cx:=X.Ck λ_ _=>False
def Cx.Ok.Ck{X:Cx}(ok:X.Ok)(E:af->aA->Prop):(X.Ck E).Ok:=
 ⟨ok.mod,ok.kind,ok.glob,ok.blt,ok.above,ok.inj,ok.has,ok.cab,ok.hd,ok.frames,ok.stk,ok.exf,ok.bs,ok.bsz,ok.noex,ok.exfs,ok.AX,ok.frf⟩
def Cx.Ok.u9{X:Cx}{E:af->aA->Prop}(ok:(X.Ck E).Ok):X.Ok:=
 ⟨ok.mod,ok.kind,ok.glob,ok.blt,ok.above,ok.inj,ok.has,ok.cab,ok.hd,ok.frames,ok.stk,ok.exf,ok.bs,ok.bsz,ok.noex,ok.exfs,ok.AX,ok.frf⟩
section
variable {X:Cx}{pins:bv}{σ:St}{H:Hp}{s:aA}{E:af->aA->Prop}
def Inv.Ck(I:Inv X pins σ H s)(E:af->aA->Prop):Inv (X.Ck E) pins σ H s:=⟨I.ok.Ck E,I.os,I.bare,I.base,I.loc,I.cell,I.free,I.freeC,I.pin,I.hok,I.len⟩
def Inv.u9(I:Inv (X.Ck E) pins σ H s):Inv X pins σ H s:=⟨I.ok.u9,I.os,I.bare,I.base,I.loc,I.cell,I.free,I.freeC,I.pin,I.hok,I.len⟩
def SP.u9{D:Ends}{f:Flow}(h:SP (X.Ck E) pins D f s'):SP X pins D f s':=by
 cases f with
 | next=>obtain⟨σ',H',I,q⟩:=h;exact⟨σ',H',I.u9,q⟩
 | brk=>obtain⟨σ',H',I,q⟩:=h;exact⟨σ',H',I.u9,q⟩
 | cont=>obtain⟨σ',H',I,q⟩:=h;exact⟨σ',H',I.u9,q⟩
 | ret u=>obtain⟨v,σ',H',I,r,q⟩:=h;exact⟨v,σ',H',I.u9,r,q⟩
def DR.nox{st:List aE}{t:TS}(h:DR X.nox st t):DR X st t:=λpins s σ H D I hw=>
 f7 (h pins s σ H D (I.Ck _) hw) (λ_ _ q=>q.u9) λ_ _ z=>False.elim z
end
section
variable {X:Cx}{st:aE}{rest:List aE}{t u:TS}{e:aC}{te:TE}{pos:Pos}
abbrev ZZ:TS:=λD σ H=>D.nx σ H
abbrev aav (t u:TS):TS:=λD σ H=>t { D with nx:=u D } σ H
def TQ:DR X [] ZZ:=λ_ _ σ H _ I h=>iF ⟨σ,H,I,h⟩
def OU(h1:PS X st t)(h2:DR X rest u):DR X (st::rest) (aav t u):=by
 intro pins s σ H D I h;refine wpAny_execs_cons (mP (h1 pins s σ H { D with nx:=u D } I h) λf s1 q=>?_)
 cases f with
 | next=>
  obtain⟨σ',H',I',q⟩:=q;exact h2 pins s1 σ' H' D I' q
 | ret v=>exact q
 | brk=>exact q
 | cont=>exact q
def Ub(h1:PS X st t):DR X [st] t:=by
 intro pins s σ H D I h;refine wpAny_execs_cons (mP (h1 pins s σ H D I h) λf s1 q=>?_)
 cases f with
 | next=>exact iF q
 | ret v=>exact q
 | brk=>exact q
 | cont=>exact q
def Inv.quiet{H:Hp}(I:Inv X pins σ H s):interactive X.env=false:=by simp[interactive,I.ok.kind]
abbrev ZT (te:TE):TS:=λD σ H=>te σ H λ_ H1=>D.nx σ H1
def UB(he:PE X e te)(hs:swapsWith e none pos.line X.env=pure false:=by rfl):PS X (.Expr e pos) (ZT te):=by
 intro pins s σ H D I h;exact wpAny_Expr_any (mP (he pins s σ H _ I h) λv s1 ⟨x,H1,I1,r1,q1⟩=>⟨σ,H1,I1,q1⟩) I.quiet hs
abbrev abA (te:TE):TS:=λD σ H=>te σ H D.rt
def Yn(he:PE X e te):PS X (.Return (some e) pos) (abA te):=by
 intro pins s σ H D I h;exact wpAny_Return_some (mP (he pins s σ H _ I h) λv s1 ⟨x,H1,I1,r1,q1⟩=>⟨x,σ,H1,I1,r1,q1⟩)
abbrev abQ (c:TT)(t u:TS):TS:=λD σ H=>c σ H λb H1=>if b=true then t D σ H1 else u D σ H1
def ZH{c:aC}{a:List aE}{tc:TT}(hc:PT X c tc)(ha:DR X a t)(hb:DR X b u):PS X (.If c a b pos) (abQ tc t u):=by
 intro pins s σ H D I h;refine wpAny_If (mP (hc pins s σ H _ I h) λd s1 ⟨H1,I1,q1⟩=>?_)
 cases d with
 | true=>exact ha pins s1 σ H1 D I1 q1
 | false=>exact hb pins s1 σ H1 D I1 q1
abbrev YF:TS:=λ_ _ _=>False
def N8:PS X st YF:=λ_ _ _ _ _ _ h=>h.elim
end
meta abbrev TG:=V->St->Hp->(St->Hp->Prop)->Prop
meta abbrev Wc:=List V->St->Hp->(St->Hp->Prop)->Prop
abbrev PG (X:Cx)(target:aC)(t:TG):Prop:=
 ∀(pins:bv) (s:aA) (σ:St) (H:Hp) (v:V) (u:af) (Q:St->Hp->Prop),Inv X pins σ H s->RelV v u->t v σ H Q ->
  wpAny (model X.prog X.w) X.A (assign target X.env u) (λ_ s'=>∃σ' H',Inv X pins σ' H' s'/\Q σ' H') X.xe s
abbrev PGs (X:Cx)(ts:List aC)(t:Wc):Prop:=
 ∀(pins:bv) (s:aA) (σ:St) (H:Hp) (vs:List V) (us:ba) (Q:St->Hp->Prop),Inv X pins σ H s->Vals vs us->t vs σ H Q ->
  wpAny (model X.prog X.w) X.A (assignInOrder ((assignEach ts X.env).map (·.2)) us) (λ_ s'=>∃σ' H',Inv X pins σ' H' s'/\Q σ' H') X.xe s
meta abbrev MJ:=V->V->V->Hp->(Hp->Prop)->Prop
abbrev Mw (X:Cx)(t:MJ):Prop:=
 ∀(pins:bv) (s:aA) (σ:St) (H:Hp) (o i v:V) (ov iv u:af) (Q:Hp->Prop),Inv X pins σ H s->RelV o ov->RelV i iv->RelV v u->t o i v H Q ->
  wpAny (model X.prog X.w) X.A (setItem ov iv u) (λ_ s'=>∃H',Inv X pins σ H' s'/\Q H') X.xe s
section
variable {X:Cx}{pos:Pos}
abbrev Nm (i:Nat):TG:=λv σ H Q=>Q (σ.set i (some v)) H
def Kg{i:Nat}{x:Str}(hN:X.N.Nodup)(hi:X.N[i]?=some x)(hx:Loc X.env.scope x)(hf:X.fn x=true\/X.env.scope.names.lookup x=some .local:=by first|exact .inl rfl|exact .inr rfl|assumption):PG X (.Name x pos) (Nm i):=by
 intro pins s σ H v u Q I r h;exact wpAny_assign_Name (Gu I hN hi hx r (λs' I'=>⟨_,H,I',h⟩) hf)
abbrev aaV:Wc:=λvs σ H Q=>vs=[]/\Q σ H
abbrev Zy (t:TG)(u:Wc):Wc:=λvs σ H Q=>∃v r,vs=v::r/\t v σ H λσ' H'=>u r σ' H' Q
def Uv:PGs X [] aaV:=by
 intro pins s σ H vs us Q I r h;obtain⟨e,h⟩:=h;subst e
 cases r
 exact assignInOrder_nil ⟨σ,H,I,h⟩
def Nb{e:aC}{t:TG}{u:Wc}(h1:PG X e t)(h2:PGs X es u)
  (hs:(assignEach (e::es) X.env).map (·.2)=assign e X.env::(assignEach es X.env).map (·.2):=by rfl):PGs X (e::es) (Zy t u):=by
 intro pins s σ H vs us Q I r h;obtain⟨v,vr,e1,h⟩:=h;subst e1
 cases r with
 | cons r rr=>
  rw[hs];refine assignInOrder_cons (mP (h1 pins s σ H _ _ _ I r h) λ_ s1 ⟨σ1,H1,I1,q1⟩=>?_);exact h2 pins s1 σ1 H1 _ _ Q I1 rr q1
abbrev abF (K:au)(n:Nat)(t:Wc):TG:=λv σ H Q=>∃a xs,v=.ref a/\m_ K H a xs/\xs.length=n/\t xs σ H Q
def Yw{k:Nat}{t:Wc}{n:Nat}(hc:X.calm=true)(h:PGs X es t)
  (hn:(assignEach es X.env).length=n:=by rfl) (hst:(assignEach es X.env).findIdx? (·.1)=none:=by rfl):PG X (.Tuple es k pos) (abF X.K n t):=by
 intro pins s σ H v u Q I r hw;obtain⟨a,xs,e1,hq,hl,hw⟩:=hw;subst e1
 cases r
 obtain⟨its,rv,ht,hz⟩:=I.tuple hq;refine assign_Tuple_tuple (I.ok.hd hc) ht (by simp[hn,<- hl,rv.length]) hst λh' hx=>?_;have I1:Inv X pins σ H { s with heap:=h' }:=I.kept (t':=s.toks) λb o e=>hx b o (bD (bg e)) e;exact h pins _ σ H xs _ Q I1 (by simpa using rv) hw
abbrev abr (to ti:TE)(t:MJ):TG:=λv σ H Q=>to σ H λo H1=>ti σ H1 λi H2=>t o i v H2 λH3=>Q σ H3
def IP{to ti:TE}{t:MJ}(ho:PE X o to)(hi:PE X i ti)(hs:Mw X t)
  (ha:∀v,assign (.Subscript o i pos) X.env v=(do
   let ov <- holding [v] (eval o X.env)
   let iv <- holding [v,ov] (eval i X.env)
   standAt pos
   holding [v,ov,iv] (setItem ov iv v)
   release [v,ov,iv] []):=by intro _;rfl):PG X (.Subscript o i pos) (abr to ti t):=by
 intro pins s σ H v u Q I r h;rw[ha];refine aG (dm (mP (ho pins s σ H _ I h) λov s1 ⟨x,H1,I1,r1,q1⟩=>?_));refine aG (dm (mP (hi pins s1 σ H1 _ I1 q1) λiv s2 ⟨y,H2,I2,r2,q2⟩=>?_));refine aG (fB (aG (dm (mP (hs pins s2 σ H2 x y v ov iv u _ I2 r1 r2 r q2) λ_ s3 ⟨H3,I3,q3⟩=>?_))));exact wpAny_release ⟨σ,H3,I3,q3⟩
abbrev UA (te:TE)(g:TG):TS:=λD σ H=>te σ H λx H1=>g x σ H1 D.nx
def YI{tg e:aC}{te:TE}{g:TG}(he:PE X e te)(hg:PG X tg g)(hs:swapsWithSole [tg] e pos.line X.env=pure false:=by rfl)(hw:swappedStores [tg] e X.env=pure none:=by rfl)
  (h1:(assignEach [tg] X.env).map (·.2)=[assign tg X.env]:=by rfl):PS X (.Assign [tg] e pos) (UA te g):=by
 intro pins s σ H D I h;refine wpAny_Assign_stores (mP (he pins s σ H _ I h) λv s1 ⟨x,H1,I1,r1,q1⟩=>?_) hs hw;rw[h1];exact mP (hg pins s1 σ H1 x v _ I1 r1 q1) λ_ s2 q=>q
def Xm{i:Nat}{x:Str}{e:aC}{te:TE}(hN:X.N.Nodup)(hi:X.N[i]?=some x)(hx:Loc X.env.scope x)(he:PE X e te)(hs:swapsWith e (some (.Name x pos')) pos.line X.env=pure false:=by rfl)(hf:X.fn x=true\/X.env.scope.names.lookup x=some .local:=by first|exact .inl rfl|exact .inr rfl|assumption) :
  PS X (.Assign [.Name x pos'] e pos) (UA te (Nm i)):=by
 intro pins s σ H D I h;refine wpAny_Assign_Name (mP (he pins s σ H _ I h) λv s1 ⟨y,H1,I1,r1,q1⟩=>?_) hs;exact Gu I1 hN hi hx r1 (λs2 I2=>⟨_,H1,I2,q1⟩) hf
end
section
variable {X:Cx}{pos:Pos}
abbrev PF (c:TT)(tb:TS):TS:=λD σ H=>∃W:Nat->St->Hp->Prop,(∃m,W m σ H)/\∀m σ H,W m σ H ->
 c σ H λb H1=>if b=true then ∃N:St->Hp->Prop,(∀σ' H',N σ' H'->∃m',m'<m/\W m' σ' H')/\tb { D with nx:=N,ct:=N,bk:=D.nx } σ H1 else D.nx σ H1
def N2{c:aC}{tc:TT}{tb:TS}(hp:PassesOwn (model X.prog X.w) X.A X.env X.xe)(hc:PT X c tc)(hb:DR X body tb):PS X (.While c body [] pos) (PF tc tb):=by
 intro pins s σ H D I h;obtain⟨W,⟨m0,w0⟩,turn⟩:=h;refine wpAny_While (codeAny_whileLoop (λn s'=>∃σ' H',Inv X pins σ' H' s'/\W n σ' H') ?_ m0 ⟨σ,H,I,w0⟩);rintro n s1 ⟨σ1,H1,I1,w1⟩;refine e_ hp (mP (hc pins s1 σ1 H1 _ I1 (turn n σ1 H1 w1)) λb s2 ⟨H2,I2,q2⟩=>?_)
 cases b with
 | true=>
  obtain⟨N,hN,q2⟩:=q2;rw[aK rfl];refine e_ hp (mP (hb pins s2 σ1 H2 _ I2 q2) λf s3 q3=>?_)
  cases f with
  | next=>
   obtain⟨σ3,H3,I3,n3⟩:=q3;obtain⟨m',hm,w3⟩:=hN σ3 H3 n3;exact⟨m',hm,σ3,H3,I3,w3⟩
  | cont=>
   obtain⟨σ3,H3,I3,n3⟩:=q3;obtain⟨m',hm,w3⟩:=hN σ3 H3 n3;exact⟨m',hm,σ3,H3,I3,w3⟩
  | brk=>exact q3
  | ret v=>exact q3
 | false=>
  rw[aJ bE];exact iF ⟨σ1,H2,I2,q2⟩
end
structure It where
 go:Nat->Hp->Prop
 yld:Nat->Hp->V->Hp->Prop
 stop:Nat->Hp->Prop
abbrev vd (X:Cx)(pins:bv)(H:Hp)(b:ak):Prop:=
 H b=none/\b≠X.env.locals/\b∉X.fs/\(b∈X.ex\/X.s₀.heap.objs.size<=b)/\(∀x c,X.env.cells.lookup x=some c->c≠b)/\∀p∈X.pn++pins,p.1≠b
def Inv.Hl{X:Cx}{H H':Hp}{s:aA}(I:Inv X pins σ H s)(hb:s.heap.objs.size<=b)(hn:H' b=none):vd X pins H' b:=by
 refine⟨hn,ne_of_gt (bV I.lt hb),I.abm hb,.inr (bJ I.sz hb),λx c e z=>?_,λp hp z=>?_⟩
 ·obtain⟨v,q⟩:=I.cell x c e;exact absurd (bV q.lt (by rw[z];exact hb)) (fW _)
 ·exact absurd (bV (bg (I.pin p hp).1) (by rw[z];exact hb)) (fW _)
structure Turn (P:aj)(w:ah)(K:au)(tg:aC)(J:It)(fp:bd)(it:ak)(tn:Nat->aq->Prop):Prop where
 mem:it∈fp
 obj:∀i h,tn i h->∀b∈fp,∃o,h.get? b=some o/\∀v,o.data≠.cell v
 keep:∀i h h',tn i h->(∀b∈fp,∀o,h.get? b=some o->h'.get? b=some o)->tn i h'
 item:∀(X:Cx),X.prog=P->X.w=w->X.K=K->X.calm=true->∀(i:Nat) (pins:bv) (s:aA) (σ:St) (H:Hp) (E:af->aA->Prop),Inv X pins σ H s->(∀b∈fp,vd X pins H b)->tn i s.heap->J.go i H ->
  wpAny (model P w) X.A (pyNext (.ref it)) (λr s1=>∃u,r=some u /\
   wpAny (model P w) X.A (letOwnedTupleGo tg (.ref it) u) (λ_ s2=>∃x H',Inv X pins σ H' s2/\RelV x u/\J.yld i H x H'/\tn (i+1) s2.heap/\∀b∈fp,H' b=none) E s1) E s
 done:∀(X:Cx),X.prog=P->X.w=w->X.K=K->X.calm=true->∀(i:Nat) (pins:bv) (s:aA) (σ:St) (H:Hp) (E:af->aA->Prop),Inv X pins σ H s->(∀b∈fp,vd X pins H b)->tn i s.heap->J.stop i H ->
  wpAny (model P w) X.A (pyNext (.ref it)) (λr s1=>r=none/\Inv X pins σ H s1) E s
 self:∀(A:az) (i:Nat) (s:aA) (Q:af->aA->Prop) (E:af->aA->Prop),tn i s.heap->Q (.ref it) s->wpAny (model P w) A (pyIter (.ref it)) Q E s
meta abbrev TI:=St->Hp->(It->Hp->Prop)->Prop
abbrev PIE (X:Cx)(pins:bv)(σ:St)(tg:aC)(R:It->Hp->Prop)(itv:af)(s2:aA):Prop:=
 ∃(it:ak) (fp:bd) (tn:Nat->aq->Prop) (J:It) (H':Hp),itv=.ref it/\Inv X pins σ H' s2/\Turn X.prog X.w X.K tg J fp it tn/\tn 0 s2.heap/\(∀b∈fp,vd X pins H' b)/\R J H'
abbrev PI (X:Cx)(tg iter:aC)(wi:TI):Prop:=
 ∀(pins:bv) (s:aA) (σ:St) (H:Hp) (R:It->Hp->Prop),Inv X pins σ H s->wi σ H R ->
  wpAny (model X.prog X.w) X.A (eval iter X.env) (λv s1=>wpAny (model X.prog X.w) X.A (pyIter v) (PIE X pins σ tg R) X.xe s1) X.xe s
def Ke{A:az}{E:af->aA->Prop}{s:aA}{o:Obj}{n:String}{Q:Unit->aA->Prop}(ho:s.heap.get? it=some o)(hc:o.cls=.type n)(hd:o.data=.fields vs)
  (hn:["enumerate", "zip", "dict_itemiterator", "dict_reverseitemiterator", "odict_iterator", "itertools.zip_longest", "itertools.pairwise"].contains n=false) (hQ:Q Unit.unit s):wpAny M A (letOwnedTupleGo tg (.ref it) u) Q E s:=by
 unfold letOwnedTupleGo
 cases tg<;>first
  | exact aP hQ
  | (cases u<;>first
    | exact aP hQ
    | (refine aG (wpAny_load ho ?_)
       rw[hc,hd];show wpAny M A (if (["enumerate", "zip", "dict_itemiterator", "dict_reverseitemiterator", "odict_iterator", "itertools.zip_longest", "itertools.pairwise"].contains n && vs[0]? == some (rawInt _))=true then _ else _) Q E s;rw[aJ (by intro h;rw[hn,Bool.false_and]at h;cases h)];exact aP hQ))
abbrev Itl (K:au)(a:ak):It:=
 ⟨λi H=>∃xs x,rG K H a xs/\xs[i]?=some x,λi H x H'=>H'=H/\∀xs,rG K H a xs->xs[i]?=some x,λi H=>∃xs,rG K H a xs/\xs.length<=i⟩
abbrev YT (K:au)(a:ak):It:=
 ⟨λi H=>∃xs x,m_ K H a xs/\xs[i]?=some x,λi H x H'=>H'=H/\∀xs,m_ K H a xs->xs[i]?=some x,λi H=>∃xs,m_ K H a xs/\xs.length<=i⟩
abbrev Zn (lo:Int)(n:Nat):It:=⟨λi _=>i<n,λi H x H'=>H'=H/\x=.int (lo+i),λi _=>n<=i⟩
def LS{P:aj}{w:ah}{K:au}(a it:ak):Turn P w K tg (Itl K a) [it] it (λi h=>h.IsListIter it a i) where
 mem:=by simp
 obj:=λi h st b hb=>by
  have e:b=it:=by simpa using hb
  subst e;obtain⟨o,e,c,d⟩:=st;exact⟨o,e,λv z=>by rw[d]at z;cases z⟩
 keep:=λi h h' st k=>st.at λo e=>k it (by simp) o e
 item:=by
  x_go;subst hP hw hK;obtain⟨xs,x,hq,hx⟩:=hg;obtain⟨its,rv,p,hz⟩:=I.list hq;obtain⟨u,hu,ru⟩:=rv.get hx;kt_k;refine wpAny_pyNext_list_item st p.isList (x:=u) (by simpa using hu) λh' st' sb=>?_;have I1:Inv X pins σ H { s with heap:=h' }:=I.turned (t':=s.toks) (λb o hb e=>(sb.2 b hb).trans e) f0 f1 f3 f4 f5;obtain⟨o,e,c,d⟩:=id st';exact⟨u,rfl,Ke (s:={ s with heap:=h' }) e c d ⋯ ⟨x,H,I1,ru,⟨rfl,λys hy=>by rw[I.P1 hy hq];exact hx⟩,st',λb hb=>(hf b hb).1⟩⟩
 done:=by
  x_go;subst hP hw hK;obtain⟨xs,hq,hx⟩:=hg;obtain⟨its,rv,p,hz⟩:=I.list hq;kt_k;have hl:=rv.length;exact wpAny_pyNext_list_end (I.ok.hd hc) st p.isList (by simp;omega) λh' eb=>⟨rfl,I.turned (t':=s.toks) (λb o hb e=>eb b o hb e) f0 f1 f3 f4 f5⟩
 self:=λ_ _ _ _ _ st h=>wpAny_pyIter_listiter st h
def Im{P:aj}{w:ah}{K:au}(a it:ak):Turn P w K tg (YT K a) [it] it (λi h=>h.IsTupleIter it a i) where
 mem:=by simp
 obj:=λi h st b hb=>by
  have e:b=it:=by simpa using hb
  subst e;obtain⟨o,e,c,d⟩:=st;exact⟨o,e,λv z=>by rw[d]at z;cases z⟩
 keep:=λi h h' st k=>st.at λo e=>k it (by simp) o e
 item:=by
  x_go;subst hP hw hK;obtain⟨xs,x,hq,hx⟩:=hg;obtain⟨its,rv,p,hz⟩:=I.tuple hq;obtain⟨u,hu,ru⟩:=rv.get hx;kt_k;refine wpAny_pyNext_tuple_item st (show s.heap.IsTuple a its.toArray from p) (x:=u) (by simpa using hu) λh' st' sb=>?_;have I1:Inv X pins σ H { s with heap:=h' }:=I.turned (t':=s.toks) (λb o hb e=>(sb.2 b hb).trans e) f0 f1 f3 f4 f5;obtain⟨o,e,c,d⟩:=id st';exact⟨u,rfl,Ke (s:={ s with heap:=h' }) e c d ⋯ ⟨x,H,I1,ru,⟨rfl,λys hy=>by rw[I.yR hy hq];exact hx⟩,st',λb hb=>(hf b hb).1⟩⟩
 done:=by
  x_go;subst hP hw hK;obtain⟨xs,hq,hx⟩:=hg;obtain⟨its,rv,p,hz⟩:=I.tuple hq;kt_k;have hl:=rv.length;exact wpAny_pyNext_tuple_end (I.ok.hd hc) st (show s.heap.IsTuple a its.toArray from p) (by simp;lia) λh' eb=>⟨rfl,I.turned (t':=s.toks) (λb o hb e=>eb b o hb e) f0 f1 f3 f4 f5⟩
 self:=λ_ _ _ _ _ st h=>wpAny_pyIter_tupleiter st h
def Io{P:aj}{w:ah}{K:au}(it:ak)(lo:Int)(n:Nat):Turn P w K tg (Zn lo n) [it] it (λi h=>IsRangeIter h it (lo+(i:Nat) * 1) ((n:Int)-(i:Nat)) 1) where
 mem:=by simp
 obj:=λi h st b hb=>by
  have e:b=it:=by simpa using hb
  subst e;exact⟨_,st,λv z=>by
   have z':Data.fields _=Data.cell v:=z
   cases z'⟩
 keep:=λi h h' st k=>k it (by simp) _ st
 item:=by
  x_go;subst hP hw hK;kt_k;have W:=Walks.range (prog:=X.prog) (w:=X.w) (I.ok.hd hc) it lo 1 n;refine W.item i s _ _ hg st λv h' tk hv st' kk=>?_;obtain⟨t,rfl⟩:=hv;have I1:Inv X pins σ H { s with heap:=h',toks:=tk }:=I.turned (λb o hb e=>kk b o (by simpa using hb) e) f0 f1 f3 f4 f5;refine⟨_,rfl,Ke (s:={ s with heap:=h',toks:=tk }) (n := "range_iterator") st' rfl rfl ⋯ ⟨.int (lo+i),H,I1,⟨t,?_⟩,⟨rfl,rfl⟩,st',λb hb=>(hf b hb).1⟩⟩;rw[mul_one]
 done:=by
  x_go;subst hP hw hK;kt_k;exact wpAny_pyNext_range_end (I.ok.hd hc) st (by have:n<=i:=hg;lia) λh' eb=>⟨rfl,I.turned (t':=s.toks) (λb o hb e=>eb b o hb e) f0 f1 f3 f4 f5⟩
 self:=λ_ _ _ _ _ st h=>wpAny_pyIter_rangeiter st h
section
variable {X:Cx}{tg:aC}
abbrev aag (K:au)(tl:TE):TI:=λσ H R=>tl σ H λx H1=>∃a,x=.ref a/\(∃xs,rG K H1 a xs)/\R (Itl K a) H1
abbrev aa2 (K:au)(tl:TE):TI:=λσ H R=>tl σ H λx H1=>∃a,x=.ref a/\(∃xs,m_ K H1 a xs)/\R (YT K a) H1
def Jb{l:aC}{tl:TE}(hl:PE X l tl):PI X tg l (aag X.K tl):=by
 intro pins s σ H R I h;refine mP (hl pins s σ H _ I h) λv s1 ⟨x,H1,I1,r1,q1⟩=>?_;obtain⟨a,e,⟨xs,hq⟩,q⟩:=q1;subst e
 cases r1
 obtain⟨its,rv,p,hz⟩:=I1.list hq;refine iU p.isList ?_;refine⟨s1.heap.objs.size,[s1.heap.objs.size],_,_,H1,rfl,I1.kept (t':=s1.toks) λb o e=>aV _ e,LS a _,⟨_,bC _ rfl,rfl,rfl⟩,λb hb=>?_,q⟩;have e:b=s1.heap.objs.size:=by simpa using hb
 subst e;exact I1.Hl (aR _) (I1.hok.fresh (aR _))
def OA{l:aC}{tl:TE}(hl:PE X l tl):PI X tg l (aa2 X.K tl):=by
 intro pins s σ H R I h;refine mP (hl pins s σ H _ I h) λv s1 ⟨x,H1,I1,r1,q1⟩=>?_;obtain⟨a,e,⟨xs,hq⟩,q⟩:=q1;subst e
 cases r1
 obtain⟨its,rv,p,hz⟩:=I1.tuple hq;refine gF (show s1.heap.IsTuple a its.toArray from p) ?_;refine⟨s1.heap.objs.size,[s1.heap.objs.size],_,_,H1,rfl,I1.kept (t':=s1.toks) λb o e=>aV _ e,Im a _,⟨_,bC _ rfl,rfl,rfl⟩,λb hb=>?_,q⟩;have e:b=s1.heap.objs.size:=by simpa using hb
 subst e;exact I1.Hl (aR _) (I1.hok.fresh (aR _))
def E8{H:Hp}{s:aA}{R:It->Hp->Prop}{E:af->aA->Prop}{lo hi:Int}{t v:Tok}{tk:Nat}(I:Inv X pins σ H s)(h1:-(2 ^ 62)<=lo)(h2:lo<2 ^ 62)(h3:-(2 ^ 62)<=hi)(h4:hi<2 ^ 62)
  (q:R (Zn lo (hi-lo).toNat) H):wpAny (model X.prog X.w) X.A (pyIter (.ref s.heap.objs.size)) (PIE X pins σ tg R) E { s with heap:=s.heap.push { cls:=.type "range",data:=.fields #[.int lo t,.int hi u,.int 1 v]},toks:=tk }:=by
 refine wpAny_pyIter_range (IsRange.new ..) (small_one h1 h2 h3 h4) ?_;have I1:Inv X pins σ H { s with heap:=s.heap.push { cls:=.type "range",data:=.fields #[.int lo t,.int hi u,.int 1 v]},toks:=tk }:=I.kept λb o e=>aV _ e;refine⟨(s.heap.push { cls:=.type "range",data:=.fields #[.int lo t,.int hi u,.int 1 v]}).objs.size,[(s.heap.push { cls:=.type "range",data:=.fields #[.int lo t,.int hi u,.int 1 v]}).objs.size],_,_,H,rfl,
  I1.kept (t':=tk) λb o e=>aV _ e,Io _ lo (hi-lo).toNat,?_,λb hb=>?_,q⟩
 ·have e1:lo+((0:Nat):Int) * 1=lo:=by simp
  have e2:(((hi-lo).toNat:Nat):Int)-((0:Nat):Int)=Builtin.Range.rangeSize lo hi 1:=by rw[rangeSize_one];split<;>lia
  skip
  rw[e1,e2];exact bC _ rfl
 ·have e:b=(s.heap.push { cls:=.type "range",data:=.fields #[.int lo t,.int hi u,.int 1 v]}).objs.size:=by simpa using hb
  subst e;exact I1.Hl (aR _) (I1.hok.fresh (aR _))
abbrev t6 (ta:TA):TI:=λσ H R=>ta σ H λvs H1=>∃j:Int,vs=[.int j]/\-(2 ^ 62)<=j/\j<2 ^ 62/\R (Zn 0 j.toNat) H1
abbrev qt (ta:TA):TI:=λσ H R=>ta σ H λvs H1=>∃i j:Int,vs=[.int i,.int j]/\(-(2 ^ 62)<=i/\i<2 ^ 62/\-(2 ^ 62)<=j/\j<2 ^ 62)/\R (Zn i (j-i).toNat) H1
def LN{a:aC}{ta:TA}{p:Pos}(hg:Gl X "range")(hm:X.mg "range" = none)(ha:PA X [a] ta)(hs:starEach [a] X.env=[(false,eval a X.env)]:=by rfl):PI X tg (.Call (.Name "range" p) [a] [] pos) (t6 ta):=by
 intro pins s σ H R I h;refine Call_ (za I hg hm boot_range (eF (mP (ha pos pins s σ H _ I h) λus s1 ⟨vs,H1,I1,r1,q1⟩=>?_) hs rfl));obtain⟨j,e,q1,q2,q⟩:=q1;subst e
 cases r1 with
 | cons r rr=>
  cases rr
  obtain⟨t,rfl⟩:=r;exact call_range_1 (E8 I1 () () q1 q2 (by simpa using q))
def MM{a b:aC}{ta:TA}{p:Pos}(hg:Gl X "range")(hm:X.mg "range" = none)(ha:PA X [a,b] ta)(hs:starEach [a,b] X.env=[(false,eval a X.env),(false,eval b X.env)]:=by rfl)(hs2:starEach [b] X.env=[(false,eval b X.env)]:=by rfl) :
  PI X tg (.Call (.Name "range" p) [a,b] [] pos) (qt ta):=by
 intro pins s σ H R I h;refine Call_ (za I hg hm boot_range (eF (mP (ha pos pins s σ H _ I h) λus s1 ⟨vs,H1,I1,r1,q1⟩=>?_) (by rw[hs,hs2]) (by rw[hs2];rfl)));obtain⟨i,j,e,⟨q1,q2,q3,q4⟩,q⟩:=q1;subst e
 cases r1 with
 | cons r rr=>
  cases rr with
  | cons r' rr=>
   cases rr
   obtain⟨t,rfl⟩:=r;obtain⟨t',rfl⟩:=r';exact call_range_2 (E8 I1 q1 q2 q3 q4 q)
abbrev abU (wi:TI)(g:TG)(tb:TS):TS:=λD σ H=>wi σ H λJ H1=>∃W:Nat->Nat->St->Hp->Prop,(∃m,W 0 m σ H1)/\∀i m σ H,W i m σ H ->
 (J.stop i H/\D.nx σ H)\/(J.go i H/\∃N:St->Hp->Prop,(∀σ' H',N σ' H'->∃m',m'<m/\W (i+1) m' σ' H')/\∀x H',J.yld i H x H'->g x σ H' λσ2 H2=>tb { D with nx:=N,ct:=N,bk:=D.nx } σ2 H2)
abbrev w9 (fp:bd)(h:aq):bv:=fp.filterMap λb=>(h.get? b).map λo=>(b,o)
def l_{fp:bd}{h:aq}{b:ak}(hb:b∈fp)(e:h.get? b=some o):(b,o)∈w9 fp h:=List.mem_filterMap.mpr ⟨b,hb,by rw[e];rfl⟩
def MU{fp:bd}{h:aq}{p:ak×Obj}(hp:p∈w9 fp h):p.1∈fp/\h.get? p.1=some p.2:=by
 obtain⟨b,hb,e⟩:=List.mem_filterMap.mp hp
 cases q:h.get? b with
 | none=>rw[q]at e;cases e
 | some o=>
  rw[q]at e;have e':(b,o)=p:=a_ e;subst e';exact⟨hb,q⟩
def Inv.pinned{H:Hp}{s:aA}{fp:bd}(I:Inv X pins σ H s)(hf:∀b∈fp,vd X pins H b)(ho:∀b∈fp,∃o,s.heap.get? b=some o/\∀v,o.data≠.cell v):Inv X (pins++w9 fp s.heap) σ H s:=
 I.KI λp hp=>(bH.mp hp).elim (λz=>I.pin p (bG _ z)) λz=>by
  obtain⟨hb,e⟩:=MU z;obtain⟨f0,f1,f2,_⟩:=hf p.1 hb;obtain⟨o,e',d⟩:=ho p.1 hb;rw[e]at e';cases e';exact⟨e,f0,f1,f2,d⟩
def Inv.q_{pl:bv}{H:Hp}(I:Inv X (pins++pl) σ H s):Inv X pins σ H s:=I.KI λp hp=>I.pin p (bG _ (f6 _ hp))
def WQ{iter:aC}{wi:TI}{g:TG}{tb:TS}(hp:PassesOwn (model X.prog X.w) X.A X.env X.xe)(hc:X.calm=true)(hi:PI X tg iter wi)(hg:PG X tg g)(hb:DR X body tb)
  (hs:∀x,foldedSetIterable iter X.env x=pure x:=by intro _;rfl):PS X (.For tg iter body [] pos) (abU wi g tb):=by
 intro pins s σ H D I h;refine wpAny_For (mP (hi pins s σ H _ I h) λv s1 h1=>mP h1 λitv s2 h2=>?_) hs;obtain⟨it,fp,tn,J,H2,e,I2,T,st2,f2,W,⟨m0,w0⟩,turn⟩:=h2;subst e;have stat:∀{H':Hp},(∀b∈fp,H' b=none)->∀b∈fp,vd X pins H' b:=λhn b hb=>⟨hn b hb,(f2 b hb).2⟩;refine codeAny_forLoop_any (λn s'=>∃i σ' H',Inv X pins σ' H' s'/\tn i s'.heap/\(∀b∈fp,H' b=none)/\W i n σ' H') ?_ m0 ⟨0,σ,H2,I2,st2,λb hb=>(f2 b hb).1,w0⟩;rintro n s3 ⟨i,σ3,H3,I3,st3,fr3,w3⟩
 rcases turn i n σ3 H3 w3 with⟨stop,qn⟩|⟨go,N,hN,step⟩
 ·refine e_ hp (mP (T.done X rfl rfl rfl hc i pins s3 σ3 H3 X.xe I3 (stat fr3) st3 stop) λr s4 ⟨hr,I4⟩=>?_);subst hr;exact iF ⟨σ3,H3,I4,qn⟩
 ·refine e_ hp (mP (T.item X rfl rfl rfl hc i pins s3 σ3 H3 X.xe I3 (stat fr3) st3 go) λr s4 ⟨u,hr,h4⟩=>?_);subst hr;refine e_ hp (mP h4 λ_ s5 ⟨x,H5,I5,r5,y5,st5,fr5⟩=>?_);have I5':=I5.pinned (stat fr5) (T.obj _ _ st5);refine e_ hp (mP (hg _ s5 σ3 H5 x u _ I5' r5 (step x H5 y5)) λ_ s6 ⟨σ6,H6,I6,q6⟩=>?_);refine e_ hp (mP (hb _ s6 σ6 H6 _ I6 q6) λf s7 q7=>?_);have again:∀{σ7:St} {H7:Hp},Inv X (pins++w9 fp s5.heap) σ7 H7 s7->N σ7 H7->∃m,m<n/\∃i σ' H',Inv X pins σ' H' s7/\tn i s7.heap/\(∀b∈fp,H' b=none)/\W i m σ' H':=λ{σ7 H7} I7 n7=>by
   obtain⟨m',hm,w7⟩:=hN σ7 H7 n7;refine⟨m',hm,i+1,σ7,H7,I7.q_,T.keep _ _ _ st5 λb hb o e=>(I7.pin (b,o) (bG _ (bG _ (l_ hb e)))).1,λb hb=>?_,w7⟩;obtain⟨o,e,d⟩:=T.obj _ _ st5 b hb;exact(I7.pin (b,o) (bG _ (bG _ (l_ hb e)))).2.1
  cases f with
  | next=>obtain⟨σ7,H7,I7,n7⟩:=q7;exact again I7 n7
  | cont=>obtain⟨σ7,H7,I7,n7⟩:=q7;exact again I7 n7
  | brk=>obtain⟨σ7,H7,I7,q7⟩:=q7;exact⟨σ7,H7,I7.q_,q7⟩
  | ret v=>obtain⟨x7,σ7,H7,I7,r7,q7⟩:=q7;exact⟨x7,σ7,H7,I7.q_,r7,q7⟩
end
def Jl{K:au}{a:ak}{xs:List V}{g:TG}{tb:TS}{D:Ends}{H:Hp}(Pv:Nat->St->Hp->Prop)(h0:Pv 0 σ H)(hl:∀i σ H,i<=xs.length->Pv i σ H->m_ K H a xs)
  (hs:∀i x σ H,xs[i]?=some x->Pv i σ H->g x σ H λσ2 H2=>tb { D with nx:=Pv (i+1),ct:=Pv (i+1),bk:=D.nx } σ2 H2) (hd:∀σ H,Pv xs.length σ H->D.nx σ H) :
  ∃W:Nat->Nat->St->Hp->Prop,(∃m,W 0 m σ H)/\∀i m σ H,W i m σ H ->
   ((YT K a).stop i H/\D.nx σ H)\/((YT K a).go i H/\∃N:St->Hp->Prop,(∀σ' H',N σ' H'->∃m',m'<m/\W (i+1) m' σ' H')/\∀x H',(YT K a).yld i H x H'->g x σ H' λσ2 H2=>tb { D with nx:=N,ct:=N,bk:=D.nx } σ2 H2):=by
 refine⟨λi m σ H=>m=xs.length-i/\i<=xs.length/\Pv i σ H,⟨xs.length,by simp,bL _,h0⟩,?_⟩;rintro i m σ H ⟨rfl,hi,p⟩;have q:=hl i σ H hi p;by_cases hlt:i<xs.length
 ·refine .inr ⟨⟨xs,xs[i],q,by simp[hlt]⟩,Pv (i+1),λσ' H' p'=>⟨xs.length-(i+1),(),rfl,hlt,p'⟩,λx H' y=>?_⟩;obtain⟨e,y⟩:=y;subst e;exact hs i x σ _ (y xs q) p
 ·have e:i=xs.length:=()
  subst e;exact .inl ⟨⟨xs,q,aR _⟩,hd σ H p⟩
def yu{c:TT}{tb:TS}{D:Ends}{H:Hp}(Pv:St->Hp->Prop)(μ:St->Hp->Nat)(h0:Pv σ H)
  (hs:∀σ H,Pv σ H->c σ H λb H1=>if b=true then tb { D with nx:=λσ' H'=>Pv σ' H'/\μ σ' H'<μ σ H,ct:=λσ' H'=>Pv σ' H'/\μ σ' H'<μ σ H,bk:=D.nx } σ H1 else D.nx σ H1)
  (mono:∀σ H Q Q',(∀b H1,Q b H1->Q' b H1)->c σ H Q->c σ H Q'):PF c tb D σ H:=by
 refine⟨λm σ H=>m=μ σ H/\Pv σ H,⟨_,rfl,h0⟩,?_⟩;rintro m σ H ⟨rfl,p⟩;refine mono σ H _ _ (λb H1 q=>?_) (hs σ H p)
 cases b with
 | true=>exact⟨_,λσ' H' ⟨p',l⟩=>⟨_,l,rfl,p'⟩,q⟩
 | false=>exact q
meta abbrev R2:=V->V->Hp->VK->Prop
abbrev pT (X:Cx)(f:af->af->Sem af)(r:R2):Prop:=
 ∀(pins:bv) (s:aA) (σ:St) (H:Hp) (x y:V) (v u:af) (Q:VK),Inv X pins σ H s->RelV x v->RelV y u->r x y H Q ->
  wpAny (model X.prog X.w) X.A (f v u) (EP X pins σ Q) X.xe s
abbrev UnR (X:Cx)(f:af->Sem af)(r:V->Hp->VK->Prop):Prop:=
 ∀(pins:bv) (s:aA) (σ:St) (H:Hp) (x:V) (v:af) (Q:VK),Inv X pins σ H s->RelV x v->r x H Q ->
  wpAny (model X.prog X.w) X.A (f v) (EP X pins σ Q) X.xe s
abbrev j9 (X:Cx)(f:af)(r:List V->Hp->VK->Prop):Prop:=
 ∀(pins:bv) (s:aA) (σ:St) (H:Hp) (xs:List V) (us:ba) (Q:VK),Inv X pins σ H s->Vals xs us->r xs H Q ->
  wpAny (model X.prog X.w) X.A (call f us) (EP X pins σ Q) X.xe s
abbrev abO (X:Cx)(r:V->Hp->(Bool->Hp->Prop)->Prop):Prop:=
 ∀(pins:bv) (s:aA) (σ:St) (H:Hp) (x:V) (v:af) (Q:Bool->Hp->Prop),Inv X pins σ H s->RelV x v->r x H Q ->
  wpAny (model X.prog X.w) X.A (truthy v) (TP X pins σ Q) X.xe s
abbrev Y5 (r:R2)(ta tb:TE):TE:=λσ H Q=>ta σ H λx H1=>tb σ H1 λy H2=>r x y H2 Q
abbrev tUn (r:V->Hp->VK->Prop)(ta:TE):TE:=λσ H Q=>ta σ H λx H1=>r x H1 Q
abbrev rI (C:Int->Int->Prop)(g:Int->Int->V):R2:=λx y H Q=>∃i j,x=.int i/\y=.int j/\C i j/\Q (g i j) H
abbrev VJ (g:Int->Int->V):R2:=λx y H Q=>∃i j,x=.int i/\y=.int j/\Q (g i j) H
abbrev rU (g:Int->V):V->Hp->VK->Prop:=λx H Q=>∃i,x=.int i/\Q (g i) H
section
variable {X:Cx}{a b:aC}{ta tb:TE}{pos:Pos}
def W0(ha:PE X a ta)(hb:PE X b tb){H:Hp}{R:V->V->Hp->Prop}(I:Inv X pins σ H s)
  (h:ta σ H λx H1=>tb σ H1 λy H2=>R x y H2) {Q:af->aA->Prop} {f:af->af->Sem af}
  (hf:∀v u s2 x y H2,Inv X pins σ H2 s2->RelV x v->RelV y u->R x y H2->wpAny (model X.prog X.w) X.A (f v u) Q X.xe s2) :
  wpAny (model X.prog X.w) X.A (eval a X.env) (λv s₁=>wpAny (model X.prog X.w) X.A (eval b X.env) (λu s₂=>wpAny (model X.prog X.w) X.A (f v u) Q X.xe s₂) X.xe s₁) X.xe s:=by
 refine mP (ha pins s σ H _ I h) λv s1 ⟨x,H1,I1,r1,q1⟩=>?_;refine mP (hb pins s1 σ H1 _ I1 q1) λu s2 ⟨y,H2,I2,r2,q2⟩=>?_;exact hf v u s2 x y H2 I2 r1 r2 q2
def Z_{r:R2}(ho:pT X (binaryOp op) r)(ha:PE X a ta)(hb:PE X b tb):PE X (.BinOp a op b pos) (Y5 r ta tb):=by
 k_ne;exact wpAny_BinOp (W0 ha hb I h λv u s2 x y H2 I2 rx ry q=>ho pins s2 σ H2 x y v u Q I2 rx ry q)
def aaC{r:V->Hp->VK->Prop}(ho:UnR X (unaryOp op) r)(ha:PE X a ta):PE X (.UnaryOp op a pos) (tUn r ta):=by
 k_ne;exact UnaryOp_ (mP (ha pins s σ H _ I h) λv s1 ⟨x,H1,I1,r1,q1⟩=>ho pins s1 σ H1 x v Q I1 r1 q1)
def opI{f:af->af->Sem af}{C:Int->Int->Prop}{g:Int->Int->Int}
  (rule:∀(i j:Int) (t u:Tok) (s:aA) (Q:af->aA->Prop) (E:af->aA->Prop),C i j->Q (.int (g i j) s.toks) { s with toks:=s.toks+1 }->wpAny (model X.prog X.w) X.A (f (.int i t) (.int j u)) Q E s) :
  pT X f (rI C λi j=>.int (g i j)):=by
 kcf_m;obtain⟨i,j,rfl,rfl,hc,q⟩:=h;obtain⟨t,rfl⟩:=rx;obtain⟨t',rfl⟩:=ry;exact rule i j t t' s _ _ hc ⟨.int (g i j),H,I.tok _,⟨_,rfl⟩,q⟩
def aay{f:af->af->Sem af}{g:Int->Int->Int}
  (rule:∀(i j:Int) (t u:Tok) (s:aA) (Q:af->aA->Prop) (E:af->aA->Prop),Q (.int (g i j) s.toks) { s with toks:=s.toks+1 }->wpAny (model X.prog X.w) X.A (f (.int i t) (.int j u)) Q E s) :
  pT X f (VJ λi j=>.int (g i j)):=by
 kcf_m;obtain⟨i,j,rfl,rfl,q⟩:=h;obtain⟨t,rfl⟩:=rx;obtain⟨t',rfl⟩:=ry;exact rule i j t t' s _ _ ⟨.int (g i j),H,I.tok _,⟨_,rfl⟩,q⟩
def Th{f:af->af->Sem af}{g:Int->Int->Bool}
  (rule:∀(i j:Int) (t u:Tok) (s:aA) (Q:af->aA->Prop) (E:af->aA->Prop),Q (.bool (g i j)) s->wpAny (model X.prog X.w) X.A (f (.int i t) (.int j u)) Q E s) :
  pT X f (VJ λi j=>.bl (g i j)):=by
 kcf_m;obtain⟨i,j,rfl,rfl,q⟩:=h;obtain⟨t,rfl⟩:=rx;obtain⟨t',rfl⟩:=ry;exact rule i j t t' s _ _ ⟨.bl (g i j),H,I,rfl,q⟩
abbrev abv (i j:Int):Prop:=0<=j/\j<=1000000/\i.natAbs<2 ^ 64
abbrev Sj (i j:Int):Prop:=(-(2 ^ 64)<i/\i<2 ^ 64)\/(-(2 ^ 64)<j/\j<2 ^ 64)
def Sj.ok{i j:Int}(h:Sj i j):IntMulOk i j:=by
 rcases h with⟨h1,h2⟩|⟨h1,h2⟩
 ·exact .of_left (intBits_le_64 h1 h2)
 ·exact .of_right (intBits_le_64 h1 h2)
def YC:pT X (binaryOp .Add) (VJ λi j=>.int (i+j)):=aay λ_ _ _ _ _ _ _ q=>add_int q
def W7:pT X (binaryOp .Sub) (VJ λi j=>.int (i-j)):=aay λ_ _ _ _ _ _ _ q=>sub_int q
def WO:pT X (binaryOp .Mult) (rI Sj λi j=>.int (i * j)):=opI λ_ _ _ _ _ _ _ hc q=>mul_int q hc.ok
def WA:pT X (binaryOp .Mod) (rI (λ_ j=>0<j) λi j=>.int (i % j)):=opI λi j _ _ _ _ _ hc q=>by
 have h1:(0:Int)<j:=hc;exact mod_int' () (by rw[Int.fmod_eq_emod_of_nonneg i ()];exact q)
def WI:pT X (binaryOp .Pow) (rI abv λi j=>.int (i ^ j.toNat)):=opI λ_ _ _ _ _ _ _ hc q=>pow_int_small hc.1 hc.2.1 hc.2.2 q
def unI{f:af->Sem af}{g:Int->Int}
  (rule:∀(i:Int) (t:Tok) (s:aA) (Q:af->aA->Prop) (E:af->aA->Prop),Q (.int (g i) s.toks) { s with toks:=s.toks+1 }->wpAny (model X.prog X.w) X.A (f (.int i t)) Q E s) :
  UnR X f (rU λi=>.int (g i)):=by
 intro pins s σ H x v Q I rx h;obtain⟨i,rfl,q⟩:=h;obtain⟨t,rfl⟩:=rx;exact rule i t s _ _ ⟨.int (g i),H,I.tok _,⟨_,rfl⟩,q⟩
def WL:UnR X (unaryOp .USub) (rU λi=>.int (-i)):=unI λ_ _ _ _ _ q=>neg_int q
end
section
variable {X:Cx}{a b c:aC}{ta tb tc:TE}{pos:Pos}
def aaq:pT X (compareOp .Lt) (VJ λi j=>.bl (decide (i<j))):=Th λ_ _ _ _ _ _ _ q=>lt_int q
def Z0:pT X (compareOp .LtE) (VJ λi j=>.bl (decide (i<=j))):=Th λ_ _ _ _ _ _ _ q=>le_int q
def aaa:pT X (compareOp .Gt) (VJ λi j=>.bl (decide (j<i))):=Th λ_ _ _ _ _ _ _ q=>gt_int q
def Z4:pT X (compareOp .GtE) (VJ λi j=>.bl (decide (j<=i))):=Th λ_ _ _ _ _ _ _ q=>ge_int q
def Pd(b:aC)(h:op≠.In:=by decide)(h2:op≠.NotIn:=by decide):behindInMarks op b=false:=by
 have e1:(op == CmpOp.In)=false:=by cases op<;>first|rfl|exact absurd rfl h
 have e2:(op == CmpOp.NotIn)=false:=by cases op<;>first|rfl|exact absurd rfl h2
 cases b<;>simp[behindInMarks,e1,e2]
def U0{op:CmpOp}{r:R2}(ho:pT X (compareOp op) r)(ha:PE X a ta)(hb:PE X b tb)(hm:behindInMarks op b=false):PE X (.Compare a [op] [b] pos) (Y5 r ta tb):=by
 k_ne;exact wpAny_Compare1 (W0 ha hb I h λv u s2 x y H2 I2 rx ry q=>ho pins s2 σ H2 x y v u Q I2 rx ry q) hm
abbrev Zt (t:TE):TT:=λσ H Q=>t σ H λx H'=>∃k,x=.bl k/\Q k H'
def Ue{op:CmpOp}{r:R2}(ho:pT X (compareOp op) r)(ha:PE X a ta)(hb:PE X b tb)(hm:behindInMarks op b=false):PT X (.Compare a [op] [b] pos) (Zt (Y5 r ta tb)):=by
 k_ne;refine wpAny_isTrue_Compare1 (mP (ha pins s σ H _ I h) λv s1 ⟨x,H1,I1,r1,q1⟩=>mP (hb pins s1 σ H1 _ I1 q1) λu s2 ⟨y,H2,I2,r2,q2⟩=>
  mP (ho pins s2 σ H2 x y v u _ I2 r1 r2 q2) λc s3 ⟨z,H3,I3,r3,k,e,q3⟩=>?_) hm
 subst e
 cases r3
 exact dI ⟨H3,I3,q3⟩
abbrev Pf (r r':R2)(ta tb tc:TE):TE:=λσ H Q=>ta σ H λx H1=>tb σ H1 λy H2=>r x y H2 λz H3=>∃k,z=.bl k /\
 (if k=true then tc σ H3 λw' H4=>r' y w' H4 Q else Q (.bl false) H3)
def Qq{r r':R2}(ho:pT X (compareOp op) r)(ho':pT X (compareOp op') r')(ha:PE X a ta)(hb:PE X b tb)(hc:PE X c tc)
  (hm:lastMarks [op,op'] [b,c]=false:=by with_unfolding_all rfl):PE X (.Compare a [op,op'] [b,c] pos) (Pf r r' ta tb tc):=by
 k_ne;refine Compare_chain (mP (ha pins s σ H _ I h) λv s1 ⟨x,H1,I1,r1,q1⟩=>chain_link (mP (hb pins s1 σ H1 _ I1 q1) λu s2 ⟨y,H2,I2,r2,q2⟩=>
  mP (ho pins s2 σ H2 x y v u _ I2 r1 r2 q2) λd s3 ⟨z,H3,I3,r3,k,e,q3⟩=>?_)) hm
 subst e
 cases r3
 refine dI ?_
 cases k with
 | false=>exact ite_ff ⟨.bl false,H3,I3,rfl,q3⟩
 | true=>exact ite_tt (chain_last (mP (hc pins s3 σ H3 _ I3 q3) λw' s4 ⟨z',H4,I4,r4,q4⟩=>ho' pins s4 σ H4 y z' u w' Q I4 r2 r4 q4))
abbrev XA (K:au)(x:V)(H:Hp)(k:Bool):Prop:=
 match x with
 | .non=>k=false
 | .bl b=>k=b
 | .int i=>k=(i != 0)
 | .str y=>y.length<=sizeLine/\k=((y.length:Int) != 0)
 | .byt y=>y.size<=sizeLine/\k=((y.size:Int) != 0)
 | .ref p=>(∃xs,rG K H p xs/\k=!xs.isEmpty)\/(∃xs,m_ K H p xs/\k=!xs.isEmpty)\/∃kvs,H p=some (.dK kvs)/\k=!kvs.isEmpty
 | _=>False
def Il{κ:Type}{kvs:List (κ×V)}{vs:List (κ×af)}(r:KV kvs vs):(!vs.isEmpty)=!kvs.isEmpty:=by
 cases r<;>rfl
def AZ{xs:List V}{its:ba}(r:Vals xs its):(!its.toArray.isEmpty)=!xs.isEmpty:=by
 cases r<;>simp
def yW:(sizeLine:Nat)<2 ^ 63:=by rw[eG];decide
def Xq:abO X (λx H Q=>∃k,XA X.K x H k/\Q k H):=by
 intro pins s σ H x v Q I rx h;obtain⟨k,e,q⟩:=h;have hl:=yW;have hs:sizeLine=16777216:=eG
 cases x with
 | non=>
  cases rx
  have e':k=false:=e;subst e';exact truthy_none ⟨H,I,q⟩
 | bl b=>
  cases rx
  have e':k=b:=e;subst e';exact dI ⟨H,I,q⟩
 | int i=>
  obtain⟨t,rfl⟩:=rx;have e':k=(i != 0):=e;subst e';exact PySem.P.truthy_int ⟨H,I,q⟩
 | str y=>
  obtain⟨t,rfl⟩:=rx;obtain⟨hy,e'⟩:y.length<=sizeLine/\k=((y.length:Int) != 0):=e;subst e';exact PySem.P.truthy_str () ⟨H,I.tok _,q⟩
 | byt y=>
  obtain⟨t,rfl⟩:=rx;obtain⟨hy,e'⟩:y.size<=sizeLine/\k=((y.size:Int) != 0):=e;subst e';exact PySem.W.truthy_bytes () ⟨H,I.tok _,q⟩
 | ref p=>
  cases rx
  have e':(∃xs,rG X.K H p xs/\k=!xs.isEmpty)\/(∃xs,m_ X.K H p xs/\k=!xs.isEmpty)\/∃kvs,H p=some (.dK kvs)/\k=!kvs.isEmpty:=e
  rcases e' with⟨xs,hx,e'⟩|⟨xs,hx,e'⟩|⟨kvs,hx,e'⟩
  ·subst e';obtain⟨its,r,pl,hz⟩:=I.list hx;have hlen:=r.length;exact wpAny_truthy_list pl.isList (by dsimp[aY];lia) ⟨H,I.tok _,by rw[AZ r];exact q⟩
  ·subst e';obtain⟨its,r,pl,hz⟩:=I.tuple hx;have hlen:=r.length;exact truthy_tuple pl (by dsimp[aY];lia) ⟨H,I.tok _,by rw[AZ r];exact q⟩
  ·subst e';obtain⟨hz,hS,vs,r,m⟩:kvs.length<=sizeLine/\(p == sysModules)=false/\∃vs,KV kvs vs/\s.heap.DictOf (kh X.prog X.w) p vs:=I.hok p _ hx;have hlen:kvs.length=vs.length:=iZ r;exact wpAny_truthy_dict hS m () ⟨H,I.tok _,by rw[Il r];exact q⟩
 | _=>exact(show False from e).elim
def NS(ha:PE X a ta)(he:∀whole,isTrue a X.env whole=(do let v <- whole;standAt a.pos;holding [v] (truthy v))) :
  PT X a (λσ H Q=>ta σ H λx H'=>∃k,XA X.K x H' k/\Q k H'):=by
 k_ne;exact isTrue_plain (mP (ha pins s σ H _ I h) λv s1 ⟨x,H1,I1,r1,q1⟩=>Xq pins s1 σ H1 x v Q I1 r1 q1) (he _)
def Hq:pT X (binaryOp .Add) (λx y H Q=>∃i j,x=.str i/\y=.str j/\i.length+j.length<=sizeLine/\Q (.str (i++j)) H):=by
 kcf_m;obtain⟨i,j,rfl,rfl,hz,q⟩:=h;obtain⟨t,rfl⟩:=rx;obtain⟨t',rfl⟩:=ry;exact add_str (λt' tk=>⟨.str (i++j),H,I.tok _,⟨_,rfl⟩,q⟩) hz
def vals1{x:V}(r:Vals [x] us):∃u,us=[u]/\RelV x u:=by
 cases r with
 | cons r1 r2=>cases r2;exact⟨_,rfl,r1⟩
def vals2{x:V}(r:Vals [x,y] us):∃u w',us=[u,w']/\RelV x u/\RelV y w':=by
 cases r with
 | cons r1 r2=>
  cases r2 with
  | cons r3 r4=>cases r4;exact⟨_,_,rfl,r1,r3⟩
def Ml(hc:X.calm=true):j9 X (.builtin "max") (λxs H Q=>∃i j,xs=[.int i,.int j]/\Q (.int (if j>i then j else i)) H):=by
 w_up;obtain⟨i,j,rfl,q⟩:=h;obtain⟨u,w',rfl,⟨t,rfl⟩,⟨t',rfl⟩⟩:=vals2 r;refine max_two_ints (I.ok.hd hc) λh' tk k=>⟨_,H,I.kept k,?_,q⟩;by_cases hj:j>i
 ·rw[aK hj,aK hj];exact⟨_,rfl⟩
 ·rw[aJ hj,aJ hj];exact⟨_,rfl⟩
def LK(hc:X.calm=true):j9 X (.builtin "min") (λxs H Q=>∃i j,xs=[.int i,.int j]/\Q (.int (if j<i then j else i)) H):=by
 w_up;obtain⟨i,j,rfl,q⟩:=h;obtain⟨u,w',rfl,⟨t,rfl⟩,⟨t',rfl⟩⟩:=vals2 r;refine min_two_ints (I.ok.hd hc) λh' tk k=>⟨_,H,I.kept k,?_,q⟩;by_cases hj:j<i
 ·rw[aK hj,aK hj];exact⟨_,rfl⟩
 ·rw[aJ hj,aJ hj];exact⟨_,rfl⟩
def CG:j9 X (.type "int") (λxs H Q=>(∃i,xs=[.int i]/\Q (.int i) H)\/∃k,xs=[.bl k]/\Q (.int (if k then 1 else 0)) H):=by
 w_up
 rcases h with⟨i,rfl,q⟩|⟨k,rfl,q⟩
 ·obtain⟨u,rfl,t,rfl⟩:=vals1 r;exact call_int_int ⟨.int i,H,I,⟨_,rfl⟩,q⟩
 ·obtain⟨u,rfl,r1⟩:=vals1 r
  cases r1
  exact call_int_bool ⟨.int (if k then 1 else 0),H,I.tok _,⟨_,rfl⟩,q⟩
abbrev aa7 (K:au)(x:V)(H:Hp)(n:Nat):Prop:=
 match x with
 | .str y=>y.length<=sizeLine/\n=y.length
 | .byt y=>y.size<=sizeLine/\n=y.size
 | .ref p=>(∃xs,rG K H p xs/\n=xs.length)\/∃xs,m_ K H p xs/\n=xs.length
 | _=>False
def O_:j9 X (.builtin "len") (λxs H Q=>∃x n,xs=[x]/\aa7 X.K x H n/\Q (.int n) H):=by
 w_up;obtain⟨x,n,rfl,e,q⟩:=h;kcj_m;have hl:=yW;have hs:sizeLine=16777216:=eG
 cases x with
 | str y=>
  obtain⟨t,rfl⟩:=rx;obtain⟨hy,e'⟩:y.length<=sizeLine/\n=y.length:=e;subst e';exact len_str () ⟨.int _,H,I.tok _,⟨_,rfl⟩,q⟩
 | byt y=>
  obtain⟨t,rfl⟩:=rx;obtain⟨hy,e'⟩:y.size<=sizeLine/\n=y.size:=e;subst e';exact PySem.W.len_bytes () ⟨.int _,H,I.tok _,⟨_,rfl⟩,q⟩
 | ref p=>
  cases rx
  have e':(∃xs,rG X.K H p xs/\n=xs.length)\/∃xs,m_ X.K H p xs/\n=xs.length:=e
  rcases e' with⟨xs,hx,e'⟩|⟨xs,hx,e'⟩
  ·subst e';obtain⟨its,r',pl,hz⟩:=I.list hx;have hlen:=r'.length;exact Calls.call_len_list pl.isList (by dsimp[aY];lia) ⟨.int xs.length,H,I.tok _,⟨_,by dsimp[aY];rw[hlen]⟩,q⟩
  ·subst e';obtain⟨its,r',pl,hz⟩:=I.tuple hx;have hlen:=r'.length;exact len_tuple pl (by dsimp[aY];lia) ⟨.int xs.length,H,I.tok _,⟨_,by dsimp[aY];rw[hlen]⟩,q⟩
 | _=>exact(show False from e).elim
end
structure ObjM (h:aq)(x dx C:ak)(mA:Str->bi):Prop where
 obj:h.get? x=some (PySem.W.instObj C dx)
 ns:h.Ns1 dx mA
 ne:dx≠x
def MF{h:aq}{mA:Str->bi}(n:h.Ns1 dx mA):∃od,h.get? dx=some od/\∀name,PySem.W.lookIn name od=some (mA name):=by
 obtain⟨o,es,ep,ho,hd,hk,_,hm⟩:=n;refine⟨o,ho,λname=>?_⟩;have e:=hm name;unfold nsFind findBy at e;rw[<- Array.find?_toList]at e;unfold PySem.W.lookIn;rw[hd];dsimp only;split
 ·rename_i y q;rw[q]at e;exact dj some e
 ·rename_i q;rw[q]at e;have a:es.toList.any (·.refKey)=false:=by
   rw[List.any_eq_false];intro y hy;obtain⟨z,t,hkey⟩:=hk y (Array.mem_toList_iff.mp hy);simp[DictEntry.refKey,hkey]
  have a':¬es.toList.any (·.refKey)=true:=by rw[a];exact bE
  rw[aJ a'];exact dj some e
def ObjM.look{x:ak}{mA:Str->bi}(I:ObjM h x dx C mA):∃od,PySem.W.InstAt h x (PySem.W.instObj C dx) C (some od)/\∀name,PySem.W.lookIn name od=some (mA name):=
 let⟨od,ho,hl⟩:=MF I.ns
 ⟨od,⟨I.obj,rfl,rfl,ho⟩,hl⟩
def zk.some_of{v:V}(r:zk (some v) o):∃u,o=some u/\RelV v u:=by
 cases o with
 | none=>exact(show False from r).elim
 | some u=>exact⟨u,rfl,r⟩
section
variable {P:aj}{w:ah}{H:Hp}{h:aq}{a C dx:ak}{fs:List (Str×V)}
def UW(hok:xH P w H h)(e:H a=some (.ins C dx fs)):∃mA,ObjM h a dx C mA/\(∀f,zk (fs.lookup f) (mA f))/\PySem.Within mA (fs.map (·.1))/\fs.length<=1000/\H dx=some (.own a):=by
 obtain⟨d,z,ne,ob,mA,n,r,q⟩:=(show lW P w H h a (.ins C dx fs)from hok a _ e);exact⟨mA,⟨ob,n,ne⟩,r,q,z,d⟩
end
structure Cls (K:au)(C:ak):Prop where
 pg:PySem.W.plainGet K C Str.empty=true
 hd:PySem.W.hasDictIn K C=true
 po:PySem.W.plainOver K C=true
 sa:PySem.W.findIn K (.ref C) "__setattr__" = some (some (.builtin "object.__setattr__"))
def Cls.get{K:au}(c:Cls K C)(f:Str):PySem.W.plainGet K C f=true:=c.pg
structure Con (K:au)(C:ak)(f:Str)(v:V)(u:af):Prop where
 at_:PySem.W.findIn K (.ref C) f=some (some u)
 rel:RelV v u
 get:PySem.W.specialIn K u "__get__" = some none
 cp:PySem.W.copiedNames.contains f=false
structure Meth (K:au)(C:ak)(m:Str)(f:ak):Prop where
 at_:PySem.W.findIn K (.ref C) m=some (some (.ref f))
 fn:PySem.W.isFn K (.ref f)=true
 kp:PySem.W.keepIn K (.ref f)=true
section
variable {X:Cx}{pins:bv}{σ:St}{H:Hp}{s:aA}{A:az}{E:af->aA->Prop}{Q:af->aA->Prop}{c:af}{b:Bool}
inductive TyOf (K:au) (H:Hp):V->af->Prop where
 | non:TyOf K H .non (.type "NoneType")
 | bl (x:Bool):TyOf K H (.bl x) (.type "bool")
 | int (i:Int):TyOf K H (.int i) (.type "int")
 | str (x:Str):TyOf K H (.str x) (.type "str")
 | flt (x:UInt64):TyOf K H (.flt x) (.type "float")
 | lst {a:ak} {xs:List V} (e:H a=some (.lst xs)):TyOf K H (.ref a) (.type "list")
 | frz {a:ak} {o:Obj} {xs:List V} (e:H a=some (.frz o (.lst xs))):TyOf K H (.ref a) (.type "list")
 | tup {a:ak} {xs:List V} (e:H a=some (.tup xs)):TyOf K H (.ref a) (.type "tuple")
 | dK {a:ak} {kvs:List (Key×V)} (e:H a=some (.dK kvs)):TyOf K H (.ref a) (.type "dict")
 | dT {a:ak} {kvs:List (List Key×V)} (e:H a=some (.dT kvs)):TyOf K H (.ref a) (.type "dict")
 | ins {a C dx:ak} {fs:List (Str×V)} (e:H a=some (.ins C dx fs)) (cl:Cls K C) (ha:PySem.W.findIn K (.ref C) "__class__" = some (some (.builtin "object.__class__")))
   (hn:PySem.W.specialIn K (.builtin "object.__class__") "__get__" = some (some (.builtin "getset_descriptor.__get__"))) (htk:PySem.W.takesIn K (.builtin "object.__class__")=some true)
   (hm:PySem.W.mroIn K C (.type "object")=some true):TyOf K H (.ref a) (.ref C)
def MI{x:V}{t:af}(I:Inv X pins σ H s)(rx:RelV x u)(ty:TyOf X.K H x t)(e:PySem.W.kitOne X.K t c=some b)(h:∀tk,Q (.bool b) { s with toks:=tk }) :
  wpAny (model X.prog X.w) A (call (.builtin "isinstance") [u,c]) Q E s:=by
 cases ty with
 | non=>cases(show u=Value.none from rx);exact c6 PySem.W.kitx_none I.E6 True.intro e (λz=>nomatch z) h
 | bl y=>cases(show u=Value.bool y from rx);exact c6 PySem.W.kitx_bool I.E6 True.intro e (λz=>nomatch z) h
 | int i=>obtain⟨t,q⟩:=(show ∃t,u=Value.int i t from rx);cases q;exact c6 PySem.W.kitx_int I.E6 True.intro e (λz=>nomatch z) h
 | str y=>obtain⟨t,q⟩:=(show ∃t,u=Value.str y t from rx);cases q;exact c6 PySem.W.kitx_str I.E6 True.intro e (λz=>nomatch z) h
 | flt y=>obtain⟨t,q⟩:=(show ∃t,u=Value.float y t from rx);cases q;exact c6 PySem.W.kitx_float I.E6 True.intro e (λz=>nomatch z) h
 | @lst a xs ea=>
  cases(show u=Value.ref a from rx)
  obtain⟨_,_,n,_,h1⟩:=(show lW X.prog X.w H s.heap a (.lst xs)from I.hok a _ ea);exact c6 PySem.W.kitx_list I.E6 ⟨_,h1,rfl⟩ e (λz=>nomatch z) h
 | @frz a ob xs ea=>
  cases(show u=Value.ref a from rx)
  obtain⟨_,_,_,n,_,h1⟩:=(show lW X.prog X.w H s.heap a (.frz ob (.lst xs))from I.hok a _ ea);exact c6 PySem.W.kitx_list I.E6 ⟨_,h1,rfl⟩ e (λz=>nomatch z) h
 | @tup a xs ea=>
  cases(show u=Value.ref a from rx)
  obtain⟨_,_,_,p⟩:=(show lW X.prog X.w H s.heap a (.tup xs)from I.hok a _ ea);obtain⟨o,h1,h2,_⟩:=p;exact c6 PySem.W.kitx_tuple I.E6 ⟨o,h1,h2⟩ e (λz=>nomatch z) h
 | @dK a kvs ea=>
  cases(show u=Value.ref a from rx)
  obtain⟨_,_,vs,_,p⟩:=(show lW X.prog X.w H s.heap a (.dK kvs)from I.hok a _ ea);obtain⟨o,es,ep,h1,h2,_⟩:=p;exact c6 PySem.W.kitx_dict I.E6 ⟨o,h1,h2.1⟩ e (λz=>nomatch z) h
 | @dT a kvs ea=>
  cases(show u=Value.ref a from rx)
  obtain⟨_,_,xs,_,o,es,ep,h1,h2,_⟩:=(show lW X.prog X.w H s.heap a (.dT kvs)from I.hok a _ ea);exact c6 PySem.W.kitx_dict I.E6 ⟨o,h1,h2.1⟩ e (λz=>nomatch z) h
 | @ins a C dx fs ea cl ha hn htk hm=>
  cases(show u=Value.ref a from rx)
  obtain⟨mA,O,_⟩:=UW I.hok ea;obtain⟨od,J,_⟩:=O.look;exact c6 (PySem.W.kitx_own (cl.get _) cl.hd ha hn htk hm) I.E6 J e (λz=>nomatch z) h
end
structure Room (k:Nat)(A:az):Prop where
 hd:A.handled=none
 dp:A.depth+3 * k+5<recursionLimit
 un:A.units+16 * k+200<cLine
def Room.mono{k:Nat}{A:az}(r:Room k A)(h:j<=k):Room j A:=⟨r.hd,by have:=r.dp;lia,by have:=r.un;lia⟩
def Room.deeper{k:Nat}{A:az}(r:Room (k+1) A)(env:Env):Room k (A.deeper env):=
 ⟨r.hd,by have:=r.dp;show A.depth+1+3 * k+5<_;lia,by have:=r.un;show A.units+3+16 * k+200<_;lia⟩
def Room.depth{k:Nat}{A:az}(r:Room k A):A.depth<recursionLimit:=by have:=r.dp;lia
def Room.units{k:Nat}{A:az}(r:Room k A):A.units+64<cLine:=by have:=r.un;lia
abbrev abk:TA:=λ_ H Q=>Q [] H
abbrev Ze (ta:TE)(tr:TA):TA:=λσ H Q=>ta σ H λx H1=>tr σ H1 λxs H2=>Q (x::xs) H2
section
variable {X:Cx}{e:aC}{es:List aC}{te:TE}{t:TA}{pos:Pos}
def Et:PA X [] abk:=λ_ _ _ _ H Q I h=>Calls.spliced_nil ⟨[],H,I,.nil,h⟩
def xW(ha:PE X e te)(hr:PA X es t)(hs:starEach (e::es) X.env=(false,eval e X.env)::starEach es X.env:=by rfl):PA X (e::es) (Ze te t):=by
 intro pos pins s σ H Q I h;rw[hs]
 skip
 refine Calls.spliced_cons (mP (ha pins s σ H _ I h) λu s1 ⟨x,H1,I1,r1,q1⟩=>?_);exact mP (hr pos pins s1 σ H1 _ I1 q1) λus s2 ⟨xs,H2,I2,r2,q2⟩=>⟨x::xs,H2,I2,.cons r1 r2,q2⟩
abbrev abx (t:TA):TE:=λσ H Q=>t σ H λxs H1=>xs.length<=sizeLine/\∀p,H1 p=none->Q (.ref p) (upd H1 p (.tup xs))
abbrev ab1 (t:TA):TE:=λσ H Q=>t σ H λxs H1=>xs.length<=sizeLine/\∀p,H1 p=none->Q (.ref p) (upd H1 p (.lst xs))
def Ys{x1}(h:PA X es t):PE X (.Tuple es x1 pos) (abx t):=by
 intro pins s σ H Q I hq;refine wpAny_Tuple_spliced (mP (h pos pins s σ H _ I hq) λus s1 ⟨xs,H1,I1,r,z,q⟩=>⟨by rw[<- r.length];exact z,?_⟩);have hf:H1 s1.heap.objs.size=none:=I1.hok.fresh (aR _);refine⟨.ref s1.heap.objs.size,upd H1 s1.heap.objs.size (.tup xs),I1.laid (t':=s1.toks) (λb u e=>aV _ e) (aR _) ?_,rfl,q _ hf⟩;exact⟨z,us,r,⟨_,bC _ rfl,rfl,rfl,_,rfl⟩⟩
def X7(h:PA X es t):PE X (.List es pos) (ab1 t):=by
 intro pins s σ H Q I hq;refine wpAny_List_spliced (mP (h pos pins s σ H _ I hq) λus s1 ⟨xs,H1,I1,r,z,q⟩=>⟨by rw[<- r.length];exact z,?_⟩);have hf:H1 s1.heap.objs.size=none:=I1.hok.fresh (aR _);refine⟨.ref s1.heap.objs.size,upd H1 s1.heap.objs.size (.lst xs),I1.laid (t':=s1.toks) (λb u e=>aV _ e) (aR _) ?_,rfl,q _ hf⟩;exact⟨z,us,0,r,bC _ rfl⟩
end
meta abbrev Sp:=List V->Hp->VK->XK->Prop
meta abbrev Sb:=List Env->Hp->aA->XK->af->aA->Prop
structure Env0 (P:aj)(w:ah)(K:au)(mg:Str->bi)(base:aq)(A:az)(outer:List Env)(s:aA)(H:Hp):Prop where
 frames:A.frames=some outer
 mod:Mod K mg base
 bs:∀b o,base.get? b=some o->s.heap.get? b=some o/\H b=none
 bsz:base.objs.size<=s.heap.objs.size
 AX:s.heap.FunFrames base outer
 frf:∀b∈frs outer,H b=none
 hok:xH P w H s.heap
 bare:AllBare s.gens
abbrev CE (outer:List Env)(P:aj)(w:ah)(H:Hp)(s:aA)(Q:VK)(u:af)(s':aA):Prop:=
 ∃v H',s'.os=s.os/\AllBare s'.gens/\Un (frs outer) [] H H' s.heap s'.heap/\xH P w H' s'.heap/\RelV v u/\Q v H'
abbrev CR (CX:Sb)(outer:List Env)(P:aj)(w:ah)(H:Hp)(s:aA)(Q:VK)(E:XK)(r:Result)(s':aA):Prop:=
 match r with
 | .ok (.ret u)=>CE outer P w H s Q u s'
 | .ok _=>False
 | .error e=>CX outer H s E e s'
structure FnOk (P:aj)(w:ah)(K:au)(mg:Str->bi)(base:aq)(CX:Sb)(k:Nat)(f:ak)(fd:FuncData)(ps:ar)(sp:Sp):Prop where
 len:∀vs H Q E,sp vs H Q E->vs.length=ps.length
 run:∀(A:az) (outer:List Env) (s:aA) (H:Hp) (args:Args) (us:ba) (vs:List V) (Q:VK) (E:XK),Room k A->Env0 P w K mg base A outer s H->BindsTo s fd args (ps.zip us)->Vals vs us->sp vs H Q E ->
  codeAny (model P w) A (.call (.ref f) args) (CR CX outer P w H s Q E) s
section
variable {X:Cx}{pins:bv}{σ:St}{H:Hp}{s s':aA}
def Inv.abI(I:Inv X pins σ H s):Env0 X.prog X.w X.K X.mg X.base X.A X.stack s H:=
 ⟨I.ok.frames,I.ok.mod,I.bs,bJ I.ok.bsz I.sz,I.stack,I.LA,I.hok,I.bare⟩
def Inv.after{Q:VK}(I:Inv X pins σ H s)(h:CE X.stack X.prog X.w H s Q u s'):EP X pins σ Q u s':=by
 obtain⟨v,H',os,bare,un,hok,r,q⟩:=h;obtain⟨hh,g,d,t,os'⟩:=s';obtain rfl:os'=s.os:=os;exact⟨v,H',I.call (h':=hh) (g':=g) (d':=d) (t':=t) (ch:=[]) un hok bare (λb z=>absurd z (by simp)),r,q⟩
end
abbrev V6 (sp:Sp)(dvs:List V)(E:XK)(t:TA):TE:=λσ H Q=>t σ H λvs H1=>sp (vs++dvs) H1 Q E
abbrev Binds (K:au)(fd:FuncData)(ps:ar)(ds:ba):Prop:=
 ∀(s:aA) (us:ba),K.In s.heap->(us++ds).length=ps.length->BindsTo s fd ⟨us,[]⟩ (ps.zip (us++ds))
def Binds.all{K:au}{ps:ar}(h:∀us:ba,us.length=ps.length->bindArgs fd ⟨us,[]⟩=pure (ps.zip us)):Binds K fd ps []:=λs us _ hl=>by
 rw[cH]at hl ⊢;exact .of_eq (h us hl)
abbrev Passes (CX:Sb)(X:Cx)(E:XK):Prop:=∀(pins:bv) (σ:St) (H:Hp) (s:aA) (e:af) (s':aA),Inv X pins σ H s->CX X.stack H s E e s'->X.xe e s'
section
variable {X:Cx}{CX:Sb}{k:Nat}{f C:ak}{fd:FuncData}{ps:ar}{sp:Sp}{dvs:List V}{ds:ba}{E:XK}{x:Str}{p pos:Pos}{e:aC}{es:List aC}{t:TA}
def Xi{H:Hp}{Q:VK}(F:FnOk X.prog X.w X.K X.mg X.base CX k f fd ps sp)(hr:Room k X.A)(hb:Binds X.K fd ps ds)(hd:Vals dvs ds)(hx:Passes CX X E)
  (I:Inv X pins σ H s) (r:Vals vs us) (h:sp (vs++dvs) H Q E):wpAny (model X.prog X.w) X.A (call (.ref f) us) (EP X pins σ Q) X.xe s:=by
 have r2:Vals (vs++dvs) (us++ds):=r.append hd;have hl:(us++ds).length=ps.length:=by rw[<- r2.length];exact F.len _ _ _ _ h
 refine wpAny_call (iL (F.run X.A X.stack s H ⟨us,[]⟩ (us++ds) (vs++dvs) Q E hr I.abI (hb s us I.E6 hl) r2 h) λr s' hq=>?_)
 cases r with
 | error e=>exact hx pins σ H s e s' I hq
 | ok fl=>
  cases fl with
  | ret u=>exact I.after hq
  | next=>exact False.elim hq
  | brk=>exact False.elim hq
  | cont=>exact False.elim hq
def SN(F:FnOk X.prog X.w X.K X.mg X.base CX k f fd ps sp)(hr:Room k X.A)(hg:Gl X x)(hm:X.mg x=some (.ref f))(hk:PySem.W.keepIn X.K (.ref f)=true)(hb:Binds X.K fd ps ds)(hd:Vals dvs ds)(hx:Passes CX X E)
  (ha:PA X (e::es) t) (hdb:(x == ("__debug__" : Str))=false:=by decide) (he:starEach (e::es) X.env=(false,eval e X.env)::starEach es X.env:=by rfl) (hpl:(backTo pos (starEach es X.env)).any (·.1)=false:=by rfl) :
  PE X (.Call (.Name x p) (e::es) [] pos) (V6 sp dvs E t):=by
 k_ne;refine iN (Ka I hg hm ?_ hdb);refine PySem.W.callWith_K (h₀:=X.base) I.ok.mod.kin hk (mP (ha pos pins s σ H _ I h) λus s1 ⟨vs,H1,I1,r,q⟩=>⟨I1.E6,?_⟩) he hpl;exact Xi F hr hb hd hx I1 r q
structure Mk (K:au)(C f:ak):Prop where
 makes:PySem.W.makesIn K C=true
 init:PySem.W.findIn K (.ref C) "__init__" = some (some (.ref f))
 fn:PySem.W.isFn K (.ref f)=true
 kp:PySem.W.keepIn K (.ref C)=true
end
section
variable {fd:FuncData}{ps ks:ar}
structure KBinds (K:au)(fd:FuncData)(ps ks:ar)(g:ba->ba->ba)(gV:List V->List V->List V):Prop where
 to:∀(s:aA) (us ws:ba),K.In s.heap->(g us ws).length=ps.length->BindsTo s fd ⟨us,ks.zip ws⟩ (ps.zip (g us ws))
 rel:∀{vs:List V} {us:ba} {zs:List V} {ws:ba},Vals vs us->Vals zs ws->Vals (gV vs zs) (g us ws)
end
structure FnScope (N P:ar)(sc:Scope):Prop where
 kind:sc.kind=.function
 co:sc.isCoroutine=false
 gen:sc.isGenerator=false
 nd:N.Nodup
 pre:N.take P.length=P
 par:∀x∈P,sc.names.lookup x=some .local\/sc.names.lookup x=some .cell
 nofree:∀y∈sc.names,y.2≠.free
theorem CY{kindOf:Str->Option NameKind}{x:Str}:∀{binds:List (Str×af)}{m:Str->bi},(∀v,(x,v)∉binds)->bindL kindOf binds m x=m x
 | [],_,_=>rfl
 | (n,v)::r,m,h=>by
  unfold bindL;rw[CY λw hw=>h w (aN _ hw)];split
  ·have:x≠n:=by rintro rfl;exact h v aM
   simp[this]
  ·rfl
theorem CO{kindOf:Str->Option NameKind}{x:Str}:∀{binds:List (Str×af)}{m:Str->bi},(∀v,(x,v)∉binds)->bindC kindOf binds m x=m x
 | [],_,_=>rfl
 | (n,v)::r,m,h=>by
  unfold bindC;rw[CO λw hw=>h w (aN _ hw)];split
  ·rfl
  ·have:x≠n:=by rintro rfl;exact h v aM
   simp[this]
theorem CF{kindOf:Str->Option NameKind}{x:Str}{v:af}:∀{P:ar}{vs:ba}{i:Nat}{m:Str->bi},P.Nodup->P[i]?=some x->vs[i]?=some v->kindOf x=some .local ->
  bindL kindOf (P.zip vs) m x=some v
 | [],_,_,_,_,h,_,_=>by simp at h
 | _::_,[],_,_,_,_,h,_=>by simp at h
 | p::P,w::vs,0,m,nd,h1,h2,hk=>by
  simp at h1 h2;subst h1;subst h2;show bindL kindOf ((p,w)::P.zip vs) m p=_;unfold bindL;rw[CY λv hv=>(cR.mp nd).1 (jc hv).1,aK hk];simp
 | p::P,w::vs,i+1,m,nd,h1,h2,hk=>by
  skip
  unfold bindL;exact CF (i:=i) (cR.mp nd).2 (by simpa using h1) (by simpa using h2) hk
theorem CI{kindOf:Str->Option NameKind}{x:Str}{v:af}:∀{P:ar}{vs:ba}{i:Nat}{m:Str->bi},P.Nodup->P[i]?=some x->vs[i]?=some v->kindOf x≠some .local ->
  bindC kindOf (P.zip vs) m x=some v
 | [],_,_,_,_,h,_,_=>by simp at h
 | _::_,[],_,_,_,_,h,_=>by simp at h
 | p::P,w::vs,0,m,nd,h1,h2,hk=>by
  simp at h1 h2;subst h1;subst h2;show bindC kindOf ((p,w)::P.zip vs) m p=_;unfold bindC;rw[CO λv hv=>(cR.mp nd).1 (jc hv).1,aJ hk];simp
 | p::P,w::vs,i+1,m,nd,h1,h2,hk=>by
  skip
  unfold bindC;exact CI (i:=i) (cR.mp nd).2 (by simpa using h1) (by simpa using h2) hk
abbrev start (N:ar)(vs:List V):St:=vs.map some++List.replicate (N.length-vs.length) none
abbrev IG (CX:Sb)(P:aj)(w:ah)(K:au)(mg:Str->bi)(base:aq)(N:ar)(qual:Str)(scope:Scope)(f:ak)(cd:af)(A:az)(outer:List Env)(s:aA)(H:Hp)(E:XK):Cx where
 prog:=P
 w:=w
 K:=K
 mg:=mg
 base:=base
 A:=A.deeper (envOfC qual scope s.heap.objs.size f cd)
 N:=N
 s₀:=s
 H₀:=H
 env:=envOfC qual scope s.heap.objs.size f cd
 outer:=outer
 stack:=envOfC qual scope s.heap.objs.size f cd::outer
 ex:=[]
 calm:=true
 fn:=λ_=>true
 pn:=[]
 xe:=λe s'=>wpAny (model P w) (A.deeper (envOfC qual scope s.heap.objs.size f cd)) (leaving (envOfC qual scope s.heap.objs.size f cd) e) (λ_ s''=>CX outer H s E e s'') (λe' s''=>CX outer H s E e' s'') s'
def Gz{sc:Scope}{n:Nat}{x:Str}(h:sc.names.lookup x=some .cell):∃c,(cellsFrom n sc.names []).lookup x=some c:=by
 have q:=PySem.W.cellsFrom_some sc.names n [] (.inl h);exact fC.mp q
def MR{CX:Sb}{P:aj}{w:ah}{K:au}{mg:Str->bi}{base:aq}{N ps:ar}{scope:Scope}{f:ak}{A:az}{outer:List Env}{s:aA}{H:Hp}{E:XK}{vs:List V}
  (S:FnScope N ps scope) (hd:A.handled=none) (e0:Env0 P w K mg base A outer s H) (hl:vs.length=ps.length) (r:Vals vs us)
  (x:InCallC s s.heap.objs.size (bindL (envOfC qual scope s.heap.objs.size f cd).kindOf (ps.zip us) λ_=>none) (cellsFrom (s.heap.objs.size+1) scope.names []) (bindC (envOfC qual scope s.heap.objs.size f cd).kindOf (ps.zip us) λ_=>none) s1) :
  Inv (IG CX P w K mg base N qual scope f cd A outer s H E) [] (start N vs) H s1:=by
 have hpl:ps.length<=N.length:=by have:=dj List.length S.pre;rw[bK]at this;lia
 obtain⟨h1,tk,rfl,hk⟩:=x.done;have noA:∀b:ak,b∉(IG CX P w K mg base N qual scope f cd A outer s H E).ex:=λb z=>absurd (show b∈([]:bd)from z) (by simp);refine⟨⟨e0.mod,S.kind,rfl,rfl,aR _,λy z c h1 h2=>?_,λy hy=>?_,λy c _ h=>?_,λ_=>hd,Around.frames_deeper e0.frames,.inr ⟨rfl,rfl⟩,λb z=>absurd z (noA b),e0.bs,e0.bsz,λb _ _=>noA b,λb z=>absurd z (noA b),e0.AX,e0.frf⟩,
  rfl,e0.bare,Un.kept hk,⟨_,x.toInCall.ns,λi y v h1 h2 h3=>?_⟩,λy c h=>⟨_,x.cell y c h⟩,e0.hok.fresh (aR _),λy c h=>?_,λp hp=>absurd (show p∈([]:bv)from hp) (by simp),e0.hok.kept hk,?_⟩
 ·exact name_of_addr x.apart (fL h1) (fL h2)
 ·have hy:scope.names.lookup y=some .cell\/scope.names.lookup y=some .free:=hy
  rcases hy with hy|hy
  ·exact Gz hy
  ·exact absurd rfl (S.nofree _ (fL hy))
 ·exact ja (x.above y c (fL h))
 ·have hi:i<vs.length:=by
   unfold start at h2;by_cases hi:i<vs.length
   ·exact hi
   ·rw[dJ (by simpa using hi)]at h2;rw[List.getElem?_replicate]at h2;split at h2<;>cases h2
  have ha:vs[i]?=some v:=by
   unfold start at h2;rw[bI (by simpa using hi),aO]at h2
   cases e:vs[i]? with
   | none=>rw[e]at h2;cases h2
   | some a=>rw[e]at h2;cases h2;rfl
  obtain⟨u,hu,rv⟩:=r.get ha;have hp:ps[i]?=some y:=by
   rw[<- S.pre,gv ()];exact h1
  have ndP:ps.Nodup:=by rw[<- S.pre];exact S.nd.sublist (List.take_sublist _ _)
  refine⟨u,rv,?_⟩
  rcases S.par y (aW hp)with k|k
  ·exact .inl ⟨k,CF ndP hp hu k⟩
  ·obtain⟨c,e⟩:=Gz (n:=s.heap.objs.size+1) k;refine .inr ⟨.inl k,c,e,?_⟩;have q:=x.cell y c e;rw[CI ndP hp hu (by show scope.names.lookup y≠_;rw[k];decide)]at q;exact q
 ·exact e0.hok.fresh (ja (x.above y c (fL h)))
 ·unfold start;show _=N.length;rw[aQ,aH,List.length_replicate]
  lia
def aaj{CX:Sb}{P:aj}{w:ah}{K:au}{mg:Str->bi}{base:aq}{k:Nat}{f:ak}{kV pm ct:af}
  {osl:Array (bi)} {N ps:ar} {sp:Sp} (lk:K.lookup f=some ⟨oc,od,.func (PySem.W.fnOf name qual params body scope dV kV doc pm an cdv ct),osl⟩) (hcd:PySem.W.codeIn K cdv qual=true) (S:FnScope N ps scope)
  (len:∀vs H Q E,sp vs H Q E->vs.length=ps.length)
  (hbody:∀(A:az) (outer:List Env) (s:aA) (H:Hp) (vs:List V) (Q:VK) (E:XK),Room k (A.deeper (envOfC qual scope s.heap.objs.size f cdv))->sp vs H Q E ->
   ∃t,DR (IG CX P w K mg base N qual scope f cdv A outer s H E) body t/\t { nx:=λ_ H'=>Q .non H',rt:=Q } (start N vs) H) :
  FnOk P w K mg base CX (k+1) f (PySem.W.fnOf name qual params body scope dV kV doc pm an cdv ct) ps sp:=by
 refine⟨len,λA outer s H args us vs Q E hr e0 hb r hsp=>?_⟩;have hl:=len _ _ _ _ hsp;have KX:K.In s.heap:=e0.mod.kin.keeps λb o e=>(e0.bs b o e).1;have lim:s.heap.NoLimit:=e0.mod.nolimit.keeps λb o e=>(e0.bs b o e).1;have hkind:∀y∈ps.zip us,scope.names.lookup y.1=some .local\/(scope.names.lookup y.1=some .cell/\((cellsFrom (s.heap.objs.size+1) scope.names []).lookup y.1).isSome=true):=λ⟨n,v⟩ hy=>by
  rcases S.par n (jc hy).1 with q|q
  ·exact .inl q
  ·exact .inr ⟨q,PySem.W.cellsFrom_some _ _ _ (.inl q)⟩
 refine codeAny_call_function hr.depth (KX _ _ lk) rfl S.co S.gen rfl (PySem.W.codeRec_of KX hcd) (hb _ _ _ _ ?_);refine wpAny_newFunctionEnv_cells S.kind hkind λenv he s1 x=>?_;subst he;refine⟨lim.keeps x.toInCall.keep,codeAny_func ?_⟩;obtain⟨t,ht,hq⟩:=hbody A outer s H vs Q E (hr.deeper _) hsp;have I:Inv (IG CX P w K mg base N qual scope f cdv A outer s H E) [] (start N vs) H s1:=MR S hr.hd e0 hl r x;refine f7 (ht [] s1 (start N vs) H _ I hq) (λfl s' hs=>?_) λe s' hs=>hs;have fin:∀{σ':St} {H':Hp} {v:V} {u:af},Inv (IG CX P w K mg base N qual scope f cdv A outer s H E) [] σ' H' s'->RelV v u->Q v H'->CE outer P w H s Q u s':=
  λ{σ' H' v u} J rv q=>⟨v,H',J.os,J.bare,J.base,J.hok,rv,q⟩
 cases fl with
 | ret u=>
  obtain⟨v,σ',H',J,rv,q⟩:=hs;exact fin J rv q
 | next=>
  obtain⟨σ',H',J,q⟩:=hs;exact fin (v:=V.non) (u:=Value.none) J rfl q
 | brk=>
  obtain⟨_,_,_,q⟩:=hs;exact False.elim q
 | cont=>
  obtain⟨_,_,_,q⟩:=hs;exact False.elim q
section
variable {X:Cx}{x:Str}{p pos:Pos}{e:aC}{es:List aC}{t:TA}{id T:String}{r:List V->Hp->VK->Prop}
abbrev tCB (r:List V->Hp->VK->Prop)(t:TA):TE:=λσ H Q=>t σ H λvs H1=>r vs H1 Q
def Nr(hc:j9 X (.builtin id) r)(hg:Gl X x)(hm:X.mg x=none)(hv:bootBuiltins x=some (.builtin id))(ha:PA X (e::es) t)(hn:x ≠ "__name__" := by decide)(hdb:(x == ("__debug__" : Str))=false:=by decide)
  (he:starEach (e::es) X.env=(false,eval e X.env)::starEach es X.env:=by rfl) (hpl:(backTo pos (starEach es X.env)).any (·.1)=false:=by rfl):PE X (.Call (.Name x p) (e::es) [] pos) (tCB r t):=by
 k_ne;refine iN (za I hg hm hv ?_ hn hdb);exact PyProof.Rows.callWith_builtin1 (mP (ha pos pins s σ H _ I h) λus s1 ⟨vs,H1,I1,r1,q1⟩=>hc pins s1 σ H1 vs us Q I1 r1 q1) he hpl
def Ms(hc:j9 X (.type T) r)(hg:Gl X x)(hm:X.mg x=none)(hv:bootBuiltins x=some (.type T))(ha:PA X (e::es) t)(hn:x ≠ "__name__" := by decide)(hdb:(x == ("__debug__" : Str))=false:=by decide)
  (he:starEach (e::es) X.env=(false,eval e X.env)::starEach es X.env:=by rfl) (hpl:(backTo pos (starEach es X.env)).any (·.1)=false:=by rfl):PE X (.Call (.Name x p) (e::es) [] pos) (tCB r t):=by
 k_ne;refine iN (za I hg hm hv ?_ hn hdb);exact eF (mP (ha pos pins s σ H _ I h) λus s1 ⟨vs,H1,I1,r1,q1⟩=>hc pins s1 σ H1 vs us Q I1 r1 q1) he hpl
end
end L2
namespace HT
open PySem PyProof.Rows
abbrev lexLt:ag->ag->Bool
 | [],[]=>false
 | [],_::_=>true
 | _::_,[]=>false
 | x::xs,y::ys=>if x=y then lexLt xs ys else decide (x<y)
def qF(x y:Int)(xs ys:ag):lexLt (x::xs) (y::ys)=if x=y then lexLt xs ys else decide (x<y):=rfl
def pF:lexLt [] []=false:=rfl
def m9(y:Int)(ys:ag):lexLt [] (y::ys)=true:=rfl
def oR(x:Int)(xs:ag):lexLt (x::xs) []=false:=rfl
def Q_(A:az)(s:aA)(a:Int)(t:Tok)(c:Int)(u:Tok):∃e,SeqAt.EqAt A s (.int a t) (.int c u) e/\(e=true ↔ a=c):=
 ⟨(a == c),SeqAt.EqAt.int_int a t c u,by simp⟩
def O1(A:az)(s:aA)(a:Int)(t:Tok)(c:Int)(u:Tok)(prog:aj)(w:ah)(E:af->aA->Prop)(Q:af->aA->Prop)(h:Q (.bool (decide (a<c))) s) :
  wpAny (model prog w) A (richCompare .Lt (.int a t) (.int c u)) Q E s:=
 (PyProof.Rows.lt_int h:wpAny (model prog w) A (compareOp .Lt (.int a t) (.int c u)) Q E s)
section
open PySem.SeqAt
open PySem.AutoSeq1 (wpAny_loadPart')
open PySem.MeetsSeq PySem.MeetsSeq2 PySem.MeetsSeq3
def Cw(l b:ak)(items items2:Array af)(n n2:Nat)(dd dd2:Option ak)(sl sl2:Array (bi))(ns ms:ag)(hi:IntsAre items.toList ns)(hj:IntsAre items2.toList ms) :
  Meets (Builtin.«tuple.__lt__» ⟨[.ref l,.ref b],[]⟩)
   (λ_ R s=>s.heap.get? l=some { cls:=.type "tuple",dict:=dd,data:=.seq items n,slots:=sl }/\s.heap.get? b=some { cls:=.type "tuple",dict:=dd2,data:=.seq items2 n2,slots:=sl2 } /\
    R (.ok (.ret (.bool (lexLt ns ms)))) s):=
 .of_wp λprog w A R s h=>by
  obtain⟨hp,g,d,tk,os⟩:=s;obtain⟨hl,hb,h⟩:=h;have f2:=AutoSeq1.sub_tuple_tuple;have z1:items.size=ns.length:=by rw[<- hi.length];simp
  have z2:items2.size=ms.length:=by rw[<- hj.length];simp
  wp_walk using wpAny_loadPart' hl,wpAny_loadPart' hb,wpAny_forIn_list _ (λrest b s'=>b.1=none/\s'=⟨hp,g,d,tk,os⟩/\∃(vs ws:ba) (ns' ms':ag),rest=vs.zip ws /\
   IntsAre vs ns'/\IntsAre ws ms'/\ns'.length+items2.size=ms'.length+items.size/\R (.ok (.ret (.bool (lexLt ns' ms')))) ⟨hp,g,d,tk,os⟩) _
  case turn=>
   rintro⟨y,x⟩ rest b s' ⟨hb',rfl,vs,ws,ns',ms',hz,hvi,hwi,hlen,hR⟩
   cases hvi with
   | nil=>rw[List.zip_nil_left]at hz;cases hz
   | cons a t hvi'=>
    cases hwi with
    | nil=>rw[List.zip_nil_right]at hz;cases hz
    | cons c u hwi'=>
     rw[iO]at hz
     injection hz with hyx hrest
     injection hyx with hy hx
     subst hy hx;rw[qF]at hR;dsimp[bq]at hlen;obtain⟨e,he,hiff⟩:=Q_ A.in1 ⟨hp,g,d,tk,os⟩ a t c u;refine aG (he prog w _ _ ?_)
     cases e with
     | true=>
      rw[aK (hiff.mp rfl)]at hR
      wp_walk
      exact⟨rfl,rfl,_,_,_,_,hrest,hvi',hwi',(),hR⟩
     | false=>
      rw[aJ (λq=>absurd (hiff.mpr q) bE)]at hR;have hri:=O1 A.in1 ⟨hp,g,d,tk,os⟩ a t c u prog w
      wp_walk using hri
      exact⟨_,rfl,by simpa using hR⟩
  case fin=>
   rintro⟨b1,b2⟩ s' ⟨hb',rfl,vs,ws,ns',ms',hz,hvi,hwi,hlen,hR⟩;simp only at hb';subst hb';have hv:lexLt ns' ms'=decide (items.size<items2.size):=by
    cases hvi with
    | nil=>
     cases hwi with
     | nil=>
      dsimp[bR]at hlen;rw[pF];exact(bw ()).symm
     | cons c u hw=>
      dsimp[bR,bq]at hlen;rw[m9];exact(bf ()).symm
    | cons a t hv=>
     cases hwi with
     | nil=>
      dsimp[bR,bq]at hlen;rw[oR];exact(bw ()).symm
     | cons c u hw=>
      rw[iO]at hz
      cases hz
   rw[hv]at hR
   wp_walk
   exact⟨_,rfl,by simpa[Builtin.Tuple.tupleCompareSizes]using hR⟩
  case h=>
   exact⟨rfl,rfl,items.toList,items2.toList,ns,ms,rfl,hi,hj,(),h⟩
end
section
variable {prog:aj}{w:ah}{A:az}{E:af->aA->Prop}{s:aA}
def IQ{l:ak}{items items2:Array af}{ns:ag}{Q:af->aA->Prop}(hl:IsTup s.heap l items)(hb:IsTup s.heap b items2)(hi:IntsAre items.toList ns)(hj:IntsAre items2.toList ms)
  (hu:A.units<cLine) (h:Q (.bool (lexLt ns ms)) s):wpAny (model prog w) A (compareOp .Lt (.ref l) (.ref b)) Q E s:=by
 obtain⟨⟨cls,dd,data,sl⟩,ho,hc,n,hd⟩:=id hl;obtain⟨⟨cls2,dd2,data2,sl2⟩,ho2,hc2,n2,hd2⟩:=id hb;simp only at hc hd hc2 hd2;subst hc hd hc2 hd2;exact richCompare_meets_room (op:=.Lt) ⟨_,ho,rfl⟩ ⟨_,ho2,rfl⟩ PySem.F.slot_tuple_lt PySem.F.entry_tuple_lt (PySem.F.args_tuple_lt_2 _ _) (Cw l b items items2 n n2 dd dd2 sl sl2 ns ms hi hj)
  ⟨ho,ho2,show Value.bool (lexLt ns ms)≠Value.notImplemented/\Q (.bool (lexLt ns ms)) s from⟨(λx=>nomatch x),h⟩⟩ hu
def Si{t:ak}{vs ws:ba}{Q:af->aA->Prop}(ht:IsTup s.heap t vs.toArray)(hb:IsTup s.heap b ws.toArray)(hv:vs≠[])
  (h1:ws=[]->Q (.ref t) s) (h2:ws≠[]->Q (.ref s.heap.objs.size) { s with heap:=s.heap.push { cls:=.type "tuple",data:=.seq (vs++ws).toArray }})
  (hsz:vs.length+ws.length<=sizeLine):wpAny (model prog w) A (binaryOp .Add (.ref t) (.ref b)) Q E s:=by
 obtain⟨⟨cls,dd,data,sl⟩,ho,hc,n,hd⟩:=id ht;obtain⟨⟨cls2,dd2,data2,sl2⟩,ho2,hc2,n2,hd2⟩:=id hb;simp only at hc hd hc2 hd2;subst hc hd hc2 hd2;have e:vs.toArray++ws.toArray=(vs++ws).toArray:=by simp
 by_cases hw:ws=[]
 ·exact concat_meets ⟨_,ho,rfl⟩ ⟨_,ho2,rfl⟩ noFill_tuple_add seq_tuple_add gP gJ (gw _ _)
   (tuple_addW1 t b vs.toArray ws.toArray n n2 dd dd2 sl sl2 (by simpa using hv) (by simp[hw])) ⟨ho,ho2,h1 hw⟩
 ·refine concat_meets ⟨_,ho,rfl⟩ ⟨_,ho2,rfl⟩ noFill_tuple_add seq_tuple_add gP gJ (gw _ _)
   (tuple_addW2 t b vs.toArray ws.toArray n n2 dd dd2 sl sl2 (by simpa using hv) (by simpa using hw) (by rw[aY,aY];exact hsz)) ⟨ho,ho2,?_⟩
  rw[e];exact h2 hw
abbrev oh (n d:Nat):bj->Nat
 | none=>d
 | some v=>if v<0 then(v+(n:Int)).toNat else min v.toNat n
def F_(n d:Nat):oh n d none=d:=rfl
def Aw(n d k:Nat):oh n d (some (k:Int))=min k n:=by
 show(if (k:Int)<0 then((k:Int)+(n:Int)).toNat else min (k:Int).toNat n)=min k n;rw[aJ (),dM]
def WN(n d:Nat)(hd:d<=n)(o:bj):oh n d o<=n:=by
 cases o with
 | none=>exact hd
 | some v=>
  show(if v<0 then(v+(n:Int)).toNat else min v.toNat n)<=n;by_cases hv:v<0
  ·rw[aK hv];lia
  ·rw[aJ hv];exact Nat.min_le_right _ _
def Js(v:Int)(n d:Nat):(if v<0 then max (v+(n:Int)) 0 else min v (n:Int))=((oh n d (some v):Nat):Int):=by
 show(if v<0 then max (v+(n:Int)) 0 else min v (n:Int))=(((if v<0 then(v+(n:Int)).toNat else min v.toNat n):Nat):Int);by_cases hv:v<0
 ·dsimp[aK hv];lia
 ·dsimp[aJ hv];lia
def Ih(lo hi:bj)(n:Nat):Builtin.Slice.sliceAdjust lo hi 1 (n:Int)=(((oh n 0 lo:Nat):Int),((oh n n hi:Nat):Int)):=by
 have h1:¬((1:Int)<0):=()
 unfold Builtin.Slice.sliceAdjust;dsimp[h1,cg];refine Prod.ext ?_ ?_
 ·cases lo with
  | none=>rfl
  | some v=>exact Js v n 0
 ·cases hi with
  | none=>rfl
  | some v=>exact Js v n n
def HG(i j:Nat):Builtin.Slice.slicePlaces (i:Int) (j:Int) 1=j-i:=by
 unfold Builtin.Slice.slicePlaces;have h1:(1:Int)>0:=()
 dsimp[h1,cZ,Int.ediv_one];split<;>lia
def Bt{v:af}{Q:bj->aA->Prop}(p:IsPart v o)(h:Q o s):wpAny (model prog w) A (Builtin.Slice.slicePartIndex v) Q E s:=by
 cases p with
 | none=>exact slicePart_none h
 | int i t=>exact slicePart_int h
def yI{lo:bj}{n:Nat}{Q:Int×Int×Nat->aA->Prop}(hs:s.heap.IsSliceOf sl vl vu .none)(pl:IsPart vl lo)(pu:IsPart vu hi)
  (h:Q (((oh n 0 lo:Nat):Int),1,oh n n hi-oh n 0 lo) s):wpAny (model prog w) A (Builtin.Slice.sliceApplied (.ref sl) (pure (n:Int))) Q E s:=by
 obtain⟨os,hos,hcs,hds⟩:=id hs;unfold Builtin.Slice.sliceApplied Builtin.Slice.sliceFields;refine aG (aG (gK hos hds (x:=vl) rfl (aG (gK hos hds (x:=vu) rfl (aG (gK hos hds (x:=.none) rfl (aP ?_)))))));refine aG (slicePart_none ?_)
 skip
 rw[aJ ⋯];refine aG (Bt pl (aG (Bt pu (aG (aP ?_)))));show wpAny _ _ (match Builtin.Slice.sliceAdjust lo hi 1 (n:Int)with|(lo,hi)=>pure (lo,(1:Int),Builtin.Slice.slicePlaces lo hi 1)) _ _ s;rw[Ih lo hi n];show wpAny _ _ (pure (((oh n 0 lo:Nat):Int),(1:Int),Builtin.Slice.slicePlaces ((oh n 0 lo:Nat):Int) ((oh n n hi:Nat):Int) 1)) _ _ s;rw[HG];exact aP h
def Qk(xs:Array af)(i k:Nat):((List.range k).filterMap λ(m:Nat)=>xs[((i:Int)+(m:Int) * 1).toNat]?).toArray=((xs.toList.drop i).take k).toArray:=by
 have e:(λ(m:Nat)=>xs[((i:Int)+(m:Int) * 1).toNat]?)=λm=>xs[i+m]?:=by
  funext m
  have:((i:Int)+(m:Int) * 1).toNat=i+m:=()
  rw[this]
 rw[e];have:=pick_run xs i k;rw[iP]at this;have e2:((λx=>xs[x]?) ∘ λx=>i+x)=λm=>xs[i+m]?:=rfl;rw[e2]at this;rw[this]
def yb{t:ak}{items:Array af}{lo:bj}{Q:af->aA->Prop}(ht:IsTup s.heap t items)(hs:s.heap.IsSliceOf sl vl vu .none)(pl:IsPart vl lo)(pu:IsPart vu hi)
  (hw:¬(oh items.size 0 lo=0/\oh items.size items.size hi=items.size))
  (h:Q (.ref s.heap.objs.size) { s with heap:=s.heap.push { cls:=.type "tuple",data:=.seq ((items.toList.drop (oh items.size 0 lo)).take (oh items.size items.size hi-oh items.size 0 lo)).toArray }})
  (hsz:items.size<=sizeLine):wpAny (model prog w) A (getItem (.ref t) (.ref sl)) Q E s:=by
 have htake:sizeOk (.seq ((items.toList.drop (oh items.size 0 lo)).take (oh items.size items.size hi-oh items.size 0 lo)).toArray):=by
  show((items.toList.drop (oh items.size 0 lo)).take (oh items.size items.size hi-oh items.size 0 lo)).toArray.size<=sizeLine;rw[aY,bK,dg,dP];omega
 have hj:oh items.size items.size hi<=items.size:=WN _ _ (aR _) hi;obtain⟨os,hos,hcs,hds⟩:=id hs;have hTs:s.TypeIs (.ref sl) "slice" := ⟨os,hos,hcs⟩;unfold getItem
 try with_reducible refine dm ?_
 first|refine aG (aP ?_)|skip
 refine aG (wpAny_sequenceKey ht.typeIs ⋯ ?_);refine aG (d8 (name:=Str.ofString "__getitem__") ht.typeIs fJ
  (dG fJ ht.typeIs entry_tuple_getitem ?_ (args_tuple_getitem _ _)))
 show wpAny _ _ (Builtin.Tuple.tupleItemsOf (.ref t) >>= _) _ _ s;refine aG (tupleItemsOf_ ht ?_);refine aG (gc hTs ?_);rw[aK ⋯];refine aG (yI hs pl pu ?_);have hno:¬((((oh items.size 0 lo:Nat):Int) == 0 && (1:Int) == 1 && (oh items.size items.size hi-oh items.size 0 lo) == items.size)=true):=by
  intro q;rw[iA,iA]at q;have q1:((oh items.size 0 lo:Nat):Int)=0:=eq_of_beq q.1.1;have q2:oh items.size items.size hi-oh items.size 0 lo=items.size:=eq_of_beq q.2;exact hw ⟨by omega,by omega⟩
 show wpAny _ _ (if (((oh items.size 0 lo:Nat):Int) == 0 && (1:Int) == 1 && (oh items.size items.size hi-oh items.size 0 lo) == items.size)=true then _ else _) _ _ s;rw[aJ hno,Qk]
 first
  | exact aG (m:=Builtin.Tuple.tupleExact _) (cC (aP ⟨_,rfl,aP h⟩) htake)
  | exact aG (m:=Builtin.Tuple.tupleExact _) (cC (aG (aP (aP ⟨_,rfl,aP h⟩))) htake)
  | exact aG (aG (m:=Builtin.Tuple.tupleExact _) (cC (aP (aP ⟨_,rfl,aP h⟩)) htake))
  | exact aG (aG (m:=Builtin.Tuple.tupleExact _) (cC (aP ⟨_,rfl,aP h⟩) htake))
end
end HT
namespace L2
open PySem PySem.Spec PyProof.Rows
meta abbrev TO:=St->Hp->(bj->Hp->Prop)->Prop
abbrev PO (X:Cx)(e:Option aC)(t:TO):Prop:=
 ∀(pins:bv) (s:aA) (σ:St) (H:Hp) (Q:bj->Hp->Prop),Inv X pins σ H s->t σ H Q ->
  wpAny (model X.prog X.w) X.A (evalPart e X.env) (λu s'=>∃o H',Inv X pins σ H' s'/\IsPart u o/\Q o H') X.xe s
abbrev Sn:TO:=λ_ H Q=>Q none H
abbrev aai (t:TE):TO:=λσ H Q=>t σ H λx H1=>∃i,x=.int i/\Q (some i) H1
def intsAre_of{ns:ag}:∀{us:ba},Vals (ns.map V.int) us->IntsAre us ns:=by
 induction ns with
 | nil=>intro us r;rw[gQ]at r;cases r;exact .nil
 | cons n ns ih=>
  intro us r;rw[bB]at r
  cases r with
  | cons r1 r2=>
   obtain⟨t,e⟩:=r1;subst e;exact .cons n t (ih r2)
section
variable {X:Cx}{e:aC}{te:TE}{lo hi:Option aC}{tl th:TO}{pos p2:Pos}
def T_:PO X none Sn:=by
 k_ne;rw[evalPart_none];exact aP ⟨none,H,I,.none,h⟩
def SH(h:PE X e te):PO X (some e) (aai te):=by
 intro pins s σ H Q I hw;rw[evalPart_some];refine mP (h pins s σ H _ I hw) λu s1 ⟨x,H1,I1,r1,q1⟩=>?_;obtain⟨i,rfl,q⟩:=q1;obtain⟨t,rfl⟩:=r1;exact⟨some i,H1,I1,.int i t,q⟩
abbrev SlR (X:Cx)(r:V->bj->bj->Hp->VK->Prop):Prop:=
 ∀(pins:bv) (s:aA) (σ:St) (H:Hp) (x:V) (v vl vu:af) (lo hi:bj) (sl:ak) (Q:VK),Inv X pins σ H s->RelV x v->s.heap.IsSliceOf sl vl vu .none->IsPart vl lo->IsPart vu hi->r x lo hi H Q ->
  ∃T id,typeLookup (.type T) "__getitem__" = pure (some (.builtin id))/\s.TypeIs v T/\wpAny (model X.prog X.w) X.A (getItem v (.ref sl)) (EP X pins σ Q) X.xe s
abbrev tSl (r:V->bj->bj->Hp->VK->Prop)(te:TE)(tl th:TO):TE:=λσ H Q=>te σ H λx H1=>tl σ H1 λl H2=>th σ H2 λu H3=>r x l u H3 Q
def Qp{r:V->bj->bj->Hp->VK->Prop}(hr:SlR X r)(he:PE X e te)(hl:PO X lo tl)(hu:PO X hi th):PE X (.Subscript e (.Slice lo hi none p2) pos) (tSl r te tl th):=by
 k_ne;refine Subscript_ (mP (he pins s σ H _ I h) λv s1 ⟨x,H1,I1,r1,q1⟩=>?_);refine wpAny_Slice (mP (hl pins s1 σ H1 _ I1 q1) λvl s2 ⟨l,H2,I2,pl,q2⟩=>mP (hu pins s2 σ H2 _ I2 q2) λvu s3 ⟨u,H3,I3,pu,q3⟩=>?_);rw[evalPart_none];refine aP ?_;have I4:Inv X pins σ H3 { s3 with heap:=s3.heap.push { cls:=.type "slice",data:=.fields #[vl,vu,.none]}}:=I3.kept (t':=s3.toks) λb ob q=>aV _ q;obtain⟨T,id,hT,ht,hg⟩:=hr pins { s3 with heap:=s3.heap.push { cls:=.type "slice",data:=.fields #[vl,vu,.none]}} σ H3 x v vl vu l u s3.heap.objs.size Q I4 r1 (Heap.IsSliceOf.new ..) pl pu q3
 skip
 exact tail_any (ops:=[.ref s3.heap.objs.size,v]) ht hT hg (by with_unfolding_all rfl)
abbrev Gj (xs:List V)(lo hi:bj):List V:=(xs.drop (HT.oh xs.length 0 lo)).take (HT.oh xs.length xs.length hi-HT.oh xs.length 0 lo)
def zJ(xs:List V)(lo hi:bj):(Gj xs lo hi).length<=xs.length:=by
 unfold Gj;rw[bK,dg]
 lia
abbrev aa4 (K:au):V->bj->bj->Hp->VK->Prop:=λx lo hi H Q=>∃a xs,x=.ref a/\m_ K H a xs /\
 ¬(HT.oh xs.length 0 lo=0/\HT.oh xs.length xs.length hi=xs.length)/\∀p,H p=none->Q (.ref p) (upd H p (.tup (Gj xs lo hi)))
def WJ:SlR X (aa4 X.K):=by
 intro pins s σ H x v vl vu lo hi sl Q I rx hs pl pu h;obtain⟨a,xs,rfl,hx,hw,q⟩:=h
 cases rx
 obtain⟨its,r,ht,hz⟩:=I.tuple hx;have hlen:its.toArray.size=xs.length:=by rw[aY];exact r.length.symm
 refine⟨"tuple",_,fJ.lookup,ht.typeIs,?_⟩;refine HT.yb ht hs pl pu (by rw[hlen];exact hw) ?_ (by rw[hlen];exact hz);rw[hlen];refine⟨.ref s.heap.objs.size,_,I.laid (t':=s.toks) (o:=.tup (Gj xs lo hi)) (λb ob q=>aV _ q) (aR _) ?_,rfl,q _ (I.hok.fresh (aR _))⟩;exact⟨bJ (zJ xs lo hi) hz,_,(r.drop (HT.oh xs.length 0 lo)).take (HT.oh xs.length xs.length hi-HT.oh xs.length 0 lo),qc.new _ _⟩
abbrev ZP (K:au):R2:=λx y H Q=>∃a b xs ys,x=.ref a/\y=.ref b/\m_ K H a xs/\m_ K H b ys/\xs≠[]/\xs.length+ys.length<=sizeLine /\
 (ys=[]->Q (.ref a) H)/\(ys≠[]->∀p,H p=none->Q (.ref p) (upd H p (.tup (xs++ys))))
def Vals.Dr(r:Vals xs us):us=[] ↔ xs=[]:=by
 cases r with
 | nil=>simp
 | cons _ _=>simp
def SG:pT X (binaryOp .Add) (ZP X.K):=by
 kcf_m;obtain⟨a,b,xs,ys,rfl,rfl,ha,hb,hx,hz,q1,q2⟩:=h
 cases rx
 cases ry
 obtain⟨its,r1,p1,_⟩:=I.tuple ha;obtain⟨its2,r2,p2,_⟩:=I.tuple hb;refine HT.Si p1 p2 (λz=>hx (r1.Dr.mp z)) (λz=>⟨.ref a,H,I,rfl,q1 (r2.Dr.mp z)⟩) (λz=>?_) (by rw[<- r1.length,<- r2.length];exact hz);refine⟨.ref s.heap.objs.size,_,I.laid (t':=s.toks) (o:=.tup (xs++ys)) (λb ob q=>aV _ q) (aR _) ?_,rfl,q2 (λw=>z (r2.Dr.mpr w)) _ (I.hok.fresh (aR _))⟩;exact⟨by rw[aQ];exact hz,_,r1.append r2,qc.new _ _⟩
end
abbrev Cq (n:Nat)(i:Int):bp:=if 0<=i then(if i<n then some i.toNat else none)else if -(n:Int)<=i then some (i+n).toNat else none
abbrev pP {α:Type}(xs:List α)(i:Int):Option α:=(Cq xs.length i).bind λj=>xs[j]?
def J1{n:Nat}{i:Int}(h:Cq n i=some j):seqIndex? i n=some j/\j<n/\-(n:Int)<=i/\i<n:=by
 unfold Cq at h;by_cases h0:0<=i
 ·rw[aK h0]at h;by_cases h1:i<n
  ·rw[aK h1]at h;have e:i.toNat=j:=a_ h;exact⟨by rw[seqIndex_of h0 h1,e],(),(),h1⟩
  ·rw[aJ h1]at h;cases h
 ·rw[aJ h0]at h;by_cases h1:-(n:Int)<=i
  ·rw[aK h1]at h;have e:(i+n).toNat=j:=a_ h;exact⟨by rw[seqIndex_neg () h1,e],(),h1,()⟩
  ·rw[aJ h1]at h;cases h
def D5{α:Type}{xs:List α}{i:Int}{v:α}(h:pP xs i=some v):∃j,seqIndex? i xs.length=some j/\xs[j]?=some v/\j<xs.length/\-(xs.length:Int)<=i/\i<xs.length:=by
 unfold pP at h
 cases e:Cq xs.length i with
 | none=>rw[e]at h;cases h
 | some j=>
  rw[e]at h;obtain⟨h1,h2,h3,h4⟩:=J1 e;exact⟨j,h1,h,h2,h3,h4⟩
def TY{α:Type}{xs:List α}{j:Nat}{v:α}(h:xs[j]?=some v):pP xs (j:Int)=some v:=by
 have hj:j<xs.length:=(aL.mp h).1;have e:Cq xs.length (j:Int)=some j:=by
  unfold Cq;rw[aK (),aK ()];simp
 unfold pP;rw[e];exact h
def Fb{α:Type}(xs:List α)(v:α):pP (xs++[v]) (-1)=some v:=by
 have hl:(xs++[v]).length=xs.length+1:=by simp
 have e:Cq (xs++[v]).length (-1)=some xs.length:=by
  unfold Cq;rw[hl,aJ ⋯,aK ()];congr 1
  lia
 unfold pP;rw[e]
 skip
 simp
abbrev AJ (b:aC):Prop:=∀o i,subscripted b false o i=operate [o,i] (getItem o i)
abbrev Wi (X:Cx)(r:R2):Prop:=
 ∀(value slice:aC) (pins:bv) (s:aA) (σ:St) (H:Hp) (x y:V) (v u:af) (Q:VK),Inv X pins σ H s->RelV x v->RelV y u->r x y H Q ->
  subscripted slice false v u=operate [v,u] (getItem v u)->wpAny (model X.prog X.w) X.A (subscriptTail value slice v u) (EP X pins σ Q) X.xe s
abbrev Vw (X:Cx)(id:String)(r:V->List V->Hp->VK->Prop):Prop:=
 ∀(pins:bv) (s:aA) (σ:St) (H:Hp) (x:V) (xs:List V) (v:af) (us:ba) (Q:VK),Inv X pins σ H s->RelV x v->Vals xs us->r x xs H Q ->
  wpAny (model X.prog X.w) X.A (call (.builtin id) (v::us)) (EP X pins σ Q) X.xe s
section
variable {X:Cx}{a b:aC}{ta tb:TE}{pos:Pos}
def OP{r:R2}(hr:Wi X r)(ha:PE X a ta)(hb:PE X b tb)(hs:AJ b):PE X (.Subscript a b pos) (Y5 r ta tb):=by
 k_ne;exact Subscript_ (W0 ha hb I h λv u s2 x y H2 I2 rx ry q=>hr a b pins s2 σ H2 x y v u Q I2 rx ry q (hs _ _))
abbrev abY (K:au):R2:=λx y H Q=>∃p xs i v,x=.ref p/\y=.int i/\rG K H p xs/\pP xs i=some v/\Q v H
abbrev aa3 (K:au):R2:=λx y H Q=>∃p xs i v,x=.ref p/\y=.int i/\m_ K H p xs/\pP xs i=some v/\Q v H
abbrev abZ:R2:=λx y H Q=>∃z i c,x=.str z/\y=.int i/\z.length<=sizeLine/\pP z.cps.toList i=some c/\Q (.str ⟨#[c]⟩) H
def Jz:Wi X (abY X.K):=by
 intro value slice pins s σ H x y v u Q I rx ry h hs;obtain⟨p,xs,i,z,rfl,rfl,hq,he,q⟩:=h
 cases rx
 obtain⟨t,rfl⟩:=ry;obtain⟨its,r,pl,hz⟩:=I.list hq;obtain⟨j,h1,h2,h3,h4,h5⟩:=D5 he;obtain⟨w,ew,rw'⟩:=r.get h2;have hl:=r.length;have hn:=yW;have fin:EP X pins σ Q w s:=⟨z,H,I,rw',q⟩;by_cases h0:0<=i
 ·have hj:i.toNat=j:=by
   rw[seqIndex_of h0 h5]at h1;exact a_ h1
  exact item_listR pl.isList h0 () (by rw[hj];simpa using ew) fin hs
 ·have hj:(i+(its.toArray.size:Int)).toNat=j:=by
   rw[seqIndex_neg () h4]at h1;rw[aY,<- hl];exact a_ h1
  exact subscriptTail_builtinR (x:=w) pl.isList.typeIs slot_list_getitem.lookup
   (wpAny_getItem_list_neg (Q:=λr s'=>r=w/\EP X pins σ Q r s') pl.isList () (by rw[aY]<;>lia) () (by rw[hj];simpa using ew) ⟨rfl,fin⟩) hs
def WD:Wi X (aa3 X.K):=by
 intro value slice pins s σ H x y v u Q I rx ry h hs;obtain⟨p,xs,i,z,rfl,rfl,hq,he,q⟩:=h
 cases rx
 obtain⟨t,rfl⟩:=ry;obtain⟨its,r,pl,hz⟩:=I.tuple hq;obtain⟨j,h1,h2,h3,h4,h5⟩:=D5 he;obtain⟨w,ew,rw'⟩:=r.get h2;have hl:=r.length;have hn:=yW;have fin:EP X pins σ Q w s:=⟨z,H,I,rw',q⟩;exact subscriptTail_builtinR (x:=w) pl.typeIs slot_tuple_getitem.lookup
  (getItem_tuple (j:=j) (Q:=λr s'=>r=w/\EP X pins σ Q r s') pl () () (by rw[aY,<- hl];exact h1) (by simpa using ew) ⟨rfl,fin⟩) hs
def Ye:Wi X abZ:=by
 intro value slice pins s σ H x y v u Q I rx ry h hs;obtain⟨z,i,c,rfl,rfl,hz,he,q⟩:=h;obtain⟨t,rfl⟩:=rx;obtain⟨t',rfl⟩:=ry;obtain⟨j,h1,h2,h3,h4,h5⟩:=D5 he;have hl:z.cps.toList.length=z.length:=by simp[Str.length]
 rw[hl]at h1 h4 h5;have hn:=yW;exact tail_any (typeIs_str s z t) slot_str_getitem.lookup (getItem_str (c:=c) (by
  have e1:decide (i < -(2 ^ 63:Int))=false:=bw ();have e2:decide (i>=2 ^ 63)=false:=bw ();rw[e1,e2,Bool.or_false]) (by rw[h1];simpa using h2) ⟨.str ⟨#[c]⟩,H,I.tok _,⟨_,rfl⟩,q⟩) hs
def IL(its:ba)(n j:Nat)(u:af):Obj.mapSeq (·.setIfInBounds j u) { cls:=.type "list",data:=.seq its.toArray n }={ cls:=.type "list",data:=.seq (its.set j u).toArray n }:=by
 simp[Obj.mapSeq]
def Inv.lst{H:Hp}{s:aA}{p:ak}{xs:List V}(I:Inv X pins σ H s)(h:H p=some (.lst xs)) :
  ∃(its:ba) (n:Nat),Vals xs its/\s.heap.get? p=some { cls:=.type "list",data:=.seq its.toArray n }/\xs.length<=sizeLine:=by
 obtain⟨z,its,n,r,e⟩:=I.hok p _ h;exact⟨its,n,r,e,z⟩
def Inv.W_{H:Hp}{s:aA}{p:ak}{ys:List V}{its its':ba}{n:Nat}{f:Obj->Obj}(I:Inv X pins σ H s)(h:H p=some (.lst xs))
  (ho:s.heap.get? p=some { cls:=.type "list",data:=.seq its.toArray n }) (hf:f { cls:=.type "list",data:=.seq its.toArray n }={ cls:=.type "list",data:=.seq its'.toArray n' }) (r:Vals ys its') (hz:ys.length<=sizeLine) (t:Nat) :
  Inv X pins σ (upd H p (.lst ys)) { s with heap:=s.heap.update p f,toks:=t }:=by
 have e:(s.heap.update p f).get? p=some { cls:=.type "list",data:=.seq its'.toArray n' }:=by
  rw[iw f ho (by rw[hf]<;>rfl),hf]
 refine I.write (x:=p) (e:=p) (by rw[h];trivial) (.inl rfl) (λb u hb q=>(Heap.get?_update_other _ _ (dw hb)).trans q) ⟨_,e⟩ ?_;exact⟨hz,its',n',r,e⟩
abbrev ZJ:V->V->V->Hp->(Hp->Prop)->Prop:=λo i v H Q=>∃p xs k j,o=.ref p/\i=.int k/\H p=some (.lst xs)/\Cq xs.length k=some j/\Q (upd H p (.lst (xs.set j v)))
def set_list:Mw X ZJ:=by
 intro pins s σ H o i v ov iv u Q I ro ri rv h;obtain⟨p,xs,k,j,rfl,rfl,hp,hj,q⟩:=h
 cases ro
 obtain⟨t,rfl⟩:=ri;obtain⟨its,n,r,ho,hz⟩:=I.lst hp;obtain⟨h1,h2,h3,h4⟩:=J1 hj;have hl:=r.length;have hn:=yW;have I':Inv X pins σ (upd H p (.lst (xs.set j v))) { s with heap:=s.heap.update p (Obj.mapSeq (·.setIfInBounds j u))}:=
  I.W_ hp ho (IL its n j u) (r.set rv j) (by rw[cE];exact hz) s.toks
 by_cases h0:0<=k
 ·have hk:k.toNat=j:=by
   rw[seqIndex_of h0 h4]at h1;exact a_ h1
  exact PySem.W.ki_setAt ho h0 () (by rw[aY,<- hl];exact h4) (by rw[hk];exact⟨_,I',q⟩)
 ·have hk:(k+(its.toArray.size:Int)).toNat=j:=by
   rw[seqIndex_neg () h3]at h1;rw[aY,<- hl];exact a_ h1
  exact PySem.W.ki_setBack ho () (by rw[aY,<- hl];exact h3) () (by rw[hk];exact⟨_,I',q⟩)
def EN(lo hi:bj)(n:Nat):(sliceBounds lo hi none n).1=((HT.oh n 0 lo:Nat):Int)/\(sliceBounds lo hi none n).2.1=((HT.oh n n hi:Nat):Int)/\(sliceBounds lo hi none n).2.2=1:=by
 refine⟨?_,?_,rfl⟩
 ·cases lo with
  | none=>simp[sliceBounds,HT.oh]
  | some i=>
   dsimp[sliceBounds,HT.oh,getD_none,show(1:Int)>0 by decide,cZ];by_cases h:i<0
   ·dsimp[h,cZ]<;>lia
   ·dsimp[h,cg]<;>lia
 ·cases hi with
  | none=>simp[sliceBounds,HT.oh]
  | some i=>
   dsimp[sliceBounds,HT.oh,getD_none,show(1:Int)>0 by decide,cZ];by_cases h:i<0
   ·dsimp[h,cZ]<;>lia
   ·dsimp[h,cg]<;>lia
def Cj(its:ba)(lo hi:bj):slicePick its.toArray lo hi none=((its.drop (HT.oh its.length 0 lo)).take (HT.oh its.length its.length hi-HT.oh its.length 0 lo)).toArray:=by
 obtain⟨h1,h2,h3⟩:=EN lo hi its.toArray.size;unfold slicePick;rw[h1,h2,h3];dsimp[sliceRange_one,pick_run,aY]<;>rfl
abbrev abD (K:au):V->bj->bj->Hp->VK->Prop:=λx lo hi H Q=>∃a xs,x=.ref a/\rG K H a xs/\∀p,H p=none->Q (.ref p) (upd H p (.lst (Gj xs lo hi)))
def Kh:SlR X (abD X.K):=by
 intro pins s σ H x v vl vu lo hi sl Q I rx hs pl pu h;obtain⟨a,xs,rfl,hx,q⟩:=h
 cases rx
 obtain⟨its,r,ht,hz⟩:=I.list hx;have hlen:=r.length;refine⟨"list",_,slot_list_getitem.lookup,ht.isList.typeIs,?_⟩;refine wpAny_getItem_list_slice ht.isList hs pl pu .none (by simp) ?_ (by rw[aY]<;>lia);rw[Cj,<- hlen];refine⟨.ref s.heap.objs.size,_,I.laid (t':=s.toks) (o:=.lst (Gj xs lo hi)) (λb ob q=>aV _ q) (aR _) ?_,rfl,q _ (I.hok.fresh (aR _))⟩;exact⟨bJ (zJ xs lo hi) hz,_,0,(r.drop (HT.oh xs.length 0 lo)).take (HT.oh xs.length xs.length hi-HT.oh xs.length 0 lo),bC _ rfl⟩
abbrev BX:V->Bool
 | .non=>true
 | .bl _=>true
 | .int _=>true
 | .str _=>true
 | _=>false
abbrev TV:V->V->Bool
 | .non,.non=>true
 | .bl a,.bl b=>a == b
 | .bl a,.int b=>(if a then 1 else 0) == b
 | .int a,.bl b=>a == (if b then 1 else 0)
 | .int a,.int b=>a == b
 | .str a,.str b=>a == b
 | _,_=>false
def YD{A:az}{x:V}{v:af}(ry:RelV y u)(rx:RelV x v)(fy:BX y=true)(fx:BX x=true):SeqAt.EqAt A s u v (TV y x):=by
 cases y with
 | non=>
  cases ry
  cases x with
  | non=>cases rx;exact SeqAt.EqAt.same _
  | bl b=>cases rx;exact SeqAt.EqAt.none_bool b
  | int b=>obtain⟨t,rfl⟩:=rx;exact SeqAt.EqAt.none_int b t
  | str b=>obtain⟨t,rfl⟩:=rx;exact SeqAt.EqAt.none_str b t
  | _=>exact absurd (show false=true from fx) bE
 | bl a=>
  cases ry
  cases x with
  | non=>cases rx;exact SeqAt.EqAt.bool_none a
  | bl b=>cases rx;exact SeqAt.EqAt.bool_bool a b
  | int b=>obtain⟨t,rfl⟩:=rx;exact SeqAt.EqAt.bool_int a b t
  | str b=>obtain⟨t,rfl⟩:=rx;exact SeqAt.EqAt.bool_str a b t
  | _=>exact absurd (show false=true from fx) bE
 | int a=>
  obtain⟨t',rfl⟩:=ry
  cases x with
  | non=>cases rx;exact SeqAt.EqAt.int_none a t'
  | bl b=>cases rx;exact SeqAt.EqAt.int_bool a t' b
  | int b=>obtain⟨t,rfl⟩:=rx;exact SeqAt.EqAt.int_int a t' b t
  | str b=>obtain⟨t,rfl⟩:=rx;exact SeqAt.EqAt.int_str a t' b t
  | _=>exact absurd (show false=true from fx) bE
 | str a=>
  obtain⟨t',rfl⟩:=ry
  cases x with
  | non=>cases rx;exact SeqAt.EqAt.str_none a t'
  | bl b=>cases rx;exact SeqAt.EqAt.str_bool a t' b
  | int b=>obtain⟨t,rfl⟩:=rx;exact SeqAt.EqAt.str_int a t' b t
  | str b=>obtain⟨t,rfl⟩:=rx;exact SeqAt.EqAt.str_str a t' b t
  | _=>exact absurd (show false=true from fx) bE
 | _=>exact absurd (show false=true from fy) bE
def ue:j9 X (.type "list") (λxs H Q=>∃p ys,xs=[.ref p]/\(rG X.K H p ys\/m_ X.K H p ys)/\∀l,H l=none->Q (.ref l) (upd H l (.lst ys))):=by
 w_up;obtain⟨p,ys,rfl,hq,q⟩:=h;kcj_m
 cases rx
 have fin:∀(its:ba),Vals ys its->ys.length<=sizeLine->∀(h':aq) (c':Nat),(∀b o',s.heap.get? b=some o'->h'.get? b=some o') ->
   h'.get? s.heap.objs.size=some { cls:=.type "list",dict:=none,data:=.seq its.toArray c',slots:=#[]}->EP X pins σ Q (.ref s.heap.objs.size) { s with heap:=h' }:=λits r' hz h' c' kp e=>
  ⟨.ref s.heap.objs.size,_,I.laid (t':=s.toks) kp (aR _) (show lW X.prog X.w _ h' _ (.lst ys)from⟨hz,its,c',r',e⟩),rfl,q _ (I.hok.fresh (aR _))⟩
 rcases hq with hq|hq
 ·obtain⟨its,r',pl,hz⟩:=I.list hq;have hlen:=r'.length;obtain⟨o,ho,hc,n,hd⟩:=pl.isList;exact call_list_seq p (.inl rfl) ho hc hd (λh' c' kp e=>fin its r' hz h' c' kp e) (by dsimp[aY]<;>lia)
 ·obtain⟨its,r',pl,hz⟩:=I.tuple hq;have hlen:=r'.length;obtain⟨o,ho,hc,n,hd⟩:=pl;exact call_list_seq p (.inr rfl) ho hc hd (λh' c' kp e=>fin its r' hz h' c' kp e) (by dsimp[aY]<;>lia)
def sZ:j9 X (.type "tuple") (λxs H Q=>∃p ys,xs=[.ref p]/\((rG X.K H p ys/\∀l,H l=none->Q (.ref l) (upd H l (.tup ys)))\/(m_ X.K H p ys/\Q (.ref p) H))):=by
 w_up;obtain⟨p,ys,rfl,h⟩:=h;kcj_m
 cases rx
 rcases h with⟨hq,q⟩|⟨hq,q⟩
 ·obtain⟨its,r',pl,hz⟩:=I.list hq;have hlen:=r'.length;refine call_tuple_list pl.isList (λh' kp=>?_) (by dsimp[aY]<;>lia);have I1:Inv X pins σ H { s with heap:=h' }:=I.kept (t':=s.toks) kp;have I2:Inv X pins σ (upd H h'.objs.size (.tup ys)) { s with heap:=h'.push { cls:=.type "tuple",data:=.seq its.toArray }}:=
   I1.laid (t':=s.toks) (λb o e=>aV _ e) (aR _) (show lW X.prog X.w _ _ _ (.tup ys)from⟨hz,its,r',qc.new _ _⟩)
  exact⟨.ref h'.objs.size,_,I2,rfl,q _ (I1.hok.fresh (aR _))⟩
 ·obtain⟨its,r',pl,hz⟩:=I.tuple hq;exact call_tuple_same pl ⟨.ref p,H,I,rfl,q⟩
abbrev tyV (K:au)(T:String)(x:V)(H:Hp):Prop:=match x with
 | .str _=>T = "str"
 | .int _=>T = "int"
 | .ref p=>(T = "list" /\ ∃xs,rG K H p xs)\/(T = "tuple" /\ ∃o,K.lookup p=some o/\o.cls=.type "tuple" /\ o.dict=none) \/
   (T = "dict" /\ ((∃kvs,H p=some (.dK kvs))\/∃kvs,H p=some (.dT kvs)))\/(T = "set" /\ ∃S n,H p=some (.set S n))
 | _=>False
def Xb{H:Hp}{s:aA}{x:V}{v:af}(I:Inv X pins σ H s)(r:RelV x v)(ty:tyV X.K T x H) :
  s.TypeIs v T/\∀a,v=.ref a->∃ob,s.heap.get? a=some ob/\ob.dict=none:=by
 cases x with
 | str z=>
  obtain⟨t,rfl⟩:=r
  cases(show T = "str" from ty)
  exact⟨typeIs_str s z t,nofun⟩
 | int i=>
  obtain⟨t,rfl⟩:=r
  cases(show T = "int" from ty)
  exact⟨typeIs_int s i t,nofun⟩
 | ref p=>
  cases r
  rcases ty with⟨rfl,xs,hq⟩|⟨rfl,o,hk,hc,hd⟩|⟨rfl,hk⟩|⟨rfl,S,n,hk⟩
  ·obtain⟨its,_,pl,_⟩:=I.list hq;refine⟨pl.isList.typeIs,λa e=>?_⟩
   cases e
   obtain⟨o,n,e,c,hd,_⟩:=pl;exact⟨o,e,hd⟩
  ·refine⟨⟨o,I.E6 p o hk,hc⟩,λa e=>?_⟩
   cases e
   exact⟨o,I.E6 _ o hk,hd⟩
  ·have z:∃o,s.heap.get? p=some o/\o.ExactDict:=by
    rcases hk with⟨kvs,hk⟩|⟨kvs,hk⟩
    ·obtain⟨_,_,_,_,o,_,_,e,ex,_⟩:=I.hok p _ hk;exact⟨o,e,ex⟩
    ·obtain⟨_,_,_,_,o,_,_,e,ex,_⟩:=I.hok p _ hk;exact⟨o,e,ex⟩
   obtain⟨o,e,ex⟩:=z;refine⟨⟨o,e,ex.1⟩,λa e2=>?_⟩
   cases e2
   exact⟨o,e,ex.2.1⟩
  ·obtain⟨o,_,_,_,e,ex,_⟩:=I.hok p _ hk;refine⟨⟨o,e,ex.1⟩,λa e2=>?_⟩
   cases e2
   exact⟨o,e,ex.2.1⟩
 | _=>exact False.elim ty
abbrev tBM (K:au)(T:String)(r:V->List V->Hp->VK->Prop)(to:TE)(t:TA):TE:=λσ H Q=>to σ H λx H1=>tyV K T x H1/\t σ H1 λxs H2=>r x xs H2 Q
variable {o e:aC}{es:List aC}{to:TE}{t:TA}{name:Str}{apos cpos:Pos}{T id:String}{r:V->List V->Hp->VK->Prop}
def NQ(pa:PlainAttrs T)(slot:Slot T name id)(hty:typeOf (.builtin id)=pure (.type "method_descriptor"))(hm:Vw X id r)(ho:PE X o to)(ha:PA X (e::es) t)
  (hbase:attributeBase o name X.env (eval o X.env)=eval o X.env:=by rfl)
  (hfew:((backTo cpos (starEach (e::es) X.env)).all (λx=>!x.1) && (backToKw cpos (keywordEach [] X.env)).all (λx=>x.1.isSome)
   && decide ((e::es).length+([]:List Keyword).length+(if ([]:List Keyword).isEmpty then 0 else 1)<30))=true:=by rfl)
  (hline:(apos.endLine == cpos.line)=true:=by rfl) (hs:starEach (e::es) X.env=(false,eval e X.env)::starEach es X.env:=by rfl) (hplain:(backTo cpos (starEach es X.env)).any (·.1)=false:=by rfl) :
  PE X (.Call (.Attribute o name apos) (e::es) [] cpos) (tBM X.K T r to t):=by
 k_ne;refine wpAny_Call_method_late hbase hfew hline rfl (mP (ho pins s σ H _ I h) λv s1 ⟨x,H1,I1,r1,ty,q1⟩=>?_);obtain⟨h1,h2⟩:=Xb I1 r1 ty;refine⟨T,id,pa,slot,hty,h1,h2,?_⟩;have hA:=ha cpos pins s1 σ H1 _ I1 q1;rw[hs]at hA ⊢;refine Calls.callWith_builtin (by show(false || (backTo cpos (starEach es X.env)).any (·.1))=false;rw[hplain]<;>rfl) (Calls.evalArgs_plain ?_);exact mP hA λus s2 ⟨vs,H2,I2,r2,q2⟩=>hm pins s2 σ H2 x vs v us Q I2 r1 r2 q2
end
abbrev MtM (X:Cx)(id:String)(r:V->List V->Hp->VK->Prop):Prop:=
 ∀(pins:bv) (s:aA) (σ:St) (H:Hp) (x:V) (xs:List V) (v:af) (us:ba) (Q:VK),Inv X pins σ H s->RelV x v->Vals xs us->r x xs H Q ->
  wpAny (model X.prog X.w) X.A (call (.builtin id) (v::us)) (EP X pins σ Q) X.xe s
def Vals.one:∀{x:V}{us:ba},Vals [x] us->∃u,us=[u]/\RelV x u
 | _,_,.cons r .nil=>⟨_,rfl,r⟩
theorem Vals.eraseIdx:∀{xs:List V}{us:ba}(i:Nat),Vals xs us->Vals (xs.eraseIdx i) (us.eraseIdx i)
 | _,_,_,.nil=>.nil
 | _,_,0,.cons _ t=>t
 | _,_,i+1,.cons r t=>.cons r (Vals.eraseIdx i t)
theorem Vals.rep(h:Vals xs us):∀k:Nat,Vals (List.replicate k xs).flatten (List.replicate k us).flatten
 | 0=>.nil
 | k+1=>by
  rw[di,di,d9,d9];exact Vals.append h (Vals.rep h k)
theorem C8{α:Type}:∀(l:List α) (i:Nat),(l.eraseIdx i).length<=l.length
 | [],_=>aR _
 | _::_,0=>Nat.le_succ _
 | _::r,i+1=>Nat.succ_le_succ (C8 r i)
theorem foldl_rep(its:ba):∀(k:Nat) (acc:ba),
  List.foldl (λx1 x2=>x1++x2) acc.toArray (List.replicate k its.toArray)=(acc++(List.replicate k its).flatten).toArray
 | 0,acc=>by simp
 | k+1,acc=>by
  have e:acc.toArray++its.toArray=(acc++its).toArray:=by simp
  have e2:(acc++its)++(List.replicate k its).flatten=acc++(List.replicate (k+1) its).flatten:=by
   rw[di,d9,bY]
  rw[<- e2,<- foldl_rep its k (acc++its),<- e,di,fh]
section
variable {X:Cx}{pins:bv}{σ:St}{H:Hp}{s:aA}{l:ak}{xs ys:List V}
def Inv.aao{its its':ba}{n:Nat}{f:Array af->Array af}{t':Nat}(I:Inv X pins σ H s)(hH:H l=some (.lst xs))
  (e:s.heap.get? l=some { cls:=.type "list",data:=.seq its.toArray n }) (hf:f its.toArray=its'.toArray) (hv:Vals ys its') (hz:ys.length<=sizeLine) :
  Inv X pins σ (upd H l (.lst ys)) { s with heap:=s.heap.update l (Obj.mapSeq f),toks:=t' }:=by
 have q:=PySem.IsL.update e f;rw[hf]at q;refine I.write (x:=l) (e:=l) (by rw[hH];exact trivial) (.inl rfl) (λb' u hb hu=>(Heap.get?_update_other s.heap (Obj.mapSeq f) (dw hb)).trans hu) ⟨_,q⟩ ?_;exact⟨hz,its',_,hv,q⟩
def Inv.Uy{its:ba}{t':Nat}(I:Inv X pins σ H s)(hv:Vals ys its)(hz:ys.length<=sizeLine) :
  Inv X pins σ (upd H s.heap.objs.size (.lst ys)) { s with heap:=s.heap.push { cls:=.type "list",data:=.seq its.toArray },toks:=t' }:=
 I.laid (λ_ _ q=>aV _ q) (aR _) ⟨hz,its,0,hv,bC _ rfl⟩
def Inv.fresh(I:Inv X pins σ H s):H s.heap.objs.size=none:=I.hok.fresh (aR _)
def Inv.NB(I:Inv X pins σ H s)(hH:H l=some (.lst xs)):xs.length<=sizeLine/\∃(its:ba) (n:Nat),Vals xs its/\xs.length=its.length/\s.heap.get? l=some { cls:=.type "list",data:=.seq its.toArray n }:=by
 obtain⟨z,its,n,r,e⟩:=I.hok l _ hH;exact⟨z,its,n,r,r.length,e⟩
def Qd{n:Nat}(h:n<=sizeLine):Builtin.List.listTooLong n=false:=by
 unfold Builtin.List.listTooLong;exact bw ()
end
section
variable {X:Cx}
abbrev UZ:V->List V->Hp->VK->Prop:=λx vs H Q=>∃l xs y,x=.ref l/\vs=[y]/\H l=some (.lst xs)/\xs.length<sizeLine/\Q .non (upd H l (.lst (xs++[y])))
def zz:MtM X "list.append" UZ:=by
 intro pins s σ H x vs v us Q I rx rv h;obtain⟨l,xs,y,rfl,rfl,hH,hz,q⟩:=h
 cases rx
 obtain⟨u,rfl,ru⟩:=rv.one;obtain⟨z,its,n,r,hl,e⟩:=I.NB hH;refine jb F.slot_list_append ⟨_,e,rfl⟩ F.entry_list_append (F.args_list_append_2 _ _) (PySem.list_append l its.toArray n u (by rw[aY];lia)) ⟨e,?_⟩;refine⟨.non,_,I.aao (its':=its++[u]) hH e (by simp) (r.append (.cons ru .nil)) ?_,rfl,q⟩;rw[aQ,b9]
 lia
abbrev Wq:V->List V->Hp->VK->Prop:=λx vs H Q=>∃l xs i k y,x=.ref l/\vs=[.int i]/\H l=some (.lst xs)/\-(2 ^ 63)<=i/\i<2 ^ 63/\seqIndex? i xs.length=some k/\xs[k]?=some y/\Q y (upd H l (.lst (xs.eraseIdx k)))
def OO:MtM X "list.pop" Wq:=by
 intro pins s σ H x vs v us Q I rx rv h;obtain⟨l,xs,i,k,y,rfl,rfl,hH,h1,h2,hk,hy,q⟩:=h
 cases rx
 obtain⟨u,rfl,ru⟩:=rv.one;obtain⟨t,rfl⟩:=ru;obtain⟨z,its,n,r,hl,e⟩:=I.NB hH;obtain⟨w,hw,rw'⟩:=r.get hy;refine jb F.slot_list_pop ⟨_,e,rfl⟩ F.entry_list_pop (F.args_list_pop_2 _ _)
  (MeetsSeq.list_pop_at l its.toArray n i t k w (fitsIndex_both h1 h2) (by rw[aY,<- hl];exact hk) (by rw[<- eY];exact hw) (by rw[aY];lia)) ⟨e,?_⟩
 refine⟨y,_,I.aao (its':=its.eraseIdx k) hH e ?_ (r.eraseIdx k) ?_,rw',q⟩
 ·skip
  rw[iu]
 ·have:=C8 xs k
  lia
abbrev aa_:R2:=λx y H Q=>∃l b xs zs,x=.ref l/\y=.ref b/\H l=some (.lst xs)/\H b=some (.lst zs)/\xs.length+zs.length<=sizeLine/\∀p,H p=none->Q (.ref p) (upd H p (.lst (xs++zs)))
def Yh:pT X (binaryOp .Add) aa_:=by
 kcf_m;obtain⟨l,b,xs,zs,rfl,rfl,hH,hB,hz,q⟩:=h
 cases rx
 cases ry
 obtain⟨z,its,n,r,hl,e⟩:=I.NB hH;obtain⟨z2,its2,n2,r2,hl2,e2⟩:=I.NB hB;refine PySem.P.add_list e e2 ?_ (by rw[aY,aY];lia);have ea:its.toArray++its2.toArray=(its++its2).toArray:=by simp
 rw[ea];exact⟨.ref _,_,I.Uy (t':=s.toks) (r.append r2) (by rw[aQ];lia),rfl,q _ I.fresh⟩
abbrev aaX:R2:=λx y H Q=>∃l k xs,x=.ref l/\y=.int k/\H l=some (.lst xs)/\-(2 ^ 63)<=k/\k<2 ^ 63/\xs.length * k.toNat<=sizeLine /\
 ∀p,H p=none->Q (.ref p) (upd H p (.lst (List.replicate k.toNat xs).flatten))
def len_rep{α:Type}(xs:List α)(k:Nat):(List.replicate k xs).flatten.length=k * xs.length:=by
 induction k with
 | zero=>simp
 | succ k ih=>rw[di,d9,aQ,ih,dS,Nat.add_comm]
def X0:pT X (binaryOp .Mult) aaX:=by
 kcf_m;obtain⟨l,k,xs,rfl,rfl,hH,h1,h2,hz,q⟩:=h
 cases rx
 obtain⟨t,rfl⟩:=ry;obtain⟨z,its,n,r,hl,e⟩:=I.NB hH;have hlen:its.toArray.size * k.toNat<=sizeLine:=by rw[aY,<- hl];exact hz
 have hcap:¬its.toArray.size * k.toNat>(2 ^ 63-1) / 8:=by
  have:(sizeLine:Nat)<=(2 ^ 63-1) / 8:=by decide
  omega
 have hfit:¬(!Builtin.List.listFitsIndex k)=true:=by
  rw[fitsIndex_both h1 h2];exact bE
 have hlong:¬Builtin.List.listTooLong (its.toArray.size * k.toNat)=true:=by
  rw[Qd hlen];exact bE
 have hnew:List.foldl (λx1 x2=>x1++x2) #[] (List.replicate (if its.toArray.isEmpty=true then 0 else k.toNat) its.toArray)=(List.replicate k.toNat its).flatten.toArray:=by
  have f0:∀m:Nat,List.foldl (λx1 x2=>x1++x2) #[] (List.replicate m its.toArray)=(List.replicate m its).flatten.toArray:=λm=>by
   have:=foldl_rep its m [];rw[List.nil_append]at this;exact this
  rw[f0]
  cases its with
  | nil=>simp
  | cons a r'=>rw[aJ (by simp)]
 refine wpAny_binaryOp_repeat_ref (T := "list") (U := "int") ⋯ ⟨_,e,rfl⟩ (λs'=>typeIs_int s' k t) noFill_list_mul F.fills_int_mul F.slot_int_rmul repeat_list F.slot_int_index.lookup
  (jb F.slot_int_rmul (typeIs_int s k t) F.entry_int_rmul (F.args_int_rmul_2 _ _) (int___rmul___int_list k t l its.toArray n)
   ⟨e,rfl,⟨_,e,rfl⟩,jb F.slot_list_mul ⟨_,e,rfl⟩ F.entry_list_mul (F.args_list_mul_2 _ _) (AutoListH.list___mul___list_int_3 l its.toArray n k t hfit hcap hlong) ⟨e,?_⟩⟩)
 rw[hnew];exact⟨.ref _,_,I.Uy (t':=s.toks) (r.rep k.toNat) (by rw[len_rep,Nat.mul_comm];exact hz),rfl,q _ I.fresh⟩
end
end L2
namespace Att
open PySem PySem.W PySem.Calls PyProof.Rows
def zW{P:Params}:∀(ns:ag) (vs:ba),WellAll P h vs (ns.map WData.int)->IntsAre vs ns:=by
 intro ns
 induction ns with
 | nil=>
  intro vs w;rw[gQ]at w
  cases w
  exact .nil
 | cons n ns ih=>
  intro vs w;rw[bB]at w
  cases w with
  | cons a b=>
   cases a
   exact .cons _ _ (ih _ b)
def MK{l:OpenLaw}{n:Nat}(hn:l.most=some n){P:Params}{h:aq}
  (hpre:l.row.toRowW.claim.pre args=true) (hwl:WellAll P h vals args) :
  ∃a vs ns,vals=[Value.ref a]/\args=[WData.list (ns.map WData.int)]/\h.get? a=some { cls:=.type "list",data:=.seq vs.toArray }/\IntsAre vs ns/\ns.length<=n:=by
 have hsh:WShape.hasAll [] args [.list .int]=true:=(pre_splitW hpre).1;have hc:l.pre.holds [] { args:=args }=true:=(pre_splitW hpre).2;obtain⟨d,r,rfl,h1,h2⟩:=hasAllW_cons hsh;obtain rfl:=hasAllW_nil h2;obtain⟨xs,rfl,h3⟩:=hasW_list h1;obtain⟨ns,rfl⟩:=items_int h3;have hlen:ns.length<=n:=by
  unfold OpenLaw.pre at hc;have h4:(WTm.not (.lt (.lit (.int (n:Int))) (.len (.arg 0)))).holds [] { args:=[.list (ns.map .int)]}=true:=by
   have h4:=(holds_andW hc).1;rw[hn]at h4;exact h4
  have h5:=condW_of h4 (w_not (w_lt w_lit (w_len_list (w_arg rfl))));rw[aH]at h5;refine iB λq=>?_;have q':(n:Int)<((ns.length:Nat):Int):=by omega
  first
   | (rw[bf q']at h5;exact absurd h5 ⋯)
   | (simp at h5;omega)
 cases hwl with
 | cons w1 w2=>
  cases w2
  cases w1 with
  | list ho hall=>exact⟨_,_,ns,rfl,rfl,ho,zW ns _ hall,hlen⟩
def LQ(l:OpenLaw)(args:List WData):l.row.toRowW.claim.post args (.bool true) args=true:=
 postW_of (r:=l.row.toRowW) (X:=(true == true))
  (show WShape.has [] (.bool true) .bool=true by first|rfl|decide|simp[WShape.has,WShape.arms,WShape.armsAll])
  (show(WTm.eq .res (.lit (.bool true))).value [] { args:=args,res:=some (.bool true),after:=args }=some (.bool (true == true))from w_eq_bool (w_res rfl) w_lit) rfl
def G8{l:OpenLaw}{n:Nat}{q:aj}{XP:(Str->bi)->aq->Prop}{YP:ah->aq->Prop}{d:DefRec}
  (hn:l.most=some n) (hdf:d.params.defaults=[])
  (call:∀(w:ah) (s₀ s₁:aA) (mg mb:Str->bi) (fa:ak) (o:Obj) (pm cd doc:af) (a:ak) (vs:ba) (ns:ag),
   Ground q loose [] XP w s₀ mg mb s₁.heap->YP w s₁.heap ->
   s₁.heap.get? fa=some o->o.data=.func (docDef d.name d.params d.body d.scope pm cd doc)->s₁.heap.CodeRec cd d.name->mg d.name=some (.ref fa) ->
   s₁.heap.get? a=some { cls:=.type "list",data:=.seq vs.toArray }->IntsAre vs ns->ns.length<=n->s₁.gens=#[] ->
   codeAny (model l.prog w) callerA (.call (.ref fa) ⟨[.ref a],[]⟩) (λr s'=>r=.ok (.ret (.bool true))/\OldK s₁.heap s'.heap/\s'.os=s₁.os/\AllBare s'.gens) s₁) :
  WalkO q loose XP YP l.row.toRowW d [] (λf vs=>PySem.call f vs):=by
 intro w s₀ s₁ mg mb G Y fa o pm cd doc dV kV ho hd hcd hD hmg hg args vals as hpre hlay hrd hwl hlo;obtain rfl:dV=.none:=Dflts.none hD hdf;obtain rfl:kV=.none:=Dflts.noKw hD;obtain⟨a,vs,ns,rfl,rfl,hobj,hints,hlen⟩:=MK hn hpre hwl;refine enter_call (iL (call w s₀ s₁ mg mb fa o pm cd doc a vs ns G Y ho (fd_plain hd) hcd hmg hobj hints hlen hg) λr s' hq=>?_);obtain⟨rfl,h2,h3,h4⟩:=hq;exact⟨.inl ⟨.bool true,.bool true,[],rfl,λ_=>rfl,.bool true,LQ l _,λ_=>⟨List.Pairwise.nil,λ_ hm=>(nomatch hm)⟩⟩,h2,h3,h4⟩
end Att
namespace L2
open PySem PySem.Spec PyProof.Rows
theorem v9:∀{vs:ba}{ns:ag},IntsAre vs ns->Vals (ns.map V.int) vs
 | _,_,.nil=>.nil
 | _,_,.cons n t h=>.cons ⟨t,rfl⟩ (v9 h)
abbrev Tt (H:Hp):Prop:=∀b,H b=none\/∃o xs,H b=some (.frz o (.lst xs))
def M4{P:aj}{w:ah}{K:au}{mg mb:Str->bi}{CX:Sb}{k:Nat}{fa a:ak}{x:Str}{sp:Sp}{s₁:aA}{vs:ba}{ns:ag}
  (KX:K.In s₁.heap) (hns:s₁.heap.Ns mainGlobals mg) (hb:s₁.heap.Ns builtinsNs mb) (hbb:∀x:Str,x ≠ "__name__" -> mb x=bootBuiltins x) (hlim:s₁.heap.NoLimit) (hg:s₁.gens=#[])
  (ha:s₁.heap.get? a=some { cls:=.type "list",data:=.seq vs.toArray }) (hi:IntsAre vs ns) (hl:ns.length<=sizeLine) (hr:Room k callerA)
  (F:∀base:aq,K.In base->base.Ns mainGlobals mg->FnOk P w K mg base CX k fa fd [x] sp) (hbind:∀(s:aA) (u:af),BindsTo s fd ⟨[u],[]⟩ [(x,u)])
  (hsp:∀H:Hp,Tt H->rG K H a (ns.map V.int)->sp [.ref a] H (λv _=>v=.bl true) λ_ _ _=>False)
  (hCX:∀H e s',CX [] H s₁ (λ_ _ _=>False) e s'->False) :
  codeAny (model P w) callerA (.call (.ref fa) ⟨[.ref a],[]⟩) (λr s'=>r=.ok (.ret (.bool true))/\OldK s₁.heap s'.heap/\s'.os=s₁.os/\AllBare s'.gens) s₁:=by
 have rv:=v9 hi;have lenV:=hi.length;have core:∀H:Hp,Tt H->rG K H a (ns.map V.int)->xH P w H s₁.heap->(∀b,H b≠none->b=a)->(H a≠none->K.lookup a=none) ->
   codeAny (model P w) callerA (.call (.ref fa) ⟨[.ref a],[]⟩) (λr s'=>r=.ok (.ret (.bool true))/\OldK s₁.heap s'.heap/\s'.os=s₁.os/\AllBare s'.gens) s₁:=by
  intro H hO hS hok hA hK;have base_of:∀{b:ak} {o:Obj},s₁.heap.get? b=some o->H b=none->(EE s₁.heap H).get? b=some o:=λe n=>P_ e n;have noA:∀{b:ak} {o:Obj} {es:Array DictEntry} {ep:Nat},s₁.heap.get? b=some o->o.data=.dict es ep->H b=none:=λ{b o es ep} e d=>by
   cases q:H b with
   | none=>rfl
   | some u=>
    have e':b=a:=hA b (by rw[q];simp);subst e';rw[ha]at e;cases e;have d':Data.seq vs.toArray _=Data.dict es ep:=d
    cases d'
  have nsK:∀{b:ak} {m:Str->bi},s₁.heap.Ns b m->(EE s₁.heap H).Ns b m:=λ{b m} ⟨o,es,ep,e,d,r⟩=>⟨o,es,ep,base_of e (noA e d),d,r⟩;have hKb:K.In (EE s₁.heap H):=λb o e=>base_of (KX b o e) (by
   cases q:H b with
   | none=>rfl
   | some u=>
    have e':b=a:=hA b (by rw[q];simp);subst e';rw[hK (by rw[q];simp)]at e;cases e)
  have hM:Mod K mg (EE s₁.heap H):=⟨hKb,nsK hns,⟨mb,nsK hb,hbb⟩,let⟨mc,h1,h2⟩:=hlim;⟨mc,nsK h1,h2⟩⟩;have e0:Env0 P w K mg (EE s₁.heap H) callerA [] s₁ H:=⟨rfl,hM,λb o e=>Uz e,Nat.le_of_eq (MS _ _),trivial,λb hb=>absurd (show b∈([]:bd)from hb) (by simp),hok,.of_eq hg⟩;refine iL ((F _ hKb (nsK hns)).run callerA [] s₁ H ⟨[.ref a],[]⟩ [.ref a] [.ref a] _ _ hr e0 (hbind s₁ (.ref a)) (.cons rfl .nil) (hsp H hO hS)) λr s' h=>?_
  cases r with
  | error e=>exact(hCX H e s' h).elim
  | ok fl=>
   cases fl with
   | next=>exact False.elim h
   | brk=>exact False.elim h
   | cont=>exact False.elim h
   | ret u=>
    obtain⟨v,H',os,bare,un,hok',r',q⟩:=h;have q':v=.bl true:=q;subst q';obtain rfl:u=Value.bool true:=r';refine⟨rfl,OldK.of_keep λb o e=>?_,os,bare⟩
    cases q:H b with
    | none=>exact un.keep b o e q (by intro z;exact absurd (show b∈([]:bd)from z) (by simp)) (by simp)
    | some u=>
     rcases hO b with z|⟨ob,xs,z⟩
     ·rw[q]at z;cases z
     ·have z2:=un.frzs b ob _ z;obtain⟨e1,_⟩:=hok b _ z;obtain⟨e2,_⟩:=hok' b _ z2;rw[e]at e1;cases e1;exact e2
 cases hk:K.lookup a with
 | some o=>
  have e:=KX a o hk;rw[ha]at e
  cases e
  refine core (λ_=>none) (λ_=>.inl rfl) (.inr ⟨_,vs.toArray,_,hk,rfl,rfl,rfl,by rw[aY,lenV];exact hl,by simpa using rv⟩) (λb u z=>by have z':(none:Option HO)=some u:=z;cases z') (λb z=>absurd rfl z) λz=>absurd rfl z
 | none=>
  refine core (λb=>if b=a then some (.frz { cls:=.type "list",data:=.seq vs.toArray } (.lst (ns.map V.int)))else none) (λb=>?_) (.inl (.inr ⟨{ cls:=.type "list",data:=.seq vs.toArray },aK rfl⟩)) (λb u z=>?_) (λb z=>?_) λ_=>hk
  ·by_cases hb:b=a
   ·exact .inr ⟨_,_,aK hb⟩
   ·exact .inl (aJ hb)
  ·by_cases hb:b=a
   ·have z':=(aK hb).symm.trans z
    cases z'
    subst hb;exact⟨ha,by rw[aH];exact hl,vs,_,rv,ha⟩
   ·have z':=(aJ hb).symm.trans z
    cases z'
  ·by_cases hb:b=a
   ·exact hb
   ·exact absurd (aJ hb) z
def SX{l:PySem.W.OpenLaw}{n k:Nat}{q:aj}{XP:(Str->bi)->aq->Prop}{YP:ah->aq->Prop}{d:DefRec}{K:Params->au}{CX:ah->Sb}{sp:ah->Sp}{x:Str}
  (hn:l.most=some n) (hn2:n<=sizeLine) (hdf:d.params.defaults=[]) (hr:Room k callerA)
  (hY:∀(w:ah) (h:aq),YP w h->(K w.params).In h)
  (F:∀(w:ah) (mg:Str->bi) (fa:ak) (h:aq),(K w.params).In h->h.Ns mainGlobals mg->mg d.name=some (.ref fa) ->
   ∃fd:FuncData,(∀(s:aA) (u:af),BindsTo s fd ⟨[u],[]⟩ [(x,u)]) /\
    ∀base:aq,(K w.params).In base->base.Ns mainGlobals mg->FnOk l.prog w (K w.params) mg base (CX w) k fa fd [x] (sp w))
  (hsp:∀(w:ah) (H:Hp) (a:ak) (ns:ag),ns.length<=n->Tt H->rG (K w.params) H a (ns.map V.int)->sp w [.ref a] H (λv _=>v=.bl true) λ_ _ _=>False)
  (hCX:∀(w:ah) (H:Hp) (s:aA) (e:af) (s':aA),CX w [] H s (λ_ _ _=>False) e s'->False) :
  PySem.W.WalkO q loose XP YP l.row.toRowW d [] (λf vs=>PySem.call f vs):=by
 refine Att.G8 hn hdf λw s₀ s₁ mg mb fa o pm cd doc a vs ns G Y ho hd hcd hmg hobj hints hlen hg=>?_;have KX:=hY w _ Y;obtain⟨fd,hb,hF⟩:=F w mg fa _ KX G.T.g hmg;exact M4 KX G.T.g G.T.b G.T.builtins G.T.nolimit hg hobj hints (bJ hlen hn2) hr hF hb (λH hO hS=>hsp w H a ns hlen hO hS) λH e s'=>hCX w H s₁ e s'
abbrev v8 (s:aE):Arguments:=match s with
 | .FunctionDef _ a _ _ _ _ _ _ _ _=>a
 | _=>{ posonlyargs:=[],args:=[],vararg:=none,kwonlyargs:=[],kw_defaults:=[],kwarg:=none,defaults:=[]}
abbrev rP (s:aE):List aE:=match s with
 | .FunctionDef _ _ b _ _ _ _ _ _ _=>b
 | _=>[]
abbrev jE (s:aE):Scope:=match s with
 | .FunctionDef _ _ _ _ _ _ sc _ _ _=>sc
 | _=>{ kind:=.function,names:=[],isGenerator:=false,isCoroutine:=false }
meta abbrev oU:Sb:=λ_ _ _ _ _ _=>False
meta abbrev E0:XK:=λ_ _ _=>False
def ZL{X:Cx}:Passes oU X E0:=λ_ _ _ _ _ _ _ h=>h.elim
structure Fun (K:au)(x qual:Str)(st:aE)(f:ak)(fd:FuncData):Prop where
 ex:∃(oc:af) (od:Option ak) (kV doc pm:af) (an:Option ak) (cdv ct:af) (osl:Array (bi)),
  fd=PySem.W.fnOf x qual (v8 st) (rP st) (jE st) .none kV doc pm an cdv ct/\K.lookup f=some ⟨oc,od,.func fd,osl⟩/\PySem.W.codeIn K cdv qual=true
 kp:PySem.W.keepIn K (.ref f)=true
section
variable {P:aj}{w:ah}{K:au}{mg:Str->bi}{base:aq}
def Fun.ok{x:Str}{st:aE}{f:ak}{N ps:ar}{k:Nat}{sp:Sp}(F:Fun K x qual st f fd)(S:FnScope N ps (jE st))(len:∀vs H Q E,sp vs H Q E->vs.length=ps.length)
  (hbody:∀(cdv:af) (A:az) (outer:List Env) (s:aA) (H:Hp) (vs:List V) (Q:VK) (E:XK),Room k (A.deeper (envOfC qual (jE st) s.heap.objs.size f cdv))->sp vs H Q E ->
   ∃t,DR (IG oU P w K mg base N qual (jE st) f cdv A outer s H E).nox (rP st) t/\t { nx:=λ_ H'=>Q .non H',rt:=Q } (start N vs) H):FnOk P w K mg base oU (k+1) f fd ps sp:=by
 obtain⟨oc,od,kV,doc,pm,an,cdv,ct,osl,rfl,lk,hcd⟩:=F.ex;refine aaj lk hcd S len λA outer s H vs Q E hr hsp=>?_;obtain⟨t,h,q⟩:=hbody cdv A outer s H vs Q E hr hsp;exact⟨t,h.nox,q⟩
def Fun.binds{x:Str}{st:aE}{f:ak}{ps:ar}(F:Fun K x qual st f fd)
  (h:∀(kV doc pm:af) (an:Option ak) (cdv ct:af) (us:ba),us.length=ps.length->bindArgs (PySem.W.fnOf x qual (v8 st) (rP st) (jE st) .none kV doc pm an cdv ct) ⟨us,[]⟩=pure (ps.zip us)):Binds K fd ps []:=by
 obtain⟨oc,od,kV,doc,pm,an,cdv,ct,osl,rfl,lk,hcd⟩:=F.ex;exact .all (h kV doc pm an cdv ct)
def Yl{x:Str}{st:aE}{f:ak}{kV pm ct:af}(l:K.lookup f=some ⟨oc,od,.func (PySem.W.fnOf x qual (v8 st) (rP st) (jE st) .none kV doc pm an cdv ct),osl⟩)
  (c:PySem.W.codeIn K cdv qual=true) (k:PySem.W.keepIn K (.ref f)=true):Fun K x qual st f (PySem.W.fnOf x qual (v8 st) (rP st) (jE st) .none kV doc pm an cdv ct):=⟨⟨oc,od,kV,doc,pm,an,cdv,ct,osl,rfl,l,c⟩,k⟩
end
section
variable {X:Cx}
def pv(i:Nat){x:Str}(hN:X.N[i]?=some x:=by rfl)(hv:Zm X.env.scope x:=by first|exact Or.inl rfl|exact Or.inr (Or.inl rfl)|exact Or.inr (Or.inr rfl))(hd:(x == ("__debug__" : Str))=false:=by decide)
  (hcd:(x == ("__classdict__" : Str))=false:=by decide):PE X (.Name x pos) (aat i):=NU hN hv hd hcd
end
set_option maxHeartbeats 4000000
abbrev Ti (σ:St):bp->Option V
 | some j=>(σ[j]?).getD none
 | none=>none
abbrev zU (env:Env):List (Str×NameKind)->List (Str×ak)->List (Str×ak)
 | [],cs=>cs
 | (n,k)::r,cs=>zU env r (if k == .free then(n,(env.cells.lookup n).getD 0)::cs else cs)
def Bg{scope:Scope}{env:Env}(h:∀y∈scope.names,y.2=.free->∃c,env.cells.lookup y.1=some c):closureFor scope env=pure (zU env scope.names []):=by
 have key:∀(l:List (Str×NameKind)) (cs:List (Str×ak)),(∀y∈l,y.2=.free->∃c,env.cells.lookup y.1=some c) ->
   (forIn l cs (λ(x:Str×NameKind) (r:List (Str×ak))=>(match x with
    | (name,kind)=>if (kind == NameKind.free)=true then(do let c <- cellOf env name;pure (ForInStep.yield ((name,c)::r)))else pure (ForInStep.yield r):Sem (ForInStep (List (Str×ak))))))=(pure (zU env l cs):Sem (List (Str×ak))):=by
  intro l
  induction l with
  | nil=>intro cs _;rfl
  | cons y r ih=>
   intro cs hl;obtain⟨n,k⟩:=y;rw[gE];by_cases hk:k=.free
   ·subst hk;obtain⟨c,hc⟩:=hl (n,.free) aM rfl;have e1:cellOf env n=pure c:=by
     unfold cellOf;rw[hc]
    dsimp[bO,cZ,e1,pure_bind];rw[ih _ (λz hz=>hl z (aN _ hz))];dsimp[zU,bO,cZ,hc,eK]
   ·have hb:(k == NameKind.free)=false:=by simpa using hk
    dsimp[hb,bA,cg,pure_bind];rw[ih _ (λz hz=>hl z (aN _ hz))];dsimp[zU,hb,bA,cg]
 have:=key scope.names [] h;exact(dj (λz=>z >>= λcs=>(pure cs:Sem (List (Str×ak)))) this).trans (pure_bind _ _)
theorem Bf:∀{l:List (Str×NameKind)}{x:Str}{k:NameKind},l.lookup x=some k->(x,k)∈l
 | [],_,_,h=>nomatch h
 | (n,k')::r,x,k,h=>by
  rw[gf]at h
  cases hx:x == n with
  | true=>
   rw[hx]at h;have e:x=n:=by simpa using hx
   subst e
   cases h
   exact aM
  | false=>rw[hx]at h;exact aN _ (Bf h)
theorem CT{env:Env}{x:Str}{c:ak}:∀{l:List (Str×NameKind)}{cs:List (Str×ak)},(∀y∈l,y.2=.free->∃c,env.cells.lookup y.1=some c)->(zU env l cs).lookup x=some c->env.cells.lookup x=some c\/cs.lookup x=some c
 | [],cs,_,h=>.inr h
 | (n,k)::r,cs,hl,h=>by
  have h':=CT (l:=r) (λz hz=>hl z (aN _ hz)) h
  rcases h' with h'|h'
  ·exact .inl h'
  ·by_cases hk:k=.free
   ·subst hk;dsimp[bO,cZ]at h';obtain⟨c',hc⟩:=hl (n,.free) aM rfl;rw[hc,eK,gf]at h'
    cases hx:x == n with
    | true=>
     rw[hx]at h';have e:x=n:=by simpa using hx
     subst e;left;rw[hc];exact h'
    | false=>rw[hx]at h';exact .inr h'
   ·have hb:(k == NameKind.free)=false:=by simpa using hk
    dsimp[hb,bA,cg]at h';exact .inr h'
theorem C1{env:Env}{x:Str}:∀{l:List (Str×NameKind)}{cs:List (Str×ak)},(cs.lookup x).isSome=true->((zU env l cs).lookup x).isSome=true
 | [],cs,h=>h
 | (n,k)::r,cs,h=>by
  skip
  refine C1 (l:=r) ?_;by_cases hk:(k == NameKind.free)=true
  ·rw[aK hk,gf]
   cases hx:x == n with
   | true=>rfl
   | false=>exact h
  ·rw[aJ hk];exact h
theorem A8{env:Env}{x:Str}:∀{l:List (Str×NameKind)}{cs:List (Str×ak)},(x,NameKind.free)∈l->((zU env l cs).lookup x).isSome=true
 | [],_,h=>nomatch h
 | (n,k)::r,cs,h=>by
  rcases bF.mp h with e|h
  ·cases e
   skip
   refine C1 (l:=r) ?_;rw[aK (by rfl),gf];simp
  ·exact A8 (l:=r) h
abbrev lz (X:Cx)(scope:Scope)(N:ar)(C:ak)(s₀:aA)(H₀:Hp)(ex:bd):Cx where
 prog:=X.prog
 w:=X.w
 K:=X.K
 mg:=X.mg
 base:=X.base
 A:=X.A
 N:=N
 s₀:=s₀
 H₀:=H₀
 env:=compEnvC scope (zU X.env scope.names []) C X.env
 outer:=X.stack
 stack:=X.stack
 ex:=ex
 fn:=λ_=>false
 calm:=X.calm
 pn:=[]
 xe:=λ_ _=>False
structure CpScope (X:Cx)(scope:Scope)(N:ar)(cap:List (bp)):Prop where
 kind:scope.kind=.function
 nocell:∀y∈scope.names,y.2≠.cell
 nm:∀y∈scope.names,y.2=.local->scope.names.lookup y.1=some .local
 fr:∀y∈scope.names,y.2=.free->X.env.kindOf y.1=some .cell\/X.env.kindOf y.1=some .free
 rl:∀y,((relabel scope X.env).names.lookup y=some .cell\/(relabel scope X.env).names.lookup y=some .free)->(y,NameKind.free)∈scope.names
 len:cap.length=N.length
 nolf:∀x,(x,NameKind.free)∈scope.names->scope.names.lookup x≠some .local
 cp:∀(i j:Nat) (x:Str),N[i]?=some x->cap[i]?=some (some j)->X.N[j]?=some x/\(x,NameKind.free)∈scope.names
def QV{X:Cx}{N:ar}{cap:List (bp)}{H:Hp}{s:aA}{fp:bd}{h₁:aq}{m:Str->bi}{tk:Nat}(S:CpScope X scope N cap)(I:Inv X pins σ H s)
  (hf:∀b∈fp,vd X pins H b) (ho:∀b∈fp,∃o,s.heap.get? b=some o) (hn:h₁.Ns s.heap.objs.size m) (hk:∀b o,s.heap.get? b=some o->h₁.get? b=some o) :
  Inv (lz X scope N s.heap.objs.size s H fp) [] (cap.map (Ti σ)) H { s with heap:=h₁,toks:=tk }:=by
 kpf_c;have lk:∀x c,(zU X.env scope.names []).lookup x=some c->X.env.cells.lookup x=some c:=λx c e=>by
  rcases CT hfree e with z|z
  ·exact z
  ·cases z
 have lt:∀b o,s.heap.get? b=some o->b≠s.heap.objs.size:=λb o e=>bD (bg e);refine⟨⟨I.ok.mod,?_,I.ok.glob,I.ok.blt,aR _,?_,?_,?_,I.ok.hd,I.ok.frames,.inl rfl,?_,I.bs,bJ I.ok.bsz I.sz,?_,?_,I.stack,I.LA⟩,rfl,I.bare,Un.kept hk,?_,?_,I.hok.fresh (aR _),?_,?_,I.hok.kept hk,?_⟩
 ·exact S.kind
 ·intro x y c e1 e2;exact I.ok.inj x y c (lk x c e1) (lk y c e2)
 ·intro x e;have hm:=S.rl x e;have:=A8 (env:=X.env) (cs:=[]) hm;exact fC.mp this
 ·intro x c e _;exact absurd e (by simp[lz])
 ·intro b hb;obtain⟨o,e⟩:=ho b hb;refine⟨lt b o e,λx c e2=>(hf b hb).2.2.2.2.1 x c (lk x c e2)⟩
 ·intro b o e hb;obtain⟨_,_,_,h3,_⟩:=hf b hb
  rcases h3 with z|z
  ·exact I.ok.noex b o e z
  ·exact absurd (bV (bg (I.ok.bs b o e).1) z) (fW _)
 ·intro b hb hz;obtain⟨_,h1,h2,_⟩:=hf b hb
  rcases bF.mp (I.HU b hz)with z|z
  ·exact h1 z
  ·exact h2 z
 ·refine⟨m,hn,λi x v e1 e2 e3=>?_⟩;rw[aO]at e2
  cases hc:cap[i]? with
  | none=>rw[hc]at e2;cases e2
  | some oj=>
   rw[hc]at e2
   cases oj with
   | none=>cases e2
   | some j=>
    have e2':(σ[j]?).getD none=some v:=a_ e2;obtain⟨hj,hm⟩:=S.cp i j x e1 hc;obtain⟨m0,hn0,hl0⟩:=I.loc;have hσ:σ[j]?=some (some v):=by
     cases h:σ[j]? with
     | none=>rw[h]at e2';cases e2'
     | some z=>rw[h,eK]at e2';rw[e2']
    have hkd:=S.fr (x,.free) hm rfl;have hv:Zm X.env.scope x:=.inr hkd;obtain⟨u,ru,lo⟩:=hl0 j x v hj hσ hv;refine⟨u,ru,?_⟩
    rcases lo with⟨lo,_⟩|⟨_,c,ec,ic⟩
    ·rcases hkd with z|z<;>(rw[z]at lo;cases lo)
    ·have h2:=A8 (env:=X.env) (cs:=[]) hm;obtain⟨c',hc'⟩:=fC.mp h2;have:c'=c:=a_ ((lk x c' hc').symm.trans ec);subst this;refine .inr ⟨?_,c',hc',?_⟩
     ·rcases e3 with z|z|z
      ·exfalso;have:(relabel scope X.env).names.lookup x=some .local:=z;have hloc:scope.names.lookup x=some .local:=by
        have hmem:∃k,(x,k)∈(relabel scope X.env).names/\k=.local:=by
         clear hc' h2;have:=Bf this;exact⟨_,this,rfl⟩
        obtain⟨k,hk1,rfl⟩:=hmem;obtain⟨⟨n',k'⟩,hm1,hm2⟩:=bu.mp hk1;dsimp only at hm2;split at hm2
        ·cases hm2
        ·cases hm2
         exact S.nm (x,.local) hm1 rfl
       exact False.elim (S.nolf x hm hloc)
      ·exact .inl z
      ·exact .inr z
     ·obtain⟨o,ho',hd⟩:=ic;exact⟨o,hk _ _ ho',hd⟩
 ·intro x c e;obtain⟨v,o,ho',hd⟩:=I.cell x c (lk x c e);exact⟨v,o,hk _ _ ho',hd⟩
 ·intro x c e;exact I.freeC x c (lk x c e)
 ·intro p hp
  cases hp
 ·rw[aH,S.len];rfl
abbrev Sa (X:Cx)(ifs:List aC)(t:TT):Prop:=
 ∀(pins:bv) (s:aA) (σ:St) (H:Hp) (Q:Bool->Hp->Prop),Inv X pins σ H s->t σ H Q ->
  wpAny (model X.prog X.w) X.A (forIn ifs true λc r=>if r=true then do let ok <- isTrue c X.env (eval c X.env);pure (ForInStep.yield ok)else pure (ForInStep.yield r)) (TP X pins σ Q) X.xe s
abbrev abP:TT:=λ_ H Q=>Q true H
def Tn{X:Cx}:Sa X [] abP:=λ_ _ _ H _ I h=>wpAny_tests_nil ⟨H,I,h⟩
def Tp{X:Cx}{c:aC}{t:TT}(h:PT X c t):Sa X [c] t:=λpins s σ H Q I q=>wpAny_tests_one (h pins s σ H Q I q)
abbrev Yg (cap:List (bp))(g:TG)(tc:TT)(te:TE)(σ:St)(Q:VK)(J:It)(H1:Hp):Prop:=∀D,H1 D=none ->
 ∃W:Nat->Nat->St->Hp->Prop,(∃m,W 0 m (cap.map (Ti σ)) (upd H1 D (.lst [])))/\∀i m σ' H',W i m σ' H' ->
  (J.stop i H'/\Q (.ref D) H')\/(J.go i H'/\∀x H2,J.yld i H' x H2->g x σ' H2 λσ3 H3=>tc σ3 H3 λb H4=>
   if b=true then te σ3 H4 λy H5=>∃ys,H5 D=some (.lst ys)/\ys.length<sizeLine/\∃m',m'<m/\W (i+1) m' σ3 (upd H5 D (.lst (ys++[y])))
   else ∃m',m'<m/\W (i+1) m' σ3 H4)
abbrev tLC (cap:List (bp))(wi:TI)(g:TG)(tc:TT)(te:TE):TE:=λσ H Q=>wi σ H (Yg cap g tc te σ Q)
def EC{α:Type}{t:Sem α}{Q Q':α->aA->Prop}{A:az}{E:af->aA->Prop}(h:wpAny M A t Q (λ_ _=>False) s)(hQ:∀a s,Q a s->Q' a s):wpAny M A t Q' E s:=
 f7 h hQ λ_ _ f=>f.elim
structure TurnG (ok:Cx->Prop)(P:aj)(w:ah)(K:au)(tg:aC)(J:It)(fp:bd)(it:ak)(tn:Nat->aq->Prop):Prop where
 obj:∀i h,tn i h->∀b∈fp,∃o,h.get? b=some o/\∀v,o.data≠.cell v
 keep:∀i h h',tn i h->(∀b∈fp,∀o,h.get? b=some o->h'.get? b=some o)->tn i h'
 item:∀(X:Cx),X.prog=P->X.w=w->X.K=K->ok X->∀(i:Nat) (pins:bv) (s:aA) (σ:St) (H:Hp) (E:af->aA->Prop),Inv X pins σ H s->(∀b∈fp,vd X pins H b)->tn i s.heap->J.go i H ->
  wpAny (model P w) X.A (pyNext (.ref it)) (λr s1=>∃u,r=some u /\
   wpAny (model P w) X.A (letOwnedTupleGo tg (.ref it) u) (λ_ s2=>∃x H',Inv X pins σ H' s2/\RelV x u/\J.yld i H x H'/\tn (i+1) s2.heap/\∀b∈fp,H' b=none) E s1) E s
 done:∀(X:Cx),X.prog=P->X.w=w->X.K=K->ok X->∀(i:Nat) (pins:bv) (s:aA) (σ:St) (H:Hp) (E:af->aA->Prop),Inv X pins σ H s->(∀b∈fp,vd X pins H b)->tn i s.heap->J.stop i H ->
  wpAny (model P w) X.A (pyNext (.ref it)) (λr s1=>r=none/\Inv X pins σ H s1) E s
 self:∀(A:az) (i:Nat) (s:aA) (Q:af->aA->Prop) (E:af->aA->Prop),tn i s.heap->Q (.ref it) s->wpAny (model P w) A (pyIter (.ref it)) Q E s
abbrev abC (ok:Cx->Prop)(X:Cx)(pins:bv)(σ:St)(tg:aC)(R:It->Hp->Prop)(itv:af)(s2:aA):Prop:=
 ∃(it:ak) (fp:bd) (tn:Nat->aq->Prop) (J:It) (H':Hp),itv=.ref it/\Inv X pins σ H' s2/\TurnG ok X.prog X.w X.K tg J fp it tn/\tn 0 s2.heap/\(∀b∈fp,vd X pins H' b)/\R J H'
abbrev PIg (ok:Cx->Prop)(X:Cx)(tg iter:aC)(wi:TI):Prop:=
 ∀(pins:bv) (s:aA) (σ:St) (H:Hp) (R:It->Hp->Prop),Inv X pins σ H s->wi σ H R ->
  wpAny (model X.prog X.w) X.A (eval iter X.env) (λv s1=>wpAny (model X.prog X.w) X.A (pyIter v) (abC ok X pins σ tg R) X.xe s1) X.xe s
def PI.g{X:Cx}{iter:aC}{wi:TI}(h:PI X tg iter wi):PIg (λY=>Y.calm=true) X tg iter wi:=λpins s σ H R I q=>
 mP (h pins s σ H R I q) λv s1 h1=>mP h1 λitv s2 ⟨it,fp,tn,J,H',e,I',T,a,b,c⟩=>⟨it,fp,tn,J,H',e,I',⟨T.obj,T.keep,T.item,T.done,T.self⟩,a,b,c⟩
def JL{ok:Cx->Prop}{X:Cx}{use:Option (af->Sem Unit)}{Q':af->aA->Prop}{iter:aC}{N:ar}{wi:TI}{g:TG}{tc:TT}{te:TE}(S:CpScope X scope N cap)(hok:∀C s₀ H₀ ex,(∀a o u,X.H₀ a=some (.frz o u)->H₀ a=some (.frz o u))->ok (lz X scope N C s₀ H₀ ex))(hi:PIg ok X tg iter wi)
  (hg:∀C s₀ H₀ ex,PG (lz X scope N C s₀ H₀ ex) tg g) (ht:∀C s₀ H₀ ex,Sa (lz X scope N C s₀ H₀ ex) ifs tc) (he:∀C s₀ H₀ ex,PE (lz X scope N C s₀ H₀ ex) elt te)
  (hs:∀x,foldedSetIterable iter X.env x=pure x:=by intro _;rfl):∀(pins:bv) (s:aA) (σ:St) (H:Hp) (Q:VK),Inv X pins σ H s->tLC cap wi g tc te σ H Q ->
  (∀(s6:aA) (C D:ak) (H5:Hp) (m:Str->bi),s6.heap.Ns C m->vd X pins H5 C->(∀h',Heap.SameBut C s6.heap h'->Inv X pins σ H5 { s6 with heap:=h' })->Q (.ref D) H5->∀v,compPost (model X.prog X.w) X.A X.xe use Q' (.ref D) C (.ok v) s6) ->
  wpAny (model X.prog X.w) X.A (comprehension (.ListComp elt [⟨tg,iter,ifs,0⟩] scope pos) scope X.env (firstIterPos [⟨tg,iter,ifs,0⟩] pos) (newList []) (firstAsync [⟨tg,iter,ifs,0⟩]) (firstIter [⟨tg,iter,ifs,0⟩] X.env) use) Q' X.xe s:=by
 intro pins s σ H Q I h hfin;kpf_c;refine wpAny_comprehension_free (use:=use) rfl hs (Bg hfree) S.kind S.nm (mP (hi pins s σ H _ I h) λxv s1 h1=>mP h1 λitv s2 h2=>?_);obtain⟨it,fp,tn,J,H2,rfl,I2,T,st2,f2,h2⟩:=h2;refine cC (wpAny_newFunctionEnv S.nocell (by intro y hy;simp at hy) (λh₁ hns₁ hsb₁=>?_) S.kind);obtain⟨W,⟨m0,w0⟩,turn⟩:=h2 s2.heap.objs.size I2.fresh;dsimp only at hns₁ hsb₁ ⊢;have I3:Inv X pins σ (upd H2 s2.heap.objs.size (.lst [])) { s2 with heap:=s2.heap.push {}}:=I2.Uy (t':=s2.toks) (its:=[]) .nil (bL _);have hfp:∀b∈fp,∃o,s2.heap.get? b=some o:=λb hb=>by
  obtain⟨o,e,_⟩:=T.obj 0 _ st2 b hb;exact⟨o,e⟩
 have neD:∀b∈fp,b≠s2.heap.objs.size:=λb hb=>by
  obtain⟨o,e⟩:=hfp b hb;exact bD (bg e)
 have f3:∀b∈fp,vd X pins (upd H2 s2.heap.objs.size (.lst [])) b:=λb hb=>⟨by rw[jH (neD b hb)];exact(f2 b hb).1,(f2 b hb).2⟩;have hDC:s2.heap.objs.size≠(s2.heap.push {}).objs.size:=by rw[dX];exact bD (c8 _)
 have old:∀b o,(s2.heap.push {}).get? b=some o->h₁.get? b=some o:=λb o e=>hsb₁.extBut b o (bD (bg e)) (aV _ e);have I4:=QV (tk:=s2.toks+([]:List (Str×af)).length) (fp:=fp) S I3 f3 (λb hb=>by
  obtain⟨o,e⟩:=hfp b hb;exact⟨o,aV _ e⟩) hns₁ old
 have st4:tn 0 h₁:=T.keep _ _ _ st2 λb hb o e=>old b o (aV _ e);have hc:=hok (s2.heap.push {}).objs.size { s2 with heap:=s2.heap.push {}} (upd H2 s2.heap.objs.size (.lst [])) fp λa o u e=>by
  have z:=I2.base.frzs a o u e;rw[jH (λq=>by rw[q,I2.fresh]at z;cases z)];exact z
 have stat:∀{H':Hp},(∀b∈fp,H' b=none)->∀b∈fp,vd (lz X scope N (s2.heap.push {}).objs.size { s2 with heap:=s2.heap.push {}} (upd H2 s2.heap.objs.size (.lst [])) fp) [] H' b:=λhn b hb=>by
  have ok:=I4.ok;refine⟨hn b hb,(ok.exf b hb).1,ok.exfs b hb,.inl hb,λx c e=>(ok.exf b hb).2 x c e,λp hp=>nomatch hp⟩
 have loop:∀s4:aA,s4={ s2 with heap:=h₁,toks:=s2.toks+([]:List (Str×af)).length } ->
   codeAny (model X.prog X.w) X.A (.compLoop (.ListComp elt [⟨tg,iter,ifs,0⟩] scope pos) 0 (.ref it) (.ref s2.heap.objs.size) (compEnvC scope (zU X.env scope.names []) (s2.heap.push {}).objs.size X.env))
    (compPost (model X.prog X.w) X.A X.xe use Q' (.ref s2.heap.objs.size) (s2.heap.push {}).objs.size) s4:=by
  rintro s4 rfl;refine codeAny_loop rfl (λn s'=>∃i σ' H',Inv (lz X scope N (s2.heap.push {}).objs.size { s2 with heap:=s2.heap.push {}} (upd H2 s2.heap.objs.size (.lst [])) fp) [] σ' H' s'/\tn i s'.heap/\(∀b∈fp,H' b=none)/\W i n σ' H') (λn s5 hI=>?_) m0 ⟨0,_,_,I4,st4,λb hb=>(f3 b hb).1,w0⟩;obtain⟨i,σ5,H5,I5,st5,fr5,w5⟩:=hI
  skip
  refine wpAny_noted ?_;rw[compTurn_list];refine aG (fB (aG ?_))
  rcases turn i n σ5 H5 w5 with⟨stop,q⟩|⟨go,step⟩
  ·refine mP (T.done (lz X scope N (s2.heap.push {}).objs.size { s2 with heap:=s2.heap.push {}} (upd H2 s2.heap.objs.size (.lst [])) fp) rfl rfl rfl hc i [] s5 σ5 H5 _ I5 (stat fr5) st5 stop) λr s6 h9=>?_;obtain⟨hr,I6⟩:=h9;subst hr;obtain⟨m6,hn6,_⟩:=I6.loc;refine aP (hfin s6 _ _ H5 m6 hn6 (I3.Hl (aR _) I6.free) (λh' sb=>?_) q _);have u6:=I6.base;have nC:∀b o,(s2.heap.push {}).get? b=some o->b≠(s2.heap.push {}).objs.size:=λb o e=>bD (bg e);refine I3.Rz (ch:=fp) I6.os ⟨λb o e n hb hx=>?_,λb o e n hb hx=>?_,λb o e n hx=>?_,λb o e hx=>?_,u6.tups,u6.frzs,u6.tbls⟩ ?_ I6.bare ?_
   ·exact sb.extBut b o (nC b o e) (u6.keep b o e n hb hx)
   ·obtain⟨sl,z⟩:=u6.slot b o e n hb hx;exact⟨sl,sb.extBut b _ (nC b o e) z⟩
   ·exact u6.free b o e n hx
   ·obtain⟨o',z⟩:=u6.there b o e hx;exact⟨o',sb.extBut b _ (nC b o e) z⟩
   ·intro b o e;have hb:∀c v,H5 c=some v->c≠(s2.heap.push {}).objs.size:=λc v e z=>by
     rw[z]at e;have:=I6.free;rw[show H5 (s2.heap.push {}).objs.size=none from this]at e
     cases e
    refine(I6.hok b o e).stay (λc v hc q=>sb.extBut c v ?_ q) (λ_ q=>q) λ_ _ q=>q
    rcases hc with z|z
    ·rw[z];exact hb b o e
    ·exact hb c _ z
   ·intro b hb;obtain⟨_,z1,_,z3,z4,z5⟩:=f3 b hb;exact⟨z3,z1,z4,z5⟩
  ·refine mP (T.item (lz X scope N (s2.heap.push {}).objs.size { s2 with heap:=s2.heap.push {}} (upd H2 s2.heap.objs.size (.lst [])) fp) rfl rfl rfl hc i [] s5 σ5 H5 _ I5 (stat fr5) st5 go) λr s6 h9=>?_;obtain⟨u,hr,h6⟩:=h9;subst hr;refine aG (mP h6 λ_ s7 ⟨x,H7,I7,r7,y7,st7,fr7⟩=>?_);have I7':=I7.pinned (stat fr7) (T.obj _ _ st7);refine aG (EC (hg _ _ _ fp _ s7 σ5 H7 x u _ I7' r7 (step x H7 y7)) λ_ s8 ⟨σ8,H8,I8,q8⟩=>?_);refine aG (EC (ht _ _ _ fp _ s8 σ8 H8 _ I8 q8) λok s9 ⟨H9,I9,q9⟩=>?_);have again:∀{s10:aA} {H10:Hp},Inv (lz X scope N (s2.heap.push {}).objs.size { s2 with heap:=s2.heap.push {}} (upd H2 s2.heap.objs.size (.lst [])) fp) ([]++w9 fp s7.heap) σ8 H10 s10->(∃m',m'<n/\W (i+1) m' σ8 H10) ->
     ∃m,m<n/\∃i σ' H',Inv (lz X scope N (s2.heap.push {}).objs.size { s2 with heap:=s2.heap.push {}} (upd H2 s2.heap.objs.size (.lst [])) fp) [] σ' H' s10/\tn i s10.heap/\(∀b∈fp,H' b=none)/\W i m σ' H':=λ{s10 H10} I10 h9=>by
    obtain⟨m',hm,w10⟩:=h9;refine⟨m',hm,i+1,σ8,H10,I10.q_,T.keep _ _ _ st7 λb hb o e=>(I10.pin (b,o) (bG _ (bG _ (l_ hb e)))).1,λb hb=>?_,w10⟩;obtain⟨o,e,d⟩:=T.obj _ _ st7 b hb;exact(I10.pin (b,o) (bG _ (bG _ (l_ hb e)))).2.1
   cases ok with
   | false=>
    rw[aJ bE]at q9;exact aP ⟨rfl,again I9 q9⟩
   | true=>
    rw[aK rfl]at q9;refine aG (aG (EC (he _ _ _ fp _ s9 σ8 H9 _ I9 q9) λy s10 ⟨v10,H10,I10,r10,ys,hD,hz,w10⟩=>?_));refine aG (EC (zz _ s10 σ8 H10 (.ref s2.heap.objs.size) [v10] _ [y] (λ_ H'=>H'=upd H10 s2.heap.objs.size (.lst (ys++[v10]))) I10 rfl (.cons r10 .nil) ⟨_,ys,v10,rfl,rfl,hD,hz,rfl⟩) λ_ s11 ⟨_,H11,I11,_,e11⟩=>?_);subst e11;exact aP (aP ⟨rfl,again I11 w10⟩)
 exact codeAny_compStart_list (loop _ rfl) (T.self _ 0 _ _ _ st4 (loop _ rfl))
def Yx{ok:Cx->Prop}{X:Cx}{iter:aC}{N:ar}{wi:TI}{g:TG}{tc:TT}{te:TE}(S:CpScope X scope N cap)(hok:∀C s₀ H₀ ex,(∀a o u,X.H₀ a=some (.frz o u)->H₀ a=some (.frz o u))->ok (lz X scope N C s₀ H₀ ex))(hi:PIg ok X tg iter wi)
  (hg:∀C s₀ H₀ ex,PG (lz X scope N C s₀ H₀ ex) tg g) (ht:∀C s₀ H₀ ex,Sa (lz X scope N C s₀ H₀ ex) ifs tc) (he:∀C s₀ H₀ ex,PE (lz X scope N C s₀ H₀ ex) elt te)
  (hs:∀x,foldedSetIterable iter X.env x=pure x:=by intro _;rfl):PE X (.ListComp elt [⟨tg,iter,ifs,0⟩] scope pos) (tLC cap wi g tc te):=by
 k_ne;rw[eval_ListComp];exact JL (use:=none) (Q':=EP X pins σ Q) S hok hi hg ht he hs pins s σ H Q I h λs6 C D H5 m hn fk inv q v=>⟨m,hn,λh' sb=>⟨.ref D,H5,inv h' sb,rfl,q⟩⟩
def aal{X:Cx}{iter:aC}{N:ar}{wi:TI}{g:TG}{tc:TT}{te:TE}(hc:X.calm=true)(S:CpScope X scope N cap)(hi:PI X tg iter wi)
  (hg:∀C s₀ H₀ ex,PG (lz X scope N C s₀ H₀ ex) tg g) (ht:∀C s₀ H₀ ex,Sa (lz X scope N C s₀ H₀ ex) ifs tc) (he:∀C s₀ H₀ ex,PE (lz X scope N C s₀ H₀ ex) elt te)
  (hs:∀x,foldedSetIterable iter X.env x=pure x:=by intro _;rfl):PE X (.ListComp elt [⟨tg,iter,ifs,0⟩] scope pos) (tLC cap wi g tc te):=
 Yx S (λ_ _ _ _ _=>hc) hi.g hg ht he hs
section
variable {X:Cx}
def PC{bs:List Bool}:∀{us:ba},Vals (bs.map V.bl) us->LSm.BoolsAre us bs:=by
 induction bs with
 | nil=>intro us r;cases r;exact .nil
 | cons b bs ih=>
  intro us r
  cases r with
  | cons h t=>
   have e:_=Value.bool b:=h;subst e;exact .cons b (ih t)
def MQ(hc:X.calm=true):j9 X (.builtin "all") (λxs H Q=>∃(p:ak) (bs:List Bool),xs=[.ref p]/\rG X.K H p (bs.map V.bl)/\Q (.bl (bs.all id)) H):=by
 w_up;obtain⟨p,bs,rfl,hq,q⟩:=h;kcj_m
 cases rx
 obtain⟨its,rv,pl,hz⟩:=I.list hq;have hb:=PC rv;have hl:=pl.isList;have hlt:p<s.heap.objs.size:=by obtain⟨_,e,_⟩:=hl;exact bg e
 refine call_all_walk (iU hl ?_);refine⟨s.heap.objs.size,[s.heap.objs.size,p],[s.heap.objs.size],its.toArray.size,_,_,λi=>(bs[i]?).getD true,rfl,Walks.list (A:=X.A.in1) (I.ok.hd hc) _ p (bD hlt) its.toArray,
  ⟨⟨_,bC _ rfl,rfl,rfl⟩,hl.push _⟩,λi v s' Q' E' hP hQ=>?_,λh' tk hk=>?_⟩
 ·obtain⟨b,e,rfl⟩:=hb.get i v (by simpa using hP);dsimp[e,eK]at hQ;exact dI hQ
 ·have e:((List.range its.toArray.size).all λi=>(bs[i]?).getD true)=bs.all id:=by
   rw[aY,hb.length];exact LSm.range_all bs
  rw[e];exact⟨.bl _,H,I.kept (LSm.kept_iter hk),rfl,q⟩
abbrev R0:List V->List V->Bool
 | [],[]=>true
 | x::xs,y::ys=>TV x y && R0 xs ys
 | _,_=>false
def Wv{xs ys:List V}:∀(n:Nat),n=xs.length->n=ys.length->(List.range n).all (λj=>match xs[j]?,ys[j]? with|some x,some y=>TV x y|_,_=>true)=R0 xs ys:=by
 intro n
 induction n generalizing xs ys with
 | zero=>
  intro h1 h2
  cases xs with
  | nil=>cases ys with
   | nil=>rfl
   | cons y ys=>cases h2
  | cons x xs=>cases h1
 | succ n ih=>
  intro h1 h2
  cases xs with
  | nil=>cases h1
  | cons x xs=>
   cases ys with
   | nil=>cases h2
   | cons y ys=>
    rw[gR,all_cons,gS];have:=ih (xs:=xs) (ys:=ys) (Nat.succ.inj h1) (Nat.succ.inj h2);show(TV x y && _)=(TV x y && R0 xs ys);rw[<- this];rfl
def Se{xs ys:List V}(h:xs.length≠ys.length):R0 xs ys=false:=by
 induction xs generalizing ys with
 | nil=>cases ys with
  | nil=>exact absurd rfl h
  | cons y ys=>rfl
 | cons x xs ih=>cases ys with
  | nil=>rfl
  | cons y ys=>
   show(TV x y && R0 xs ys)=false;rw[ih (λe=>h (by simp[e])),jf]
theorem F6:∀(ns ms:ag),R0 (ns.map V.int) (ms.map V.int)=decide (ns=ms)
 | [],[]=>rfl
 | [],_::_=>by simp[R0]
 | _::_,[]=>by simp[R0]
 | n::ns,m::ms=>by
  show(TV (.int n) (.int m) && R0 (ns.map V.int) (ms.map V.int))=_;rw[F6 ns ms];show((n == m) && decide (ns=ms))=_;by_cases h1:n=m<;>by_cases h2:ns=ms<;>simp[h1,h2]
abbrev eAt (xs ys:List V)(j:Nat):Bool:=match xs[j]?,ys[j]? with|some x,some y=>TV x y|_,_=>true
def Pu{A:az}{xs ys:List V}{us ws:ba}(rx:Vals xs us)(ry:Vals ys ws)(fx:xs.all BX=true)(fy:ys.all BX=true) :
  ∀j (h1:j<us.toArray.size) (h2:j<ws.toArray.size),SeqAt.EqAt A s us.toArray[j] ws.toArray[j] (eAt xs ys j):=by
 intro j h1 h2;have hx:j<xs.length:=by rw[rx.length];simpa using h1
 have hy:j<ys.length:=by rw[ry.length];simpa using h2
 have e1:xs[j]?=some xs[j]:=aF hx;have e2:ys[j]?=some ys[j]:=aF hy;obtain⟨u,eu,ru⟩:=rx.get e1;obtain⟨w,ew,rw'⟩:=ry.get e2;have fu:BX xs[j]=true:=eL.mp fx _ (cI hx);have fw:BX ys[j]=true:=eL.mp fy _ (cI hy);have a1:us.toArray[j]=u:=by
  have:us[j]?=some us.toArray[j]:=by simp at h1;simp[h1]
  rw[eu]at this;exact(a_ this).symm
 have a2:ws.toArray[j]=w:=by
  have:ws[j]?=some ws.toArray[j]:=by simp at h2;simp[h2]
  rw[ew]at this;exact(a_ this).symm
 rw[a1,a2];have e3:eAt xs ys j=TV xs[j] ys[j]:=by unfold eAt;rw[e1,e2]
 rw[e3];exact YD ru rw' fu fw
def DH:j9 X (.type "range") (λxs H Q=>∃i j,xs=[.int i,.int j]/\∀p,H p=none->Q (.ref p) (upd H p (.rng i j))):=by
 w_up;obtain⟨i,j,rfl,q⟩:=h;obtain⟨u,w',rfl,⟨t,rfl⟩,⟨t',rfl⟩⟩:=vals2 r;refine call_range_2 ⟨.ref s.heap.objs.size,_,I.laid (o:=.rng i j) (λb o e=>aV _ e) (aR _) ?_,rfl,q _ I.fresh⟩;exact⟨t,t',s.toks,bC _ rfl⟩
abbrev j8 (i j:Int):ag:=(List.range (j-i).toNat).map λk:Nat=>i+(k:Int)
def m7(i j:Int):(j8 i j).length=(j-i).toNat:=by unfold j8;rw[aH,cF]
def A1{i:Int}{n:Nat}{acc:Array af}(h:ItemsOf (λk v=>∃t,v=Value.int (i+(k:Int) * 1) t) acc n):Vals (((List.range n).map λk:Nat=>i+(k:Int)).map V.int) acc.toList:=by
 obtain⟨hs,hv⟩:=h;have gen:∀(l:ba) (b:Nat),(∀j v,l[j]?=some v->∃t,v=Value.int (i+((b+j:Nat):Int)) t)->Vals (((List.range' b l.length).map λk:Nat=>i+(k:Int)).map V.int) l:=by
  intro l
  induction l with
  | nil=>intro b _;exact .nil
  | cons v l ih=>
   intro b hb;rw[bq,gg,bB,bB];refine .cons ?_ ?_
   ·obtain⟨t,e⟩:=hb 0 v rfl;exact⟨t,by rw[e];simp⟩
   ·refine ih (b+1) λj w hw=>?_;obtain⟨t,e⟩:=hb (j+1) w hw;exact⟨t,by rw[e,show b+(j+1)=b+1+j by lia]⟩
 have:=gen acc.toList 0 λj v hj=>by
  obtain⟨t,e⟩:=hv j v (by simpa using hj);exact⟨t,by rw[e,bZ,mul_one]⟩
 rw[dP,hs,<- dc]at this;exact this
def Rl{i j:Int}:Builtin.Range.rangeSize i j 1=(((j-i).toNat:Nat):Int):=by rw[rangeSize_one];split<;>omega
def Ct(hc:X.calm=true):j9 X (.type "list") (λxs H Q=>∃p i j,xs=[.ref p]/\H p=some (.rng i j)/\(-(2 ^ 62)<=i/\i<2 ^ 62/\-(2 ^ 62)<=j/\j<2 ^ 62)/\(j-i).toNat<=1000/\∀l,H l=none->Q (.ref l) (upd H l (.lst ((j8 i j).map V.int)))):=by
 w_up;obtain⟨p,i,j,rfl,hp,⟨b1,b2,b3,b4⟩,hn,q⟩:=h;kcj_m
 cases rx
 obtain⟨t,u',v,e⟩:=I.hok p _ hp;refine call_list_range (n:=(j-i).toNat) (I.ok.hd hc) e (small_one b1 b2 b3 b4) Rl () λh' tk acc' c' hk hS hacc=>?_;refine⟨.ref s.heap.objs.size,_,I.laid (o:=.lst ((j8 i j).map V.int)) hk (aR _) ⟨?_,acc'.toList,c',A1 hacc,by rw[hS]⟩,rfl,q _ I.fresh⟩;rw[aH,m7,eG];lia
end
section
variable {X:Cx}
def GX{prog:aj}{w:ah}{A:az}{E:af->aA->Prop}{s:aA}{Q:ba->aA->Prop}{r:ak}{a b c:Int}{t v:Tok}{n:Nat}(hh:A.handled=none)(hr:IsRange s.heap r a b c t u v)(hsmall:Builtin.Range.small a b c=true)
  (hn:Builtin.Range.rangeSize a b c=n) (hlen:n<=2 ^ 24)
  (hQ:∀h' tk (acc':Array af),(∀b o,s.heap.get? b=some o->h'.get? b=some o)->ItemsOf (λi v=>∃t,v=.int (a+i * c) t) acc' n->Q acc'.toList { s with heap:=h',toks:=tk }) :
  wpAny (model prog w) A (collect (.ref r)) Q E s:=by
 unfold collect;refine aG (wpAny_runValue (iG F.entry_proto_collect ?_));rw[f9 F.plain_proto_collect _]
 skip
 refine aG (cC ?_);refine aP ⟨plainId_quiet F.plain_list_iadd _,iG F.entry_list_iadd ?_⟩;rw[f9 F.plain_list_iadd _]
 skip
 have hS:(s.heap.push {}).get? s.heap.objs.size=some { cls:=.type "list",data:=.seq #[] 0 }:=bC _ rfl;have fin':∀(h':aq) (tk:Nat) (acc':Array af) (c':Nat),(∀b o,b≠s.heap.objs.size->(s.heap.push {}).get? b=some o->h'.get? b=some o) ->
   h'.get? s.heap.objs.size=some { cls:=.type "list",dict:=none,data:=.seq acc' c',slots:=#[]}->ItemsOf (λi v=>∃t,v=.int (a+i * c) t) acc' n ->
   wpAny (model prog w) A (match Value.ref s.heap.objs.size with
   | Value.ref a=>do
    match (<- load a).data with
     | Data.seq xs _=>pure xs.toList
     | _=>unsupported "internal:collect"
   | _=>unsupported "internal:collect") Q E { s with heap:=h',toks:=tk }:=by
  intro h' tk acc' c' hk hS' hacc
  skip
  refine aG (wpAny_load hS' ?_);refine aP ?_;exact hQ h' tk acc' (λb o e=>hk b o (bD (bg e)) (aV _ e)) hacc
 refine f7 (wpAny_extend_range (A:=A) (R:=λrr s'=>rr=.ok (.ret (.ref s.heap.objs.size))/\∃h' tk acc' c',s'={ s with heap:=h',toks:=tk }/\(∀b o,b≠s.heap.objs.size->(s.heap.push {}).get? b=some o->h'.get? b=some o) /\
   h'.get? s.heap.objs.size=some { cls:=.type "list",dict:=none,data:=.seq acc' c',slots:=#[]}/\ItemsOf (λi v=>∃t,v=.int (a+i * c) t) acc' n)
  (s:={ s with heap:=s.heap.push {}}) hh (aV _ hr) hsmall hn hlen s.heap.objs.size (.ref s.heap.objs.size) 0 hS
  (λh' tk acc' c' hk hS' hacc=>⟨rfl,h',tk,acc',c',rfl,hk,hS',hacc⟩)) (λfin s' h=>?_) (λe s' h=>?_)
 ·cases fin with
  | done f=>
   obtain⟨e,h',tk,acc',c',rfl,hk,hS',hacc⟩:=h
   cases e
   exact fin' h' tk acc' c' hk hS' hacc
  | again c'=>exact⟨h.1,iL h.2 λr s'' hr=>by
    obtain⟨rfl,h',tk,acc',c',rfl,hk,hS',hacc⟩:=hr;exact fin' h' tk acc' c' hk hS' hacc⟩
 ·exact absurd h.1 (by simp)
def wF(l:ak){a b:Int}{t v:Tok}{n:Nat}(hsmall:Builtin.Range.small a b 1=true)
  (hn:Builtin.Range.rangeSize a b 1=n) (hlen:n<=1000) :
  Meets (Builtin.«tuple.__new__» ⟨[.type "tuple",.ref l],[]⟩)
   (λA R s=>A.handled=none/\IsRange s.heap l a b 1 t u v/\∀(h':aq) (tk:Nat) (acc':Array af),(∀b o',s.heap.get? b=some o'->h'.get? b=some o')->ItemsOf (λi v=>∃t,v=.int (a+i * 1) t) acc' n->R (.ok (.ret (.ref h'.objs.size))) { s with heap:=h'.push { cls:=.type "tuple",data:=.seq acc' },toks:=tk }):=
 .of_wp λprog w A R s h=>by
  obtain⟨hp,g,d,tk,os⟩:=s;obtain⟨hh,ht,h⟩:=h;have hsub:=sub_tuple_self;have hinit:=init_tuple_lookup;have hmh:=madeHere_tuple;have hT:Shared.TypeIs ⟨hp,g,d,tk,os⟩ (.ref l) "range" := ⟨_,ht,rfl⟩;have hh':A.in1.handled=none:=hh
  wp_walk using dU ht,gc hT,GX (A:=A.in1) hh' ht hsmall hn (by omega)
  intro h' tk' acc' hk hacc;show wpAny _ _ (Builtin.Tuple.tupleExact acc'.toList.toArray >>= λv=>ret v) _ _ _;unfold Builtin.Tuple.tupleExact;have e:acc'.toList.toArray=acc':=by simp
  refine aG (cC ?_ (by show acc'.toList.toArray.size<=sizeLine;rw[e,hacc.1,eG];omega));refine aP ⟨_,rfl,?_⟩;rw[e];exact h h' tk' acc' hk hacc
def BS(hc:X.calm=true):j9 X (.type "tuple") (λxs H Q=>∃p i j,xs=[.ref p]/\H p=some (.rng i j)/\(-(2 ^ 62)<=i/\i<2 ^ 62/\-(2 ^ 62)<=j/\j<2 ^ 62)/\(j-i).toNat<=1000/\∀l,H l=none->Q (.ref l) (upd H l (.tup ((j8 i j).map V.int)))):=by
 w_up;obtain⟨p,i,j,rfl,hp,⟨b1,b2,b3,b4⟩,hn,q⟩:=h;kcj_m
 cases rx
 obtain⟨t,u',v,e⟩:=I.hok p _ hp;refine callType_new F.called_tuple ⋯ (F.typeCall_tuple_1 _) (F.newCall_tuple_1 _) (λobj=>F.args_object_init_2 obj _) F.entry_tuple_new
  (wF (n:=(j-i).toNat) p (small_one b1 b2 b3 b4) Rl hn) ⟨I.ok.hd hc,e,λh' tk acc' hk hacc=>⟨⟨_,bC _ rfl,rfl⟩,?_⟩⟩
 have I1:Inv X pins σ H { s with heap:=h',toks:=tk }:=I.kept hk;refine⟨.ref h'.objs.size,_,I1.laid (t':=tk) (o:=.tup ((j8 i j).map V.int)) (λb o e=>aV _ e) (aR _) ⟨?_,acc'.toList,A1 hacc,?_⟩,rfl,q _ (I1.hok.fresh (aR _))⟩
 ·rw[aH,m7,eG];lia
 ·have e:acc'.toList.toArray=acc':=by simp
  rw[e];exact qc.new _ _
def Gv{c:String}:j9 X (.builtin "isinstance") (λxs H Q=>∃x t b,xs=[x,.ty c]/\TyOf X.K H x t/\PySem.W.kitOne X.K t (.type c)=some b/\Q (.bl b) H):=by
 w_up;obtain⟨x,t,b,rfl,ty,e,q⟩:=h;obtain⟨u,w',rfl,rx,rc⟩:=vals2 r
 cases rc
 exact MI I rx ty e λtk=>⟨.bl b,H,I.tok tk,rfl,q⟩
abbrev Xl (K:au):R2:=λx y H Q=>∃a b ys,x=.ref a/\y=.ref b/\m_ K H a []/\m_ K H b ys/\Q (.ref b) H
def Oj:pT X (binaryOp .Add) (Xl X.K):=by
 kcf_m;obtain⟨a,b,ys,rfl,rfl,h1,h2,q⟩:=h
 cases rx
 cases ry
 obtain⟨us,r1,p1,_⟩:=I.tuple h1;obtain⟨ws,r2,p2,_⟩:=I.tuple h2
 cases r1
 obtain⟨⟨cls,dd,data,sl⟩,ho,hc,n,hd⟩:=id p1;obtain⟨⟨cls2,dd2,data2,sl2⟩,ho2,hc2,n2,hd2⟩:=id p2;simp only at hc hd hc2 hd2;subst hc hd hc2 hd2;exact concat_meets ⟨_,ho,rfl⟩ ⟨_,ho2,rfl⟩ noFill_tuple_add seq_tuple_add gP gJ (gw _ _)
   (tuple_addW0 a b _ ws.toArray n n2 dd dd2 sl sl2 (by simp)) ⟨ho,ho2,⟨.ref b,H,I,rfl,q⟩⟩
end
def lQ:bootBuiltins "len" = some (.builtin "len"):=by decide +kernel
def QS:bootBuiltins "all" = some (.builtin "all"):=by decide +kernel
def YN:bootBuiltins "max" = some (.builtin "max"):=by decide +kernel
def Ww:bootBuiltins "min" = some (.builtin "min"):=by decide +kernel
def qB:bootBuiltins "sorted" = some (.builtin "sorted"):=by decide +kernel
def kI:bootBuiltins "isinstance" = some (.builtin "isinstance"):=by decide +kernel
def IE:bootBuiltins "int" = some (.type "int"):=by decide +kernel
def Ko:bootBuiltins "bool" = some (.type "bool"):=by decide +kernel
def wm:bootBuiltins "list" = some (.type "list"):=by decide +kernel
def rq:bootBuiltins "tuple" = some (.type "tuple"):=by decide +kernel
def OX:bootBuiltins "range" = some (.type "range"):=by decide +kernel
structure Blt (mg:Str->bi):Prop where
 len:mg "len" = none
 abs:mg "abs" = none
 all:mg "all" = none
 any:mg "any" = none
 max:mg "max" = none
 min:mg "min" = none
 sorted:mg "sorted" = none
 isinstance:mg "isinstance" = none
 int:mg "int" = none
 bool:mg "bool" = none
 str:mg "str" = none
 list:mg "list" = none
 tuple:mg "tuple" = none
 range:mg "range" = none
def Uw:∀{a b:ag},a.Perm b->a.Pairwise (·<=·)->b.Pairwise (·<=·)->a=b:=λp ha hb=>
 dW (λx y _ _ h1 h2=>Int.le_antisymm h1 h2) ha hb p
def KR(i j:Int):(j8 i j).Pairwise (·<=·):=by
 unfold j8;rw[cK];exact List.pairwise_lt_range.imp λh=>()
def rF(i j:Int):(j8 i j).Nodup:=by
 unfold j8;rw[List.Nodup,cK];exact List.pairwise_lt_range.imp λh=>()
def lY{i j k:Int}:k∈j8 i j ↔ i<=k/\k<j:=by
 unfold j8;rw[bu];constructor
 ·rintro⟨a,ha,rfl⟩;have:=cU.mp ha
  lia
 ·rintro⟨h1,h2⟩;exact⟨(k-i).toNat,cU.mpr (),()⟩
theorem zM:∀{l m:ag},l.Nodup->(∀x∈l,x∈m)->m.length<=l.length->l.Perm m
 | [],m,_,_,h=>by
  have:m=[]:=fO.mp (Nat.le_zero.mp h);rw[this]
 | a::l,m,nd,hs,hl=>by
  have ha:a∈m:=hs a aM;have nd':=cR.mp nd;have pm:m.Perm (a::m.erase a):=List.perm_cons_erase ha;have ih:=zM (l:=l) (m:=m.erase a) nd'.2 (λx hx=>by
   have hxa:x≠a:=λe=>nd'.1 (e ▸ hx);exact(List.mem_erase_of_ne hxa).mpr (hs x (aN _ hx))) (by
   rw[List.length_erase_of_mem ha];dsimp[bq]at hl
   lia)
  exact(List.Perm.cons a ih).trans pm.symm
abbrev Kn (P:aj)(w:ah)(K:au)(mg:Str->bi)(base:aq)(k:Nat)(x:Str)(ps:ar)(sp:Sp):Prop:=
 ∃(f:ak) (fd:FuncData),FnOk P w K mg base oU k f fd ps sp/\mg x=some (.ref f)/\PySem.W.keepIn K (.ref f)=true/\Binds K fd ps []
def Z7{X:Cx}{k:Nat}{x:Str}{sp:Sp}{e:aC}{t:TA}{p:Pos}(G:Kn X.prog X.w X.K X.mg X.base k x ps sp)(hr:Room k X.A)(ha:PA X (e::es) t)(hg:Gl X x:=by rfl)
  (hdb:(x == ("__debug__" : Str))=false:=by decide) (hs:starEach (e::es) X.env=(false,eval e X.env)::starEach es X.env:=by rfl) (hplain:(backTo pos (starEach es X.env)).any (·.1)=false:=by rfl) :
  PE X (.Call (.Name x p) (e::es) [] pos) (V6 sp [] E0 t):=by
 obtain⟨f,fd,F,hm,hk,hb⟩:=G;exact SN F hr hg hm hk hb .nil ZL ha hdb hs hplain
abbrev Ca (XN fs:ar):ar->List (bp)->Prop
 | [],[]=>True
 | _::N,none::c=>Ca XN fs N c
 | x::N,some j::c=>XN[j]?=some x/\x∈fs/\Ca XN fs N c
 | _,_=>False
theorem Ca.len{fs:ar}:∀{N:ar}{c:List (bp)},Ca XN fs N c->c.length=N.length
 | [],[],_=>rfl
 | _::N,none::c,h=>dj (·+1) (Ca.len (N:=N) (c:=c) h)
 | _::N,some j::c,h=>dj (·+1) (Ca.len (N:=N) (c:=c) h.2.2)
 | [],_::_,h=>h.elim
 | _::_,[],h=>h.elim
theorem Ca.cp{fs:ar}:∀{N:ar}{c:List (bp)},Ca XN fs N c->∀(i j:Nat) (x:Str),N[i]?=some x->c[i]?=some (some j)->XN[j]?=some x/\x∈fs
 | [],[],_,i,j,x,h1,_=>by simp at h1
 | y::N,none::c,h,i,j,x,h1,h2=>by
  cases i with
  | zero=>simp at h2
  | succ i=>exact Ca.cp (N:=N) (c:=c) h i j x (by simpa using h1) (by simpa using h2)
 | y::N,some k::c,h,i,j,x,h1,h2=>by
  cases i with
  | zero=>
   simp at h1 h2;subst h1 h2;exact⟨h.1,h.2.1⟩
  | succ i=>exact Ca.cp (N:=N) (c:=c) h.2.2 i j x (by simpa using h1) (by simpa using h2)
 | [],_::_,h,_,_,_,_,_=>h.elim
 | _::_,[],h,_,_,_,_,_=>h.elim
def pY{X:Cx}{scope:Scope}{N:ar}(fs:ar)(kind:scope.kind=.function)(nocell:∀y∈scope.names,y.2≠.cell)(nm:∀y∈scope.names,y.2=.local->scope.names.lookup y.1=some .local)
  (nolf:∀y∈scope.names,y.2=.free->scope.names.lookup y.1≠some .local) (hf:∀y∈scope.names,y.2=.free->y.1∈fs) (hfs:∀x∈fs,(x,NameKind.free)∈scope.names) (hk:∀x∈fs,X.env.kindOf x=some .cell\/X.env.kindOf x=some .free) (cp:Ca X.N fs N cap):CpScope X scope N cap where
 kind:=kind
 nocell:=nocell
 nm:=nm
 fr:=λy hy e=>hk _ (hf y hy e)
 rl:=λy h=>by
  have go:∀k,(k=NameKind.cell\/k=NameKind.free)->(relabel scope X.env).names.lookup y=some k->(y,NameKind.free)∈scope.names:=λk hk e=>by
   obtain⟨⟨n',k'⟩,hm1,hm2⟩:=bu.mp (Bf e);dsimp only at hm2;split at hm2
   ·rename_i hc
    cases hm2
    have:k'=.free:=by
     dsimp[iA]at hc;simpa using hc.1.1
    subst this;exact hm1
   ·cases hm2
    rcases hk with rfl|rfl
    ·exact absurd rfl (nocell _ hm1)
    ·exact hm1
  rcases h with h|h
  ·exact go _ (.inl rfl) h
  ·exact go _ (.inr rfl) h
 len:=cp.len
 nolf:=λx hx=>nolf (x,.free) hx rfl
 cp:=λi j x h1 h2=>by
  obtain⟨a,b⟩:=cp.cp i j x h1 h2;exact⟨a,hfs x b⟩
inductive Kd where
 | non|bl|int|str|lst|tup
 deriving DecidableEq
abbrev Kd.ty:Kd->af
 | .non=>.type "NoneType" | .bl=>.type "bool" | .int=>.type "int" | .str=>.type "str" | .lst=>.type "list" | .tup=>.type "tuple"
abbrev Yv (H:Hp)(x:V):Kd->Prop
 | .non=>x=.non
 | .bl=>∃b,x=.bl b
 | .int=>∃i,x=.int i
 | .str=>∃s,x=.str s
 | .lst=>∃a xs,x=.ref a/\H a=some (.lst xs)
 | .tup=>∃a xs,x=.ref a/\H a=some (.tup xs)
def Yv.ab0{K:au}{H:Hp}{x:V}{k:Kd}(h:Yv H x k):TyOf K H x k.ty:=by
 cases k with
 | non=>cases h;exact .non
 | bl=>obtain⟨b,rfl⟩:=h;exact .bl b
 | int=>obtain⟨b,rfl⟩:=h;exact .int b
 | str=>obtain⟨b,rfl⟩:=h;exact .str b
 | lst=>obtain⟨a,xs,rfl,e⟩:=h;exact .lst e
 | tup=>obtain⟨a,xs,rfl,e⟩:=h;exact .tup e
def Sf{K:au}(k:Kd):PySem.W.kitOne K k.ty (.type "int")=some (decide (k=.int\/k=.bl)):=by cases k<;>rfl
def RV{K:au}(k:Kd):PySem.W.kitOne K k.ty (.type "bool")=some (decide (k=.bl)):=by cases k<;>rfl
def kit_tuple{K:au}(k:Kd):PySem.W.kitOne K k.ty (.type "tuple")=some (decide (k=.tup)):=by cases k<;>rfl
def QB{K:au}(k:Kd):PySem.W.kitOne K k.ty (.type "list")=some (decide (k=.lst)):=by cases k<;>rfl
section
variable {prog:aj}{w:ah}{A:az}{E:af->aA->Prop}{s:aA}
def xX{t:ak}{i:Nat}{x:af}{Q:af->aA->Prop}(hit:s.heap.IsTupleIter it t i)
  (ht:s.heap.IsTuple t items) (hx:items[i]?=some x) (hQ:∀h',h'.IsTupleIter it t (i+1)->Heap.SameBut it s.heap h'->Q x { s with heap:=h' }) :
  wpAny (model prog w) A (Builtin.SmallTypes.nextOf (.ref it)) Q E s:=by
 obtain⟨o,ho,hc,hd⟩:=id hit;obtain⟨ol,hol,_,nl,hdl⟩:=ht;unfold Builtin.SmallTypes.nextOf;refine aG (d8 (name:=Str.ofString "__next__") hit.typeIs eO
  (dG eO hit.typeIs F.entry_tuple_iterator_next ?_ (F.args_tuple_iterator_next_1 _)))
 show wpAny _ _ (field (.ref it) 0 >>= _) _ _ s;refine aG (gK ho hd (x:=.ref t) rfl ?_)
 skip
 rw[aJ (show ¬((Value.ref t == Value.none)=true)from bE)]
 skip
 refine aG (gK ho hd (x:=.int i 0) rfl ?_)
 skip
 refine aG (wpAny_seqItems hol hdl ?_);dsimp[dM,hx];refine aG (iQ ho hd (by simp) (aP ⟨x,rfl,aP (hQ _ ?_ (gr ..))⟩));exact⟨_,iw _ ho (Obj.isFreed_of_fields (gG hd _)),(Obj.cls_mapFields ..).trans hc,by
  rw[gG hd];simp[rawInt]⟩
def yK{t:ak}{i:Nat}{Q:af->aA->Prop}(hh:A.handled=none)
  (hit:s.heap.IsTupleIter it t i) (ht:s.heap.IsTuple t items) (hx:items[i]?=none)
  (hE:∀h' e,Heap.ExtBut it s.heap h'->(∃o,h'.get? e=some o/\o.cls=.type "StopIteration")->E (.ref e) { s with heap:=h' }) :
  wpAny (model prog w) A (Builtin.SmallTypes.nextOf (.ref it)) Q E s:=by
 obtain⟨o,ho,hc,hd⟩:=id hit;obtain⟨ol,hol,_,nl,hdl⟩:=ht;unfold Builtin.SmallTypes.nextOf;refine aG (d8 (name:=Str.ofString "__next__") hit.typeIs eO
  (dG eO hit.typeIs F.entry_tuple_iterator_next ?_ (F.args_tuple_iterator_next_1 _)))
 show wpAny _ _ (field (.ref it) 0 >>= _) _ _ s;refine aG (gK ho hd (x:=.ref t) rfl ?_)
 skip
 rw[aJ (show ¬((Value.ref t == Value.none)=true)from bE)]
 skip
 refine aG (gK ho hd (x:=.int i 0) rfl ?_)
 skip
 refine aG (wpAny_seqItems hol hdl ?_);dsimp[dM,hx];refine aG (eS (aG (iQ ho hd (by simp) ?_)))
 skip
 refine aG ?_;dsimp[newExc,newTuple];refine aG (cC ?_ (by size_fits));refine aG (m:=firstArgMember _ _) (wpAny_of_eq (a:=Value.none) (by first|rfl|(dsimp[firstArgMember];rfl)) ?_);refine cC ?_ (by size_fits);dsimp[raiseNew];refine aG (wpAny_handled ?_)
 first|rw[show A.in1.handled=none from hh]|rw[hh]
 refine aG (aP (wpAny_throw ?_));exact hE _ _ (((gr ..).extBut.push _).push _) ⟨_,bC _ rfl,rfl⟩
end
def Ri{prog:aj}{w:ah}{A:az}(hh:A.handled=none)(it l:ak)(hne:l≠it)(items:Array af) :
  Draws prog w A it [it,l] items.size (λi v=>items[i]?=some v) (λi h=>h.IsTupleIter it l i/\h.IsTuple l items) where
 live:=λ_ _ st=>let⟨o,ho,_⟩:=st.1;⟨o,ho⟩
 frame:=λ_ _ _ st hk=>⟨st.1.at λo e=>hk it (by simp) o e,let⟨o,ho,r⟩:=st.2;⟨o,hk l (by simp) o ho,r⟩⟩
 item:=λi s Q E hi st hQ=>by
  refine xX st.1 st.2 (x:=items[i]) (by simp[hi]) λh' hit' hs'=>?_;exact hQ _ h' s.toks (by simp[hi]) ⟨hit',let⟨o,ho,r⟩:=st.2;⟨o,hs'.extBut l o hne ho,r⟩⟩ hs'
 done:=λs Q E st hE=>yK hh st.1 st.2 (by simp) hE
def GZ(l:ak)(items:Array af) :
  Meets (Builtin.«enumerate.__new__» ⟨[.type "enumerate",.ref l],[]⟩) (λ_ R s=>s.heap.IsTuple l items /\
   R (.ok (.ret (.ref (s.heap.push { cls:=.type "tuple_iterator",data:=.fields #[.ref l,.int 0 0]}).objs.size)))
    { s with heap:=(s.heap.push { cls:=.type "tuple_iterator",data:=.fields #[.ref l,.int 0 0]}).push { cls:=.type "enumerate",data:=.fields #[.none,.bool false,.ref s.heap.objs.size,rawInt 0,.none,.none]}}):=
 .of_wp λprog w A R s h=>by
  obtain⟨hp,g,d,tk,os⟩:=s;obtain⟨hl,h⟩:=h;have hsub:=sub_enumerate;obtain⟨ol,hol,hcl,nl,hdl⟩:=id hl
  wp_walk using dU hol
  refine wpAny_stack_any λst=>aP ?_;split
  ·rename_i c _ _ _ _ _
   cases(c == Value.type "enumerate")
   ·wp_walk using dU hol,gF hl
    exact⟨_,rfl,h⟩
   ·wp_walk using dU hol,gF hl
    exact⟨_,rfl,h⟩
  ·wp_walk using dU hol,gF hl
   exact⟨_,rfl,h⟩
abbrev Ite (K:au)(a:ak):It:=
 ⟨λi H=>∃xs x,m_ K H a xs/\xs[i]?=some x,λi H x H'=>∃T,H T=none/\x=.ref T/\∀xs y,m_ K H a xs->xs[i]?=some y->H'=upd H T (.tup [.int i,y]),λi H=>∃xs,m_ K H a xs/\xs.length=i⟩
def Ir{P:aj}{w:ah}{K:au}(a e it:ak)(hei:e≠it):Turn P w K (.Tuple elts x1 tpos) (Ite K a) [e,it] e (λi h=>(∃old,IsEnum h e it i old)/\h.IsTupleIter it a i) where
 mem:=by simp
 obj:=λi h st b hb=>by
  obtain⟨⟨old,st1⟩,st2⟩:=st;have hb':b=e\/b=it:=by simpa using hb
  rcases hb' with rfl|rfl
  ·exact⟨_,st1,λv z=>by cases z⟩
  ·obtain⟨o,e,c,d⟩:=st2;exact⟨o,e,λv z=>by rw[d]at z;cases z⟩
 keep:=λi h h' st k=>by
  obtain⟨⟨old,st1⟩,st2⟩:=st;exact⟨⟨old,k e (by simp) _ st1⟩,st2.at λo ho=>k it (by simp) o ho⟩
 item:=by
  x_go;subst hP hw hK;obtain⟨⟨old,st1⟩,st2⟩:=st;obtain⟨xs,x,hq,hx⟩:=hg;obtain⟨its,rv,p,hz⟩:=I.tuple hq;obtain⟨u,hu,ru⟩:=rv.get hx;have hia:a≠it:=by
   obtain⟨o,ho,hc1,_⟩:=p;obtain⟨o2,ho2,hc2,_⟩:=st2;intro z;rw[z,ho2]at ho
   cases ho
   rw[hc1]at hc2;exact absurd (Value.type.inj hc2) ⋯
  have hea:e≠a:=by
   obtain⟨o,ho,hc1,_⟩:=p;intro z;rw[<- z,st1]at ho
   cases ho
   exact absurd (Value.type.inj hc1) ⋯
  have hlt:i<its.toArray.size:=by
   rw[aY];exact(aL.mp hu).1
  refine wpAny_pyNext_enum_itemD (Ri (A:=X.A.in1) (I.ok.hd hc) it a hia its.toArray) st1 ⟨st2,p⟩ hlt hei (by simp[hei,hea]) λx' h' tk hP hout hst hT hsz hk=>?_;have ex:x'=u:=by
   have:its.toArray[i]?=some u:=by simpa using hu
   rw[this]at hP;exact(a_ hP).symm
  subst ex;refine⟨_,rfl,wpAny_letOwnedTupleGo_enum hout λh2 he2 hs2=>?_⟩;have fT:H s.heap.objs.size=none:=I.hok.fresh (aR _);have hel:e<s.heap.objs.size:=bg st1;have hil:it<s.heap.objs.size:=by obtain⟨o,ho,_⟩:=st2;exact bg ho
  have k2:∀b o,b≠e->b≠it->s.heap.get? b=some o->h2.get? b=some o:=λb o h1 h3 q=>hs2.extBut b o h1 (hk b o h1 h3 q);have hT2:h2.get? s.heap.objs.size=some { cls:=.type "tuple",data:=.seq #[.int i tk,x']}:=hs2.extBut _ _ (ne_of_gt hel) hT;obtain⟨e0,e1,e2,e3,e4,e5⟩:=hf e (by simp);obtain⟨i0,i1,i2,i3,i4,i5⟩:=hf it (by simp);have nT:∀b o,s.heap.get? b=some o->b≠s.heap.objs.size:=λb o q=>bD (bg q);have ne_tr:∀c v,H c=some v->c≠e/\c≠it:=λc v q=>⟨(λz=>by rw[z,e0]at q;cases q),(λz=>by rw[z,i0]at q;cases q)⟩;have I2:Inv X pins σ (upd H s.heap.objs.size (.tup [.int i,x])) { s with heap:=h2,toks:=tk+1 }:=by
   refine I.step (g':=s.gens) (d':=s.drawn) (ch:=[e,it]) (λb hb=>?_) (λb o _ _ hch q _=>?_) (λb o _ _ hch q _=>?_) (λb o hch q n=>?_) (λb o hch q=>?_) (λb ys q=>?_) (λb o u' q=>?_) (λb ps q=>?_) (λm hm=>?_) (λb u' q=>?_) I.bare
   ·have hb':b=e\/b=it:=by simpa using hb
    rcases hb' with rfl|rfl
    ·exact⟨e3,e1,e4,e5⟩
    ·exact⟨i3,i1,i4,i5⟩
   ·exact k2 b o (λz=>hch (by simp[z])) (λz=>hch (by simp[z])) q
   ·exact⟨o.slots,k2 b o (λz=>hch (by simp[z])) (λz=>hch (by simp[z])) q⟩
   ·rw[jH (nT b o q)];exact n
   ·exact⟨o,k2 b o (λz=>hch (by simp[z])) (λz=>hch (by simp[z])) q⟩
   ·rw[jH (jP q fT)];exact q
   ·rw[jH (jP q fT)];exact q
   ·exact⟨#[],by rw[jH (jP q fT),q];simp⟩
   ·obtain⟨o,es,ep,ho,r⟩:=hm;exact⟨o,es,ep,k2 _ o (dw e1) (dw i1) ho,r⟩
   ·by_cases z:b=s.heap.objs.size
    ·subst z;rw[kP]at q
     cases q
     exact⟨by show 2<=sizeLine;decide,[.int i tk,x'],.cons ⟨tk,rfl⟩ (.cons ru .nil),⟨_,hT2,rfl,rfl,0,rfl⟩⟩
    ·rw[jH z]at q;refine(I.hok b u' q).stay (λc v hc q'=>k2 c v ?_ ?_ q') (λc q'=>?_) λc ys q'=>?_
     ·rcases hc with z|z
      ·rw[z];exact(ne_tr b u' q).1
      ·exact(ne_tr c _ z).1
     ·rcases hc with z|z
      ·rw[z];exact(ne_tr b u' q).2
      ·exact(ne_tr c _ z).2
     ·rw[jH (jP q' fT)];exact q'
     ·rw[jH (jP q' fT)];exact q'
  refine⟨.ref s.heap.objs.size,_,I2,rfl,⟨s.heap.objs.size,fT,rfl,λys y hy hyi=>?_⟩,⟨⟨x',by simpa using he2⟩,?_⟩,λb hb=>?_⟩
  ·rw[I.yR hy hq]at hyi;rw[hx]at hyi
   cases hyi
   rfl
  ·exact hst.1.at λo ho=>hs2.extBut it o (dw hei) ho
  ·have hb':b=e\/b=it:=by simpa using hb
   rcases hb' with rfl|rfl
   ·rw[jH (bD hel)];exact e0
   ·rw[jH (bD hil)];exact i0
 done:=by
  x_go;subst hP hw hK;obtain⟨⟨old,st1⟩,st2⟩:=st;obtain⟨xs,hq,hx⟩:=hg;obtain⟨its,rv,p,hz⟩:=I.tuple hq;obtain⟨i0,i1,i2,i3,i4,i5⟩:=hf it (by simp);have hia:a≠it:=by
   obtain⟨o,ho,hc1,_⟩:=p;obtain⟨o2,ho2,hc2,_⟩:=st2;intro z;rw[z,ho2]at ho
   cases ho
   rw[hc1]at hc2;exact absurd (Value.type.inj hc2) ⋯
  have hl:=rv.length;have ei:its.toArray.size=i:=by rw[aY,<- hl,hx]
  exact wpAny_pyNext_enum_endD (Ri (A:=X.A.in1) (I.ok.hd hc) it a hia its.toArray) st1 ⟨by rw[ei];exact st2,p⟩ λh' eb=>⟨rfl,I.turned (t':=s.toks) (λb o hb q=>eb b o hb q) i0 i1 i3 i4 i5⟩
 self:=λ_ _ _ _ _ st h=>let⟨⟨_,st1⟩,_⟩:=st;wpAny_pyIter_enum st1 h
def DU:bootBuiltins "enumerate" = some (.type "enumerate"):=by decide +kernel
section
variable {X:Cx}
abbrev Zi (K:au)(ta:TA):TI:=λσ H R=>ta σ H λvs H1=>∃a xs,vs=[.ref a]/\m_ K H1 a xs/\R (Ite K a) H1
def Rx{a:aC}{ta:TA}{p:Pos}(hg:Gl X "enumerate")(hm:X.mg "enumerate" = none)(ha:PA X [a] ta)(hs:starEach [a] X.env=[(false,eval a X.env)]:=by rfl):PI X (.Tuple elts x1 tpos) (.Call (.Name "enumerate" p) [a] [] pos) (Zi X.K ta):=by
 intro pins s σ H R I h;refine Call_ (za I hg hm DU (eF (mP (ha pos pins s σ H _ I h) λus s1 ⟨vs,H1,I1,r1,q1⟩=>?_) hs rfl));obtain⟨t,xs,e,hq,q⟩:=q1;subst e;obtain⟨u,rfl,rx⟩:=vals1 r1
 cases rx
 obtain⟨its,rv,pt,hz⟩:=I1.tuple hq;refine callType_new F.called_enumerate ⋯ (F.typeCall_enumerate_1 _) (F.newCall_enumerate_1 _) (λobj=>F.args_object_init_2 obj _) F.entry_enumerate_new (GZ t its.toArray) ⟨pt,⟨_,bC _ rfl,rfl⟩,?_⟩;have I2:Inv X pins σ H1 { s1 with heap:=s1.heap.push { cls:=.type "tuple_iterator",data:=.fields #[.ref t,.int 0 0]}}:=I1.kept (t':=s1.toks) λb o e=>aV _ e;have I3:Inv X pins σ H1 { s1 with heap:=(s1.heap.push { cls:=.type "tuple_iterator",data:=.fields #[.ref t,.int 0 0]}).push { cls:=.type "enumerate",data:=.fields #[.none,.bool false,.ref s1.heap.objs.size,rawInt 0,.none,.none]}}:=I2.kept (t':=s1.toks) λb o e=>aV _ e;have he:IsEnum ((s1.heap.push { cls:=.type "tuple_iterator",data:=.fields #[.ref t,.int 0 0]}).push { cls:=.type "enumerate",data:=.fields #[.none,.bool false,.ref s1.heap.objs.size,rawInt 0,.none,.none]}) (s1.heap.push { cls:=.type "tuple_iterator",data:=.fields #[.ref t,.int 0 0]}).objs.size s1.heap.objs.size 0 .none:=bC _ rfl;have hit:((s1.heap.push { cls:=.type "tuple_iterator",data:=.fields #[.ref t,.int 0 0]}).push { cls:=.type "enumerate",data:=.fields #[.none,.bool false,.ref s1.heap.objs.size,rawInt 0,.none,.none]}).IsTupleIter s1.heap.objs.size t 0:=⟨_,aV _ (bC _ rfl),rfl,rfl⟩;have hne:(s1.heap.push { cls:=.type "tuple_iterator",data:=.fields #[.ref t,.int 0 0]}).objs.size≠s1.heap.objs.size:=by rw[dX];exact ne_of_gt (c8 _)
 refine wpAny_pyIter_enum he ⟨_,[_,s1.heap.objs.size],_,_,H1,rfl,I3,Ir t _ s1.heap.objs.size hne,⟨⟨.none,he⟩,hit⟩,λb hb=>?_,q⟩;have hb':b=(s1.heap.push { cls:=.type "tuple_iterator",data:=.fields #[.ref t,.int 0 0]}).objs.size\/b=s1.heap.objs.size:=by simpa using hb
 rcases hb' with rfl|rfl
 ·exact I1.Hl (by rw[dX];exact Nat.le_succ _) (I2.hok.fresh (aR _))
 ·exact I1.Hl (aR _) (I1.hok.fresh (aR _))
end
def DL(elt t1 i1 t2 i2:aC)(f1 f2:List aC)(scope:Scope)(pos:Pos)(it acc:af)(env:Env) :
  compTurn (.ListComp elt [⟨t1,i1,f1,0⟩,⟨t2,i2,f2,0⟩] scope pos) 0 it acc env=(do
   standAt i1.pos
   match <- pyNext it with
   | none=>pure (.done .next)
   | some v=>
    letOwnedTupleGo t1 it v
    assign t1 env v
    let mut ok:=true
    for c in f1 do
     if ok then ok <- isTrue c env (eval c env)
    if ok then
     let x <- eval i2 env
     standAt i2.pos
     let x <- foldedSetIterable i2 env x
     let _ <- runOwn (.compStart (.ListComp elt [⟨t1,i1,f1,0⟩,⟨t2,i2,f2,0⟩] scope pos) 1 (<- holding [x] (pyIter x)) acc env) env
    again (.compLoop (.ListComp elt [⟨t1,i1,f1,0⟩,⟨t2,i2,f2,0⟩] scope pos) 0 it acc env)):=by rfl
def EL(elt t1 i1 t2 i2:aC)(f1 f2:List aC)(scope:Scope)(pos:Pos)(it acc:af)(env:Env) :
  compTurn (.ListComp elt [⟨t1,i1,f1,0⟩,⟨t2,i2,f2,0⟩] scope pos) 1 it acc env=(do
   standAt i2.pos
   match <- pyNext it with
   | none=>pure (.done .next)
   | some v=>
    letOwnedTupleGo t2 it v
    assign t2 env v
    let mut ok:=true
    for c in f2 do
     if ok then ok <- isTrue c env (eval c env)
    if ok then
     (do let _ <- call (.builtin "list.append") [acc,<- eval elt env])
    again (.compLoop (.ListComp elt [⟨t1,i1,f1,0⟩,⟨t2,i2,f2,0⟩] scope pos) 1 it acc env)):=by rfl
section
variable {prog:aj}{w:ah}{A:az}{R:Result->aA->Prop}{s:aA}
def uT{f1 f2:List aC}{acc:af}{env:Env}
  (h0:codeAny (model prog w) A (.compLoop (.ListComp elt [⟨t1,i1,f1,0⟩,⟨t2,i2,f2,0⟩] scope pos) 1 it acc env) R s)
  (h:wpAny (model prog w) A (pyIter it) (λit' s'=>codeAny (model prog w) A (.compLoop (.ListComp elt [⟨t1,i1,f1,0⟩,⟨t2,i2,f2,0⟩] scope pos) 1 it' acc env) R s')
   (notedBy (model prog w) A env λx s'=>R (.error x) s') s) :
  codeAny (model prog w) A (.compStart (.ListComp elt [⟨t1,i1,f1,0⟩,⟨t2,i2,f2,0⟩] scope pos) 1 it acc env) R s:=by
 refine codeAny_of_tree ?_
 skip
 refine wpAny_notedAt ?_;unfold compStart
 skip
 refine aG (wpAny_askSetting (wpAny_ite ?_));split
 ·first
   | exact aG (aP (aP (anI rfl h0)))
   | exact aP (anI rfl h0)
 ·first
   | exact aG (eS (aG (fB (aG (f7 h (λit' s' h'=>aP (anI rfl h')) λ_ _ x=>x)))))
   | (refine aG (eS ?_);show wpAny _ _ (standAt i2.pos >>= _) _ _ s;exact aG (fB (aG (f7 h (λit' s' h'=>aP (anI rfl h')) λ_ _ x=>x))))
end
abbrev QM (g:TG)(tc:TT)(te:TE)(D:ak)(Nn:L2.St->Hp->Prop)(σ:L2.St)(J:It)(H1:Hp):Prop:=
 ∃V:Nat->Nat->L2.St->Hp->Prop,(∃m,V 0 m σ H1)/\∀i m σ' H',V i m σ' H' ->
  (J.stop i H'/\Nn σ' H')\/(J.go i H'/\∀x H2,J.yld i H' x H2->g x σ' H2 λσ3 H3=>tc σ3 H3 λb H4=>
   if b=true then te σ3 H4 λy H5=>∃ys,H5 D=some (.lst ys)/\ys.length<sizeLine/\∃m',m'<m/\V (i+1) m' σ3 (upd H5 D (.lst (ys++[y])))
   else ∃m',m'<m/\V (i+1) m' σ3 H4)
def IC{Z:Cx}{f1:List aC}{fp:bd}{D:ak}{tn:Nat->aq->Prop}{H:Hp}{s:aA}{g:TG}{tc:TT}{te:TE}{Nn:L2.St->Hp->Prop}
  (hc:Z.calm=true) (hxe:Z.xe=λ_ _=>False) (T:Turn Z.prog Z.w Z.K tg J fp it tn) (I:Inv Z pins σ H s) (st:tn 0 s.heap) (hf:∀b∈fp,vd Z pins H b) (hg:PG Z tg g) (ht:Sa Z ifs tc) (he:PE Z elt te) (goal:QM g tc te D Nn σ J H) :
  codeAny (model Z.prog Z.w) Z.A (.compLoop (.ListComp elt [⟨t1,i1,f1,0⟩,⟨tg,i2,ifs,0⟩] scope pos) 1 (.ref it) (.ref D) Z.env) (λr s'=>r=.ok .next/\∃σ' H',Inv Z pins σ' H' s'/\Nn σ' H') s:=by
 obtain⟨V,⟨m0,v0⟩,turn⟩:=goal;have stat:∀{H':Hp},(∀b∈fp,H' b=none)->∀b∈fp,vd Z pins H' b:=λhn b hb=>⟨hn b hb,(hf b hb).2⟩;refine codeAny_loop rfl (λn s'=>∃i σ' H',Inv Z pins σ' H' s'/\tn i s'.heap/\(∀b∈fp,H' b=none)/\V i n σ' H') (λn s5 hI=>?_) m0 ⟨0,σ,H,I,st,λb hb=>(hf b hb).1,v0⟩;obtain⟨i,σ5,H5,I5,st5,fr5,w5⟩:=hI
 skip
 refine wpAny_noted ?_;rw[EL];refine aG (fB (aG ?_))
 rcases turn i n σ5 H5 w5 with⟨stop,q⟩|⟨go,step⟩
 ·refine mP (T.done Z rfl rfl rfl hc i pins s5 σ5 H5 _ I5 (stat fr5) st5 stop) λr s6 h9=>?_;obtain⟨hr,I6⟩:=h9;subst hr;exact aP ⟨rfl,σ5,H5,I6,q⟩
 ·refine mP (T.item Z rfl rfl rfl hc i pins s5 σ5 H5 _ I5 (stat fr5) st5 go) λr s6 h9=>?_;obtain⟨u,hr,h6⟩:=h9;subst hr;refine aG (mP h6 λ_ s7 ⟨x,H7,I7,r7,y7,st7,fr7⟩=>?_);have I7':=I7.pinned (stat fr7) (T.obj _ _ st7);have toF:∀{α:Type} {t:Sem α} {Q Q':α->aA->Prop} {E:af->aA->Prop} {s:aA},wpAny (model Z.prog Z.w) Z.A t Q Z.xe s->(∀a s,Q a s->Q' a s)->wpAny (model Z.prog Z.w) Z.A t Q' E s:=λh hQ=>by
   rw[hxe]at h;exact EC h hQ
  refine aG (toF (hg _ s7 σ5 H7 x u _ I7' r7 (step x H7 y7)) λ_ s8 ⟨σ8,H8,I8,q8⟩=>?_);refine aG (toF (ht _ s8 σ8 H8 _ I8 q8) λok s9 ⟨H9,I9,q9⟩=>?_);have again:∀{s10:aA} {H10:Hp},Inv Z (pins++w9 fp s7.heap) σ8 H10 s10->(∃m',m'<n/\V (i+1) m' σ8 H10) ->
    ∃m,m<n/\∃i σ' H',Inv Z pins σ' H' s10/\tn i s10.heap/\(∀b∈fp,H' b=none)/\V i m σ' H':=λ{s10 H10} I10 h9=>by
   obtain⟨m',hm,w10⟩:=h9;refine⟨m',hm,i+1,σ8,H10,I10.q_,T.keep _ _ _ st7 λb hb o e=>(I10.pin (b,o) (bG _ (bG _ (l_ hb e)))).1,λb hb=>?_,w10⟩;obtain⟨o,e,d⟩:=T.obj _ _ st7 b hb;exact(I10.pin (b,o) (bG _ (bG _ (l_ hb e)))).2.1
  cases ok with
  | false=>
   rw[aJ bE]at q9;exact aP ⟨rfl,again I9 q9⟩
  | true=>
   rw[aK rfl]at q9;refine aG (aG (toF (he _ s9 σ8 H9 _ I9 q9) λy s10 ⟨v10,H10,I10,r10,ys,hD,hz,w10⟩=>?_));refine aG (toF (zz _ s10 σ8 H10 (.ref D) [v10] _ [y] (λ_ H'=>H'=upd H10 D (.lst (ys++[v10]))) I10 rfl (.cons r10 .nil) ⟨_,ys,v10,rfl,rfl,hD,hz,rfl⟩) λ_ s11 ⟨_,H11,I11,_,e11⟩=>?_);subst e11;exact aP (aP ⟨rfl,again I11 w10⟩)
abbrev UK (cap:List (bp))(g:TG)(tc:TT)(wi2:TI)(g2:TG)(tc2:TT)(te:TE)(σ:L2.St)(Q:VK)(J:It)(H1:Hp):Prop:=∀D,H1 D=none ->
 ∃W:Nat->Nat->L2.St->Hp->Prop,(∃m,W 0 m (cap.map (Ti σ)) (upd H1 D (.lst [])))/\∀i m σ' H',W i m σ' H' ->
  (J.stop i H'/\Q (.ref D) H')\/(J.go i H'/\∀x H2,J.yld i H' x H2->g x σ' H2 λσ3 H3=>tc σ3 H3 λb H4=>
   if b=true then wi2 σ3 H4 (QM g2 tc2 te D (λσ5 H5=>∃m',m'<m/\W (i+1) m' σ5 H5) σ3)
   else ∃m',m'<m/\W (i+1) m' σ3 H4)
abbrev abo (cap:List (bp))(wi:TI)(g:TG)(tc:TT)(wi2:TI)(g2:TG)(tc2:TT)(te:TE):TE:=λσ H Q=>wi σ H (UK cap g tc wi2 g2 tc2 te σ Q)
def YK{X:Cx}{iter:aC}{N:ar}{wi wi2:TI}{g g2:TG}{tc tc2:TT}{te:TE}(hc:X.calm=true)(S:CpScope X scope N cap)(hi:PI X tg iter wi)
  (hg:∀C s₀ H₀ ex,PG (lz X scope N C s₀ H₀ ex) tg g) (ht:∀C s₀ H₀ ex,Sa (lz X scope N C s₀ H₀ ex) ifs tc) (hi2:∀C s₀ H₀ ex,PI (lz X scope N C s₀ H₀ ex) tg2 iter2 wi2)
  (hg2:∀C s₀ H₀ ex,PG (lz X scope N C s₀ H₀ ex) tg2 g2) (ht2:∀C s₀ H₀ ex,Sa (lz X scope N C s₀ H₀ ex) ifs2 tc2) (he:∀C s₀ H₀ ex,PE (lz X scope N C s₀ H₀ ex) elt te)
  (hs:∀x,foldedSetIterable iter X.env x=pure x:=by intro _;rfl) (hs2:∀env x,foldedSetIterable iter2 env x=pure x:=by intro _ _;rfl):PE X (.ListComp elt [⟨tg,iter,ifs,0⟩,⟨tg2,iter2,ifs2,0⟩] scope pos) (abo cap wi g tc wi2 g2 tc2 te):=by
 k_ne;kpf_c;rw[eval_ListComp];refine wpAny_comprehension_free (use:=none) rfl hs (Bg hfree) S.kind S.nm (mP (hi pins s σ H _ I h) λxv s1 h1=>mP h1 λitv s2 h2=>?_);obtain⟨it,fp,tn,J,H2,rfl,I2,T,st2,f2,h2⟩:=h2;refine cC (wpAny_newFunctionEnv S.nocell (by intro y hy;simp at hy) (λh₁ hns₁ hsb₁=>?_) S.kind);obtain⟨W,⟨m0,w0⟩,turn⟩:=h2 s2.heap.objs.size I2.fresh;dsimp only at hns₁ hsb₁ ⊢;have I3:Inv X pins σ (upd H2 s2.heap.objs.size (.lst [])) { s2 with heap:=s2.heap.push {}}:=I2.Uy (t':=s2.toks) (its:=[]) .nil (bL _);have hfp:∀b∈fp,∃o,s2.heap.get? b=some o:=λb hb=>by
  obtain⟨o,e,_⟩:=T.obj 0 _ st2 b hb;exact⟨o,e⟩
 have neD:∀b∈fp,b≠s2.heap.objs.size:=λb hb=>by
  obtain⟨o,e⟩:=hfp b hb;exact bD (bg e)
 have f3:∀b∈fp,vd X pins (upd H2 s2.heap.objs.size (.lst [])) b:=λb hb=>⟨by rw[jH (neD b hb)];exact(f2 b hb).1,(f2 b hb).2⟩;have hDC:s2.heap.objs.size≠(s2.heap.push {}).objs.size:=by rw[dX];exact bD (c8 _)
 have old:∀b o,(s2.heap.push {}).get? b=some o->h₁.get? b=some o:=λb o e=>hsb₁.extBut b o (bD (bg e)) (aV _ e);have I4:=QV (tk:=s2.toks+([]:List (Str×af)).length) (fp:=fp) S I3 f3 (λb hb=>by
  obtain⟨o,e⟩:=hfp b hb;exact⟨o,aV _ e⟩) hns₁ old
 have st4:tn 0 h₁:=T.keep _ _ _ st2 λb hb o e=>old b o (aV _ e);have stat:∀{H':Hp},(∀b∈fp,H' b=none)->∀b∈fp,vd (lz X scope N (s2.heap.push {}).objs.size { s2 with heap:=s2.heap.push {}} (upd H2 s2.heap.objs.size (.lst [])) fp) [] H' b:=λhn b hb=>by
  have ok:=I4.ok;refine⟨hn b hb,(ok.exf b hb).1,ok.exfs b hb,.inl hb,λx c e=>(ok.exf b hb).2 x c e,λp hp=>nomatch hp⟩
 have loop:∀s4:aA,s4={ s2 with heap:=h₁,toks:=s2.toks+([]:List (Str×af)).length } ->
   codeAny (model X.prog X.w) X.A (.compLoop (.ListComp elt [⟨tg,iter,ifs,0⟩,⟨tg2,iter2,ifs2,0⟩] scope pos) 0 (.ref it) (.ref s2.heap.objs.size) (compEnvC scope (zU X.env scope.names []) (s2.heap.push {}).objs.size X.env))
    (compPost (model X.prog X.w) X.A X.xe none (EP X pins σ Q) (.ref s2.heap.objs.size) (s2.heap.push {}).objs.size) s4:=by
  rintro s4 rfl;refine codeAny_loop rfl (λn s'=>∃i σ' H',Inv (lz X scope N (s2.heap.push {}).objs.size { s2 with heap:=s2.heap.push {}} (upd H2 s2.heap.objs.size (.lst [])) fp) [] σ' H' s'/\tn i s'.heap/\(∀b∈fp,H' b=none)/\W i n σ' H') (λn s5 hI=>?_) m0 ⟨0,_,_,I4,st4,λb hb=>(f3 b hb).1,w0⟩;obtain⟨i,σ5,H5,I5,st5,fr5,w5⟩:=hI
  skip
  refine wpAny_noted ?_;rw[DL];refine aG (fB (aG ?_))
  rcases turn i n σ5 H5 w5 with⟨stop,q⟩|⟨go,step⟩
  ·refine mP (T.done (lz X scope N (s2.heap.push {}).objs.size { s2 with heap:=s2.heap.push {}} (upd H2 s2.heap.objs.size (.lst [])) fp) rfl rfl rfl hc i [] s5 σ5 H5 _ I5 (stat fr5) st5 stop) λr s6 h9=>?_;obtain⟨hr,I6⟩:=h9;subst hr;obtain⟨m6,hn6,_⟩:=I6.loc;refine aP ⟨m6,hn6,λh' sb=>?_⟩;have u6:=I6.base;have nC:∀b o,(s2.heap.push {}).get? b=some o->b≠(s2.heap.push {}).objs.size:=λb o e=>bD (bg e);refine⟨.ref s2.heap.objs.size,H5,?_,rfl,q⟩;refine I3.Rz (ch:=fp) I6.os ⟨λb o e n hb hx=>?_,λb o e n hb hx=>?_,λb o e n hx=>?_,λb o e hx=>?_,u6.tups,u6.frzs,u6.tbls⟩ ?_ I6.bare ?_
   ·exact sb.extBut b o (nC b o e) (u6.keep b o e n hb hx)
   ·obtain⟨sl,z⟩:=u6.slot b o e n hb hx;exact⟨sl,sb.extBut b _ (nC b o e) z⟩
   ·exact u6.free b o e n hx
   ·obtain⟨o',z⟩:=u6.there b o e hx;exact⟨o',sb.extBut b _ (nC b o e) z⟩
   ·intro b o e;have hb:∀c v,H5 c=some v->c≠(s2.heap.push {}).objs.size:=λc v e z=>by
     rw[z]at e;have:=I6.free;rw[show H5 (s2.heap.push {}).objs.size=none from this]at e
     cases e
    refine(I6.hok b o e).stay (λc v hc q=>sb.extBut c v ?_ q) (λ_ q=>q) λ_ _ q=>q
    rcases hc with z|z
    ·rw[z];exact hb b o e
    ·exact hb c _ z
   ·intro b hb;obtain⟨_,z1,_,z3,z4,z5⟩:=f3 b hb;exact⟨z3,z1,z4,z5⟩
  ·refine mP (T.item (lz X scope N (s2.heap.push {}).objs.size { s2 with heap:=s2.heap.push {}} (upd H2 s2.heap.objs.size (.lst [])) fp) rfl rfl rfl hc i [] s5 σ5 H5 _ I5 (stat fr5) st5 go) λr s6 h9=>?_;obtain⟨u,hr,h6⟩:=h9;subst hr;refine aG (mP h6 λ_ s7 ⟨x,H7,I7,r7,y7,st7,fr7⟩=>?_);have I7':=I7.pinned (stat fr7) (T.obj _ _ st7);refine aG (EC (hg _ _ _ fp _ s7 σ5 H7 x u _ I7' r7 (step x H7 y7)) λ_ s8 ⟨σ8,H8,I8,q8⟩=>?_);refine aG (EC (ht _ _ _ fp _ s8 σ8 H8 _ I8 q8) λok s9 ⟨H9,I9,q9⟩=>?_);have again:∀{s10:aA} {H10:Hp} {σ10:L2.St},Inv (lz X scope N (s2.heap.push {}).objs.size { s2 with heap:=s2.heap.push {}} (upd H2 s2.heap.objs.size (.lst [])) fp) ([]++w9 fp s7.heap) σ10 H10 s10->(∃m',m'<n/\W (i+1) m' σ10 H10) ->
     ∃m,m<n/\∃i σ' H',Inv (lz X scope N (s2.heap.push {}).objs.size { s2 with heap:=s2.heap.push {}} (upd H2 s2.heap.objs.size (.lst [])) fp) [] σ' H' s10/\tn i s10.heap/\(∀b∈fp,H' b=none)/\W i m σ' H':=λ{s10 H10 σ10} I10 h9=>by
    obtain⟨m',hm,w10⟩:=h9;refine⟨m',hm,i+1,σ10,H10,I10.q_,T.keep _ _ _ st7 λb hb o e=>(I10.pin (b,o) (bG _ (bG _ (l_ hb e)))).1,λb hb=>?_,w10⟩;obtain⟨o,e,d⟩:=T.obj _ _ st7 b hb;exact(I10.pin (b,o) (bG _ (bG _ (l_ hb e)))).2.1
   cases ok with
   | false=>
    rw[aJ bE]at q9;exact aP ⟨rfl,again I9 q9⟩
   | true=>
    rw[aK rfl]at q9;refine aG (EC (hi2 _ _ _ fp _ s9 σ8 H9 _ I9 q9) λxv s10 h10=>aG (fB ?_));rw[hs2];refine aG (aP (aG (dm (EC h10 λitv s11 h11=>?_))));obtain⟨it2,fp2,tn2,J2,H11,rfl,I11,T2,st11,f11,goal⟩:=h11;have hcz:=hc;have loop2:=(λ(Z:Cx) (h1:Z.calm=true) (h2:Z.xe=λ_ _=>False) T2 I11=>IC (Z:=Z) (t1:=tg) (i1:=iter) (f1:=ifs) (i2:=iter2) (scope:=scope) (pos:=pos) h1 h2 T2 I11) _ (show(lz X scope N _ _ _ fp).calm=true from hcz) rfl T2 I11 st11 f11 (hg2 _ _ _ fp) (ht2 _ _ _ fp) (he _ _ _ fp) goal;refine aG (wpAny_runOwn (iL (uT loop2 (T2.self _ 0 _ _ _ st11 loop2)) λr s12 hr12=>?_));obtain⟨hr,σ12,H12,I12,n12⟩:=hr12;subst hr;exact aP ⟨rfl,again I12 n12⟩
 exact codeAny_compStart_list (loop _ rfl) (T.self _ 0 _ _ _ st4 (loop _ rfl))
end L2
namespace L2
open PySem PySem.Spec PyProof.Rows
open PySem.SeqAt
open PySem.AutoSeq1 (wpAny_loadPart')
open PySem.MeetsSeq PySem.MeetsSeq2 PySem.MeetsSeq3 PySem.SeqAt
section
variable {X:Cx}
def O7:pT X (binaryOp .FloorDiv) (rI (λ_ j=>0<j/\j<18446744073709551616) λi j=>.int (i / j)):=opI λi j _ _ _ _ _ hc q=>by
 have h1:(0:Int)<j:=hc.1;have h2:j<18446744073709551616:=hc.2;refine floordiv_int (by omega) (by rw[Int.fdiv_eq_ediv_of_nonneg i (by omega)];exact q) (.inl (PyProof.noPylong_of_log2 ?_));exact bV ((Nat.log2_lt (by omega)).mpr (show j.natAbs<2 ^ 64 by omega)) ⋯
end
end L2
namespace L2
open PySem PySem.Spec PyProof.Rows
abbrev Its (x:Str):It:=⟨λi _=>i<x.cps.size,λi H v H'=>H'=H/\∃c,x.cps[i]?=some c/\v=.str ⟨#[c]⟩,λi _=>i=x.cps.size⟩
def Px{P:aj}{w:ah}{K:au}(x:Str)(t:Tok)(it:ak):Turn P w K tg (Its x) [it] it (λi h=>h.IsStrIter it "str_ascii_iterator" x t i) where
 mem:=by simp
 obj:=λi h st b hb=>by
  have e:b=it:=by simpa using hb
  subst e;obtain⟨o,e,c,d⟩:=st;exact⟨o,e,λv z=>by rw[d]at z;cases z⟩
 keep:=λi h h' st k=>let⟨o,ho,r⟩:=st;⟨o,k it (by simp) o ho,r⟩
 item:=by
  x_go;subst hP hw hK;kt_k;have W:=Walks.strAscii (prog:=X.prog) (w:=X.w) (I.ok.hd hc) it x t;refine W.item i s _ _ hg st λv h' tk hv st' kk=>?_;obtain⟨c,u,hcx,rfl⟩:=hv;have I1:Inv X pins σ H { s with heap:=h',toks:=tk }:=I.turned (λb o hb e=>kk b o (by simpa using hb) e) f0 f1 f3 f4 f5;obtain⟨o,e,cc,d⟩:=id st';exact⟨_,rfl,Ke (s:={ s with heap:=h',toks:=tk }) e cc d ⋯ ⟨.str ⟨#[c]⟩,H,I1,⟨u,rfl⟩,⟨rfl,c,hcx,rfl⟩,st',λb hb=>(hf b hb).1⟩⟩
 done:=by
  x_go;subst hP hw hK;kt_k;have hg:i=x.cps.size:=hg;subst hg;have W:=Walks.strAscii (prog:=X.prog) (w:=X.w) (I.ok.hd hc) it x t;exact W.done s _ _ st λh' tk kk=>⟨rfl,I.turned (λb o hb e=>kk b o (by simpa using hb) e) f0 f1 f3 f4 f5⟩
 self:=λ_ _ _ _ _ st h=>wpAny_pyIter_striter_ascii st h
section
variable {X:Cx}{tg:aC}
abbrev aa1 (tl:TE):TI:=λσ H R=>tl σ H λx H1=>∃y:Str,x=.str y/\y.cps.all (· < 128)=true/\R (Its y) H1
def Xv{l:aC}{tl:TE}(hl:PE X l tl):PI X tg l (aa1 tl):=by
 intro pins s σ H R I h;refine mP (hl pins s σ H _ I h) λv s1 h9=>?_;obtain⟨x,H1,I1,r1,q1⟩:=h9;obtain⟨y,e,ha,q⟩:=q1;subst e;obtain⟨t,rfl⟩:=r1;refine wpAny_pyIter_ascii ha ?_;refine⟨s1.heap.objs.size,[s1.heap.objs.size],_,_,H1,rfl,I1.kept (t':=s1.toks) λb o e=>aV _ e,Px y t _,⟨_,bC _ rfl,rfl,rfl⟩,λb hb=>?_,q⟩;have e:b=s1.heap.objs.size:=by simpa using hb
 subst e;exact I1.Hl (aR _) (I1.hok.fresh (aR _))
def MB:j9 X (.type "int") (λxs H Q=>∃(y:Str) (n:Int),xs=[.str y]/\y.length<=640/\PySem.intText? y=some n/\Q (.int n) H):=by
 intro pins s σ H xs us Q I rv h;obtain⟨y,n,rfl,hl,hn,q⟩:=h;obtain⟨w,rfl,rw'⟩:=vals1 rv;obtain⟨u,rfl⟩:=rw';exact PySem.W.KIN.call_text hn hl ⟨.int n,H,I.tok _,⟨_,rfl⟩,q⟩
end
section
variable {κ:Type}[DecidableEq κ]
abbrev qE (kvs:List (κ×V))(k:κ):Option V:=(kvs.find? λkv=>decide (kv.1=k)).map (·.2)
abbrev putK (kvs:List (κ×V))(k:κ)(v:V):List (κ×V):=
 if (kvs.any λkv=>decide (kv.1=k))=true then kvs.map (λkv=>if kv.1=k then(kv.1,v)else kv)else kvs++[(k,v)]
def vG{p:κ×V}{r:List (κ×V)}{k:κ}(e:p.1=k):qE (p::r) k=some p.2:=by simp[qE,cT,e]
def ve{p:κ×V}{r:List (κ×V)}{k:κ}(e:¬p.1=k):qE (p::r) k=qE r k:=by simp[qE,cT,e]
theorem yl(k:κ):∀kvs:List (κ×V),(kvs.any λkv=>decide (kv.1=k))=(qE kvs k).isSome
 | []=>rfl
 | p::r=>by
  rw[fX];by_cases e:p.1=k
  ·dsimp[vG e,bf e,Bool.true_or,isSome_some]
  ·rw[ve e,bw e,gz];exact yl k r
def vP(kvs:List (κ×V))(k:κ)(v:V):(putK kvs k v).length<=kvs.length+1:=by
 unfold putK;split
 ·rw[aH];lia
 ·rw[aQ,bq,bR];lia
def zk.zb{o:Option V}{u:bi}(r:zk o u):o.isSome=u.isSome:=by
 cases o with
 | none=>cases u with
  | none=>rfl
  | some _=>exact(show False from r).elim
 | some _=>cases u with
  | none=>exact(show False from r).elim
  | some _=>rfl
def zk.getD{o:Option V}{u:bi}(r:zk o u)(rd:RelV d d'):RelV (o.getD d) (u.getD d'):=by
 cases o with
 | none=>cases u with
  | none=>exact rd
  | some _=>exact(show False from r).elim
 | some _=>cases u with
  | none=>exact(show False from r).elim
  | some _=>exact r
def KV.val(r:KV kvs vs)(k:κ):zk (qE kvs k) (valueAt vs k):=by
 unfold KV at r
 induction r with
 | nil=>exact True.intro
 | @cons p q ps qs h t ih=>
  obtain⟨h1,h2⟩:=h;by_cases e:p.1=k
  ·have e':q.1=k:=h1.symm.trans e;have b:valueAt (q::qs) k=some q.2:=by simp[valueAt,cT,e']
   rw[vG e,b];exact h2
  ·have e':¬q.1=k:=λz=>e (h1.trans z);have b:valueAt (q::qs) k=valueAt qs k:=by simp[valueAt,cT,e']
   rw[ve e,b];exact ih
def KV.any{kvs:List (κ×V)}{vs:List (κ×af)}(r:KV kvs vs)(k:κ):(kvs.any λkv=>decide (kv.1=k))=vs.any λkv=>decide (kv.1=k):=by
 unfold KV at r
 induction r with
 | nil=>rfl
 | cons h t ih=>rw[fX,fX,ih,h.1]
def KV.repl{kvs:List (κ×V)}{vs:List (κ×af)}(r:KV kvs vs)(k:κ)(ry:RelV y u) :
  KV (kvs.map λkv=>if kv.1=k then(kv.1,y)else kv) (vs.map λkv=>if kv.1=k then(kv.1,u)else kv):=by
 unfold KV at r ⊢
 induction r with
 | nil=>exact .nil
 | @cons p q ps qs h t ih=>
  rw[bB,bB];refine .cons ?_ ih;obtain⟨h1,h2⟩:=h;by_cases e:p.1=k
  ·rw[aK e,aK (h1.symm.trans e)];exact⟨h1,ry⟩
  ·rw[aJ e,aJ (λz=>e (h1.trans z))];exact⟨h1,h2⟩
def KV.put(r:KV kvs vs)(k:κ)(ry:RelV y u):KV (putK kvs k y) (stored vs k u):=by
 unfold putK stored;rw[r.any k];by_cases e:(vs.any λkv=>decide (kv.1=k))=true
 ·rw[aK e,aK e];exact r.repl k ry
 ·rw[aJ e,aJ e];exact Paired.snoc r ⟨rfl,ry⟩
def KV.length{kvs:List (κ×V)}{vs:List (κ×af)}(r:KV kvs vs):kvs.length=vs.length:=iZ r
end
def FQ{P:aj}{w:ah}{k:Key}(r:RelV (kV k) u):(kh P w).is k u=true:=by
 cases k with
 | inl i=>obtain⟨t,e⟩:=(show ∃t,u=Value.int i t from r);subst e;exact GA P w i t
 | inr x=>obtain⟨t,e⟩:=(show ∃t,u=Value.str x t from r);subst e;exact Fc P w x t
theorem Cy{P:aj}{w:ah}:∀{ks:List Key}{us:ba},Vals (ks.map kV) us->ItemsAre (kh P w) ks us
 | [],_,r=>by rw[gQ]at r;cases r;exact .nil
 | k::ks,_,r=>by
  rw[bB]at r
  cases r with
  | cons h t=>exact .cons (FQ h) (Cy t)
meta abbrev KT (H:Hp):List (List Key×V)->List (List Key×ak×af)->Prop:=Paired λp q=>p.1=q.1/\H q.2.1=some (.tup (p.1.map kV))/\RelV p.2 q.2.2
def KT.val{H:Hp}(r:KT H kvs xs)(k:List Key):zk (qE kvs k) ((atKey xs k).map (·.2)):=by
 induction r with
 | nil=>exact True.intro
 | @cons p q ps qs h t ih=>
  obtain⟨h1,_,h2⟩:=h;by_cases e:p.1=k
  ·have e':q.1=k:=h1.symm.trans e;have b:atKey (q::qs) k=some q.2:=by simp[atKey,cT,e']
   rw[vG e,b];exact h2
  ·have e':¬q.1=k:=λz=>e (h1.trans z);have b:atKey (q::qs) k=atKey qs k:=by simp[atKey,cT,e']
   rw[ve e,b];exact ih
def KT.repl{H:Hp}{kvs:List (List Key×V)}{xs:List (List Key×ak×af)}(r:KT H kvs xs)(k:List Key)(ry:RelV y u) :
  KT H (kvs.map λkv=>if kv.1=k then(kv.1,y)else kv) (xs.map (putAt k u)):=by
 induction r with
 | nil=>exact .nil
 | @cons p q ps qs h t ih=>
  rw[bB,bB];refine .cons ?_ ih;obtain⟨h1,h2,h3⟩:=h;unfold putAt;by_cases e:p.1=k
  ·rw[aK e,aK (h1.symm.trans e)];exact⟨h1,h2,ry⟩
  ·rw[aJ e,aJ (λz=>e (h1.trans z))];exact⟨h1,h2,h3⟩
def KT.put{H:Hp}(r:KT H kvs xs)(k:List Key)(hb:H b=some (.tup (k.map kV)))(ry:RelV y u) :
  KT H (putK kvs k y) (storedH xs k b u):=by
 have e:(kvs.any λkv=>decide (kv.1=k))=(atKey xs k).isSome:=by
  rw[yl,(r.val k).zb,gT]
 unfold putK storedH;rw[e];by_cases q:(atKey xs k).isSome=true
 ·rw[aK q,aK q];exact r.repl k ry
 ·rw[aJ q,aJ q];exact Paired.snoc r ⟨rfl,hb,ry⟩
def KT.keeps{H H':Hp}(r:KT H kvs xs)(ht:∀b ys,H b=some (.tup ys)->H' b=some (.tup ys)):KT H' kvs xs:=
 Paired.WV r λ_ _ z=>⟨z.1,ht _ _ z.2.1,z.2.2⟩
section
variable {P:aj}{w:ah}{H:Hp}{h:aq}{a:ak}
def Vr(ok:xH P w H h)(e:Rd H a u):lW P w H h a u:=e.ok ok
def FN{kvs:List (Key×V)}(ok:xH P w H h)(e:Rd H a (.dK kvs)):kvs.length<=sizeLine/\(a == sysModules)=false/\∃vs,KV kvs vs/\h.DictOf (kh P w) a vs:=
 show lW P w H h a (.dK kvs)from Vr ok e
def VR{kvs:List (Key×V)}(ok:xH P w H h)(e:H a=some (.dK kvs)):kvs.length<=sizeLine/\(a == sysModules)=false/\∃vs,KV kvs vs/\h.DictOf (kh P w) a vs:=FN ok (.inl e)
def yM{ks:List Key}(ok:xH P w H h)(e:H a=some (.tup (ks.map kV))):(tupleKind (kh P w)).is h ks a:=by
 obtain⟨_,its,r,o,h1,h2,_,n,h3⟩:=(show lW P w H h a (.tup (ks.map kV))from ok a _ e);exact⟨o,its.toArray,n,h1,h2,h3,by simpa using Cy r⟩
def FY{kvs:List (List Key×V)}(ok:xH P w H h)(e:Rd H a (.dT kvs)):kvs.length<=sizeLine/\(a == sysModules)=false /\
  ∃xs,KT H kvs xs/\h.DictOfH (tupleKind (kh P w)) a xs:=by
 obtain⟨z,y,xs,r,o,es,ep,h1,h2,h3,h4,h5⟩:=(show lW P w H h a (.dT kvs)from Vr ok e);refine⟨z,y,xs,r,o,es,ep,h1,h2,h3,h4,λx hx=>?_,h5⟩;have all:∀{l:List (List Key×V)} {m:List (List Key×ak×af)},KT H l m->∀x∈m,(tupleKind (kh P w)).is h x.1 x.2.1:=by
  intro l m q
  induction q with
  | nil=>intro x hx;exact nomatch hx
  | @cons p q ps qs hq t ih=>
   intro x hx
   rcases bF.mp hx with e|hx
   ·subst e;exact yM ok (by rw[<- hq.1];exact hq.2.1)
   ·exact ih x hx
 exact all r x hx
def P4{kvs:List (List Key×V)}(ok:xH P w H h)(e:H a=some (.dT kvs)):kvs.length<=sizeLine/\(a == sysModules)=false /\
  ∃xs,KT H kvs xs/\h.DictOfH (tupleKind (kh P w)) a xs:=FY ok (.inl e)
end
abbrev xq (H:Hp)(a:ak)(y:V)(r:Option V):Prop:=
 (∃kvs k,Rd H a (.dK kvs)/\y=kV k/\r=qE kvs k)\/∃kvs k b,Rd H a (.dT kvs)/\y=.ref b/\H b=some (.tup (k.map kV))/\r=qE kvs k
abbrev Gy (H:Hp)(a:ak)(y v:V)(H':Hp):Prop:=
 (∃kvs k,H a=some (.dK kvs)/\y=kV k/\kvs.length<sizeLine/\H'=upd H a (.dK (putK kvs k v))) \/
 ∃kvs k b,H a=some (.dT kvs)/\y=.ref b/\H b=some (.tup (k.map kV))/\kvs.length<sizeLine/\H'=upd H a (.dT (putK kvs k v))
theorem xq.k{H:Hp}{a:ak}{k:Key}(e:H a=some (.dK kvs)):xq H a (kV k) (qE kvs k):=.inl ⟨kvs,k,.inl e,rfl,rfl⟩
def xq.t{H:Hp}{a:ak}{k:List Key}(e:H a=some (.dT kvs))(eb:H b=some (.tup (k.map kV))):xq H a (.ref b) (qE kvs k):=.inr ⟨kvs,k,b,.inl e,rfl,eb,rfl⟩
theorem Gy.k{H:Hp}{a:ak}{kvs:List (Key×V)}{k:Key}{v:V}(e:H a=some (.dK kvs))(hl:kvs.length<sizeLine):Gy H a (kV k) v (upd H a (.dK (putK kvs k v))):=.inl ⟨kvs,k,e,rfl,hl,rfl⟩
def Gy.t{H:Hp}{a:ak}{kvs:List (List Key×V)}{k:List Key}{v:V}(e:H a=some (.dT kvs))(eb:H b=some (.tup (k.map kV)))(hl:kvs.length<sizeLine) :
  Gy H a (.ref b) v (upd H a (.dT (putK kvs k v))):=.inr ⟨kvs,k,b,e,rfl,eb,hl,rfl⟩
section
variable {X:Cx}{pins:bv}{σ:St}{H:Hp}{s:aA}{a:ak}{y v:V}{u r:af}{o:Option V}{A:az}{E:af->aA->Prop}
def Inv.big(I:Inv X pins σ H s):sysModules<s.heap.objs.size:=by
 have h:mainGlobals<s.heap.objs.size:=(I.mod.glob.keeps I.bk).lt;exact lt_trans ⋯ h
def LW{Q:af->aA->Prop}(hu:A.units+1<cLine)(I:Inv X pins σ H s)(g:xq H a y (some v))(ry:RelV y u)(h:∀w' s',Inv X pins σ H s'->RelV v w'->Q w' s') :
  wpAny (model X.prog X.w) A (getItem (.ref a) u) Q E s:=by
 rcases g with⟨kvs,k,e,ey,l⟩|⟨kvs,k,b,e,ey,eb,l⟩
 ·subst ey;obtain⟨z,hd,vs,rel,dd⟩:=FN I.hok e;obtain⟨w',hw,rw'⟩:=zk.some_of (v:=v) (o:=valueAt vs k) (by rw[l];exact rel.val k);exact wpAny_getItem_of (FQ ry) dd.mapOf hw (h w' _ (I.tok _) rw')
 ·subst ey
  cases(show u=Value.ref b from ry)
  obtain⟨z,hd,xs,rel,dd⟩:=FY I.hok e;obtain⟨w',hw,rw'⟩:=zk.some_of (v:=v) (o:=(atKey xs k).map (·.2)) (by rw[l];exact rel.val k);obtain⟨p,hp,hp2⟩:=aX.mp hw;refine wpAny_getItem_heap (fQ hu) (yM I.hok eb) dd hp ?_;rw[hp2];exact h w' _ (I.tok _) rw'
def UD{Q:af->aA->Prop}(hu:A.units+1<cLine)(I:Inv X pins σ H s)(g:xq H a y o)(ry:RelV y u)(h:∀s',Inv X pins σ H s'->Q (.bool (!o.isSome)) s') :
  wpAny (model X.prog X.w) A (compareOp .NotIn u (.ref a)) Q E s:=by
 rcases g with⟨kvs,k,e,ey,l⟩|⟨kvs,k,b,e,ey,eb,l⟩
 ·subst ey;obtain⟨z,hd,vs,rel,dd⟩:=FN I.hok e;refine wpAny_notIn_of (FQ ry) hd dd.mapOf ?_;rw[<- (rel.val k).zb,<- l];exact h _ (I.tok _)
 ·subst ey
  cases(show u=Value.ref b from ry)
  obtain⟨z,hd,xs,rel,dd⟩:=FY I.hok e;refine wpAny_notIn_heap (fQ hu) (yM I.hok eb) hd dd ?_;have q:=(rel.val k).zb;rw[gT]at q;rw[<- q,<- l];exact h _ (I.tok _)
def Lb{h':aq}{t':Nat}{ob:HO}(I:Inv X pins σ H s)(mu:Zv (H a))(hs:Heap.SameBut a s.heap h')(he:∃q,h'.get? a=some q)(new:lW X.prog X.w (upd H a ob) h' a ob) :
  Inv X pins σ (upd H a ob) { s with heap:=h',toks:=t' }:=
 I.write (x:=a) (e:=a) mu (.inl rfl) (λb q hb z=>(hs.2 b hb).trans z) he new
def N7{P:aj}{w:ah}{H':Hp}{h':aq}{kvs:List (Key×V)}(z:kvs.length<=sizeLine)(hd:(a == sysModules)=false)(rel:KV kvs vs)(dd:h'.DictOf (kh P w) a vs) :
  lW P w H' h' a (.dK kvs):=⟨z,hd,vs,rel,dd⟩
def MT{H':Hp}{Q:Unit->aA->Prop}(hu:A.units+1<cLine)(I:Inv X pins σ H s)(g:Gy H a y v H')(ry:RelV y u)(rv:RelV v r)(h:∀s',Inv X pins σ H' s'->Q Unit.unit s') :
  wpAny (model X.prog X.w) A (setItem (.ref a) u r) Q E s:=by
 rcases g with⟨kvs,k,e,ey,l,eH⟩|⟨kvs,k,b,e,ey,eb,l,eH⟩
 ·subst ey eH;obtain⟨z,hd,vs,rel,dd⟩:=VR I.hok e;have hz:vs.length<=sizeLine:=by rw[<- rel.length];exact z
  have hl:(putK kvs k v).length<=sizeLine:=by have:=vP kvs k v;lia
  refine wpAny_setItem_pairs (hsz:=hz) (FQ ry) dd λh' dd' hs=>h _ ?_;have he:∃q,h'.get? a=some q:=let⟨q,_,_,hq,_⟩:=dd';⟨q,hq⟩
  exact Lb I (by rw[e];exact True.intro) hs he (N7 hl hd (rel.put k rv) dd')
 ·subst ey eH
  cases(show u=Value.ref b from ry)
  obtain⟨z,hd,xs,rel,dd⟩:=P4 I.hok e;have hz:xs.length<=sizeLine:=by rw[<- iZ rel];exact z
  have hl:(putK kvs k v).length<=sizeLine:=by have:=vP kvs k v;lia
  refine wpAny_setItem_heap (hsz:=hz) (fQ hu) (yM I.hok eb) dd λh' dd' hs=>h _ ?_;obtain⟨q,es,ep,hq,h2,h3,h4,_,h5⟩:=dd';refine Lb I (by rw[e];exact True.intro) hs ⟨q,hq⟩ ⟨hl,hd,_,(rel.put k eb rv).keeps λc ys ec=>?_,q,es,ep,hq,h2,h3,h4,h5⟩;rw[jH (ZA ec e (λz=>nomatch z))];exact ec
end
def Gr{X:Cx}{H:Hp}{s:aA}{a:ak}(I:Inv X pins σ H s)(g:xq H a y o):s.TypeIs (.ref a) "dict" := by
 rcases g with⟨kvs,k,e,_,_⟩|⟨kvs,k,b,e,_,_,_⟩
 ·obtain⟨_,_,vs,_,dd⟩:=FN I.hok e;exact dd.typeIs
 ·obtain⟨_,_,xs,_,dd⟩:=FY I.hok e;exact dd.typeIs
def RX{P:aj}{w:ah}{H:Hp}(h:aq)(hb:sysModules<h.objs.size):lW P w H (h.push { cls:=.type "dict",data:=.dict #[]}) h.objs.size (.dK []):=
 ⟨bL _,fK.mpr (dw (bD hb)),[],.nil,Heap.DictOf.new h⟩
def Qn{P:aj}{w:ah}{H:Hp}(h:aq)(hb:sysModules<h.objs.size):lW P w H (h.push { cls:=.type "dict",data:=.dict #[]}) h.objs.size (.dT []):=
 ⟨bL _,fK.mpr (dw (bD hb)),[],.nil,_,#[],0,bC _ rfl,⟨rfl,rfl,rfl⟩,rfl,rfl,dN⟩
abbrev Xp:TE:=λ_ H Q=>∀p,H p=none->Q (.ref p) (upd H p (.dK []))
abbrev XW:TE:=λ_ H Q=>∀p,H p=none->Q (.ref p) (upd H p (.dT []))
section
variable {X:Cx}{pos:Pos}
def Qf:PE X (.Dict [] [] pos) Xp:=λpins s σ H Q I h=>
 wpAny_Dict_empty ⟨.ref s.heap.objs.size,_,I.laid (a:=s.heap.objs.size) (o:=.dK []) (t':=s.toks) (λ_ _ q=>aV _ q) (aR _) (RX s.heap I.big),rfl,h _ (I.hok.fresh (aR _))⟩
def OW:PE X (.Dict [] [] pos) XW:=λpins s σ H Q I h=>
 wpAny_Dict_empty ⟨.ref s.heap.objs.size,_,I.laid (a:=s.heap.objs.size) (o:=.dT []) (t':=s.toks) (λ_ _ q=>aV _ q) (aR _) (Qn s.heap I.big),rfl,h _ (I.hok.fresh (aR _))⟩
end
structure M1 (X:Cx)(o:aC)(m:Str)(apos:Pos)(e:aC)(cpos:Pos):Prop where
 base:attributeBase o m X.env (eval o X.env)=eval o X.env
 few:((backTo cpos (starEach [e] X.env)).all (λx=>!x.1) && (backToKw cpos (keywordEach [] X.env)).all (λx=>x.1.isSome)
  && decide (([e]:List aC).length+([]:List Keyword).length+(if ([]:List Keyword).isEmpty then 0 else 1)<30))=true
 line:(apos.endLine == cpos.line)=true
 trees:backTo cpos (starEach [e] X.env)=[(false,eval e X.env)]
structure M2 (X:Cx)(o:aC)(m:Str)(apos:Pos)(e f:aC)(cpos:Pos):Prop where
 base:attributeBase o m X.env (eval o X.env)=eval o X.env
 few:((backTo cpos (starEach [e,f] X.env)).all (λx=>!x.1) && (backToKw cpos (keywordEach [] X.env)).all (λx=>x.1.isSome)
  && decide (([e,f]:List aC).length+([]:List Keyword).length+(if ([]:List Keyword).isEmpty then 0 else 1)<30))=true
 line:(apos.endLine == cpos.line)=true
 trees:backTo cpos (starEach [e,f] X.env)=[(false,eval e X.env),(false,eval f X.env)]
section
variable {X:Cx}{pins:bv}{σ:St}{H:Hp}{s:aA}{a:ak}{y d:V}{u r:af}{o:Option V}{A:az}{E:af->aA->Prop}
def WE{Q:af->aA->Prop}(hu:A.units+1<cLine)(I:Inv X pins σ H s)(g:xq H a y o)(ry:RelV y u)(rd:RelV d r)(h:∀w' s',Inv X pins σ H s'->RelV (o.getD d) w'->Q w' s') :
  wpAny (model X.prog X.w) A (call (.builtin "dict.get") [.ref a,u,r]) Q E s:=by
 rcases g with⟨kvs,k,e,ey,l⟩|⟨kvs,k,b,e,ey,eb,l⟩
 ·subst ey;obtain⟨z,hd,vs,rel,dd⟩:=FN I.hok e;refine call_meetsIn cM dd.typeIs gU (gM _ _ _) (meets_dict_get_default (kh X.prog X.w) a (FQ ry) hd r) ⟨_,dd.mapOf,h _ _ (I.tok _) ?_⟩;rw[l];exact(rel.val k).getD rd
 ·subst ey
  cases(show u=Value.ref b from ry)
  obtain⟨z,hd,xs,rel,dd⟩:=FY I.hok e;refine call_meetsIn cM dd.typeIs gU (gM _ _ _) (meetsH_dict_get_default (tupleKind (kh X.prog X.w)) a b hd r) ⟨fQ hu,k,xs,yM I.hok eb,dd,h _ _ (I.tok _) ?_⟩;rw[l];exact(rel.val k).getD rd
end
section
variable {X:Cx}
def Lj(hu:X.A.units+1<cLine):Wi X (λx y H Q=>∃a v,x=.ref a/\xq H a y (some v)/\Q v H):=by
 intro value slice pins s σ H x y v u Q I rx ry h hs;obtain⟨a,z,rfl,g,q⟩:=h
 cases rx
 have hT:=Gr I g;unfold subscriptTail;refine aG ?_;rw[getitemInPython_of_ne hT.not_modules];refine aG (wpAny_specialOf hT PySem.F.slot_dict_getitem.lookup ?_);have fin:wpAny (model X.prog X.w) X.A (subscripted slice false (.ref a) u) (λr s₃=>wpAny (model X.prog X.w) X.A (letTemporaryGo value (.ref a) r >>= λ_=>pure r) (EP X pins σ Q) X.xe s₃) X.xe s:=by
  rw[hs];exact wpAny_operating (LW hu I g ry λw' s3 I3 rw'=>aG (wpAny_letTemporaryGo (aP ⟨z,H,I3,rw',q⟩)))
 first
  | exact aP (aG fin)
  | exact aG (aP (aG fin))
  | exact aG fin
def Mr(hu:X.A.units+1<cLine):pT X (compareOp .NotIn) (λy x H Q=>∃a o,x=.ref a/\xq H a y o/\Q (.bl (!o.isSome)) H):=by
 intro pins s σ H y x v u Q I ry rx h;obtain⟨a,o,rfl,g,q⟩:=h
 cases rx
 exact UD hu I g ry λs3 I3=>⟨.bl (!o.isSome),H,I3,rfl,q⟩
def set_dict(hu:X.A.units+1<cLine):Mw X (λo i v H Q=>∃a H',o=.ref a/\Gy H a i v H'/\Q H'):=by
 intro pins s σ H o i v ov iv u Q I ro ri rv h;obtain⟨a,H',rfl,g,q⟩:=h
 cases ro
 exact MT hu I g ri rv λs4 I4=>⟨H',I4,q⟩
abbrev Z8:V->List V->Hp->VK->Prop:=λx vs H Q=>∃a b ks kvs y,x=.ref a/\vs=[.ref b,y]/\H a=some (.dT kvs)/\H b=some (.tup (ks.map kV))/\Q ((qE kvs ks).getD y) H
def Ur(hu:X.A.units+1<cLine):MtM X "dict.get" Z8:=by
 intro pins s σ H x vs v us Q I rx rv h;obtain⟨a,b,ks,kvs,y,rfl,rfl,ea,eb,q⟩:=h
 cases rx
 cases rv with
 | @cons _ u1 _ Hf r1 rv=>
  cases rv with
  | @cons _ u2 _ Cf r2 rv=>
   cases rv
   cases r1
   obtain⟨z,hd,xs,rel,dd⟩:=P4 I.hok ea;refine call_meetsIn cM dd.typeIs gU (gM _ _ _) (meetsH_dict_get_default (tupleKind (kh X.prog X.w)) a b hd u2) ⟨fQ hu,ks,xs,yM I.hok eb,dd,?_⟩;refine⟨(qE kvs ks).getD y,H,I.tok _,?_,q⟩;have rl:=rel.val ks
   cases e1:qE kvs ks with
   | none=>
    rw[e1]at rl
    cases e2:(atKey xs ks).map (·.2)with
    | none=>exact r2
    | some w'=>rw[e2]at rl;exact rl.elim
   | some w1=>
    rw[e1]at rl
    cases e2:(atKey xs ks).map (·.2)with
    | none=>rw[e2]at rl;exact rl.elim
    | some w'=>rw[e2]at rl;exact rl
end
section
theorem kt_at{H:Hp}:∀{kvs:List (List Key×V)}{xs:List (List Key×ak×af)},KT H kvs xs->kvs.length=xs.length/\∀(i:Nat) (p:List Key×V),kvs[i]?=some p->∃y:List Key×ak×af,xs[i]?=some y/\p.1=y.1/\H y.2.1=some (.tup (p.1.map kV))/\RelV p.2 y.2.2
 | [],[],_=>⟨rfl,λi p h=>by simp at h⟩
 | [],_::_,r=>nomatch r
 | _::_,[],r=>nomatch r
 | a::kvs,b::xs,.cons z r=>by
  obtain⟨l,q⟩:=kt_at r;refine⟨by simp[l],λi p h=>?_⟩
  cases i with
  | zero=>
   have:a=p:=by simpa using h
   subst this;exact⟨b,rfl,z⟩
  | succ i=>exact q i p (by simpa using h)
end
abbrev C0 (e:ak)(h:aq):Prop:=∃o vs,h.get? e=some o/\o.data=.fields vs/\vs[2]?=some .none/\o.dict=none
structure Fly (l:List Env)(g:aq)(pn:bv)(H:Hp)(e:ak)(cls:af)(h:aq):Prop where
 ex:∃(B:aq) (a0:af),Heap.FlyingW B l e cls a0 h/\(∀a u,H a=some u->∃o,B.get? a=some o)/\(∀b o,g.get? b=some o->b∉frs l->∃o',B.get? b=some o')/\(∀p∈pn,∃o',B.get? p.1=some o')/\C0 e h
structure Made (X:Cx)(H:Hp)(e:ak)(cls:af)(g:aq)(h:aq):Prop where
 ex:∃(g':aq) (vs:ba),Heap.MadeExcOf g' h e cls vs/\g'.FunFrames X.base X.stack/\(∀a u,H a=some u->∃o,g'.get? a=some o)/\(∀b o,g.get? b=some o->∃o',g'.get? b=some o')/\(∀p∈X.pn,∃o',g'.get? p.1=some o')
abbrev Xs (X:Cx)(H:Hp)(e:ak)(cls:af)(s':aA):Prop:=Made X H e cls X.s₀.heap s'.heap\/Fly X.stack X.s₀.heap X.pn H e cls s'.heap
section
abbrev EX (X:Cx):XK:=λcls _ H'=>X.ex=[]/\∀pins σ' s' e,Inv X pins σ' H' s'->Xs X H' e cls s'->X.xe (.ref e) s'
end
inductive FParts (X:Cx):List aC->List (Str ⊕ TE)->Prop
 | nil:FParts X [] []
 | txt {x:Str} {j pos} {es:List aC} {ps:List (Str ⊕ TE)} (h:FParts X es ps):FParts X (.Constant (.str x) j pos::es) (.inl x::ps)
 | val {e:aC} {pos:Pos} {t:TE} {es:List aC} {ps:List (Str ⊕ TE)} (he:PE X e t) (h:FParts X es ps):FParts X (.FormattedValue e (-1) none pos::es) (.inr t::ps)
abbrev xu:HO:=.ext λ_=>True
structure XO (C:ak)(o:Obj):Prop where
 cls:o.cls=.ref C
 dict:o.dict=none
 ctx:∃vs,o.data=.fields vs/\vs[2]?=some .none
structure Fr0 (X:Cx)(e:ak):Prop where
 no:∀o,X.s₀.heap.get? e≠some o
 tup:∀xs,X.H₀ e≠some (.tup xs)
 frz:∀o u,X.H₀ e≠some (.frz o u)
 tbl:∀ps,X.H₀ e≠some (.tbl ps)
abbrev mroIn (K:au)(C:ak):Option (ba):=match K.lookup C with
 | some ⟨.type "type",_,.cls cd,sl⟩=>(match cd.mro,sl.toList with
  | .ref C'::bm,[_,_,_,_,some (.builtin _),_]=>if C'=C/\cd.hasDel=false then some bm else none
  | _,_=>none)
 | _=>none
structure ClsAt (h:aq)(C:ak)(bm:ba):Prop where
 ex:∃nm q N bs hdct sn sub ab col dd k0 k1 k2 k3 k5 newId,h.get? C=some (excClassObj nm q C N bs bm hdct sn sub ab col dd k0 k1 k2 k3 k5 newId)
open PySem.W in
structure XCls (K:au)(C:ak):Prop where
 ga:findIn K (.ref C) "__getattribute__" = some (some (.builtin "BaseException.__getattribute__"))
 gt:findIn K (.ref C) "__getattr__" = some none
 fc:findObj K C none "__class__" = some (.bind (.builtin "getset_descriptor.__get__") (.builtin "object.__class__"))
 ob:PySem.W.mroIn K C (.type "object")=some true
 bs:subIn K (.ref C) (.type "BaseException")=some true
abbrev Xa (A:az):az:={ A with handled:=none }
abbrev ZC (k:Nat)(A:az):Prop:=Room k (Xa A)
structure Hnd (A:az)(H:Hp)(e:ak)(oe:Obj)(C:ak):Prop where
 hh:A.handled=some (.ref e)
 h0:H e=some (.frz oe xu)
 xo:XO C oe
structure FnOkH (P:aj)(w:ah)(K:au)(mg:Str->bi)(base:aq)(k:Nat)(f:ak)(fd:FuncData)(ps:ar)(sp:Sp):Prop where
 len:∀vs H Q E,sp vs H Q E->vs.length=ps.length
 run:∀(A:az) (outer:List Env) (s:aA) (H:Hp) (args:Args) (us:ba) (vs:List V) (Q:VK) (e:ak) (oe:Obj) (C:ak),ZC k A->Hnd A H e oe C->Env0 P w K mg base A outer s H->BindsTo s fd args (ps.zip us)->Vals vs us->sp vs H Q E0 ->
  codeAny (model P w) A (.call (.ref f) args) (CR oU outer P w H s Q E0) s
def Np{X:Cx}{i:Nat}{spos:Pos}{iter:aC}{N:ar}{wi:TI}{g:TG}{tc:TT}{te:TE}
  (hN:X.N.Nodup) (hi':X.N[i]?=some y) (hx:Loc X.env.scope y) (hc:X.calm=true) (S:CpScope X scope N cap) (hi:PI X tg iter wi)
  (hg:∀C s₀ H₀ ex,PG (lz X scope N C s₀ H₀ ex) tg g) (ht:∀C s₀ H₀ ex,Sa (lz X scope N C s₀ H₀ ex) ifs tc) (he:∀C s₀ H₀ ex,PE (lz X scope N C s₀ H₀ ex) elt te)
  (hsw:swapsWith (.ListComp elt [⟨tg,iter,ifs,0⟩] scope pos) (some (.Name y py)) spos.line X.env=pure true)
  (hf:X.fn y=true\/X.env.scope.names.lookup y=some .local) (hs:∀x,foldedSetIterable iter X.env x=pure x:=by intro _;rfl) :
  PS X (.Assign [.Name y py] (.ListComp elt [⟨tg,iter,ifs,0⟩] scope pos) spos) (UA (tLC cap wi g tc te) (Nm i)):=by
 intro pins s σ H D I h;rw[exec_Assign_Name_used _ _ _ _ hsw];refine aG (fB (aG ?_))
 skip
 refine aG (f7 (JL (ok:=λY=>Y.calm=true) (Q':=λ_ s'=>SP X pins D .next s') S (λ_ _ _ _ _=>hc) (PI.g hi) hg ht he hs pins s σ H _ I h ?_) (λ_ s' hq=>aP (aP hq)) λ_ _ e=>e);intro s6 C Dd H5 m hn fk inv q v;have Ia:=inv s6.heap (Heap.SameBut.refl _ _);obtain⟨oC,hoC⟩:∃o,s6.heap.get? C=some o/\∀v,o.data≠.cell v:=by
  obtain⟨o,es,ep,e,d,_⟩:=hn;exact⟨o,e,λv z=>by rw[d]at z;cases z⟩
 have Ip:=Ia.pinned (fp:=[C]) (λb hb=>by rw[aS]at hb;rw[hb];exact fk) (λb hb=>by rw[aS]at hb;rw[hb];exact⟨oC,hoC⟩)
 skip
 refine mP (Kg hN hi' hx hf _ s6 σ H5 (.ref Dd) (.ref Dd) _ Ip rfl q) λ_ s7 h9=>?_;obtain⟨σ7,H7,I7,q7⟩:=h9;have hp:=I7.pin (C,oC) (bG _ (bG _ (l_ (aS.mpr rfl) hoC.1)));refine⟨m,hn.at' λo e=>by rw[hoC.1]at e;cases e;exact hp.1,λh' sb=>?_⟩;have nC:∀c v,H7 c=some v->c≠C:=λc v e z=>by rw[z,hp.2.1]at e;cases e
 refine⟨σ7,H7,?_,q7⟩;refine I7.q_.Rz (ch:=[C]) rfl ⟨λb o e n hb hx=>?_,λb o e n hb hx=>?_,λb o e n hx=>n,λb o e hx=>?_,λ_ _ e=>e,λ_ _ _ e=>e,λ_ _ e=>⟨#[],by rw[Array.append_empty];exact e⟩⟩ ?_ I7.bare ?_
 ·exact sb.extBut b o (by simpa using hx) e
 ·exact⟨o.slots,sb.extBut b o (by simpa using hx) e⟩
 ·exact⟨o,sb.extBut b o (by simpa using hx) e⟩
 ·intro b o e;refine(I7.hok b o e).stay (λc v hc q=>sb.extBut c v ?_ q) (λ_ q=>q) λ_ _ q=>q
  rcases hc with z|z
  ·rw[z];exact nC b o e
  ·exact nC c _ z
 ·intro b hb;rw[aS]at hb;rw[hb];exact⟨fk.2.2.2.1,fk.2.1,fk.2.2.2.2.1,fk.2.2.2.2.2⟩
end L2
namespace Sx
open PySem PyProof.Rows
structure Ord where
 lt:Nat->Nat->Bool
 MV:∀i,lt i i=false
 tr:∀i j k,lt i j=true->lt j k=true->lt i k=true
 neg:∀i j k,lt i k=true->lt i j=true\/lt j k=true
abbrev P (o:Ord)(i j:Nat):Prop:=o.lt i j=true\/(o.lt j i=false/\i<j)
def Ord.abX(o:Ord)(h:o.lt i j=true):o.lt j i=false:=by
 cases e:o.lt j i with
 | false=>rfl
 | true=>have:=o.tr _ _ _ h e;rw[o.MV]at this;cases this
def P.MV(h:P o i i):False:=by
 rcases h with h|⟨_,h⟩
 ·rw[o.MV]at h;cases h
 ·lia
def P.trans{k:Nat}(a:P o i j)(b:P o j k):P o i k:=by
 rcases a with a|⟨a,a'⟩
 ·rcases b with b|⟨b,b'⟩
  ·exact .inl (o.tr _ _ _ a b)
  ·rcases o.neg i k j a with z|z
   ·exact .inl z
   ·rw[b]at z;cases z
 ·rcases b with b|⟨b,b'⟩
  ·rcases o.neg j i k b with z|z
   ·rw[a]at z;cases z
   ·exact .inl z
  ·refine .inr ⟨?_,()⟩
   cases e:o.lt k i with
   | false=>rfl
   | true=>
    rcases o.neg k j i e with z|z
    ·rw[b]at z;cases z
    ·rw[a]at z;cases z
def P.of_lt{o:Ord}(h:o.lt i j=true):P o i j:=.inl h
def P.zS{o:Ord}(h:o.lt j i=false)(hij:i<j):P o i j:=.inr ⟨h,hij⟩
def P.lt{o:Ord}(h:P o i j)(hij:j<i):o.lt i j=true:=by
 rcases h with h|⟨_,h⟩
 ·exact h
 ·lia
def P.ge{o:Ord}(h:P o i j):o.lt j i=false:=by
 rcases h with h|⟨h,_⟩
 ·exact o.abX h
 ·exact h
abbrev So (o:Ord)(g:Nat->Nat)(a b:Nat):Prop:=∀i j,a<=i->i<j->j<b->P o (g i) (g j)
abbrev Cl (g:Nat->Nat)(a b:Nat):Prop:=∀i,a<=i->i<b->a<=g i/\g i<b
abbrev rev (g:Nat->Nat)(i j:Nat):Nat->Nat:=λk=>if i<=k/\k<j then g (i+j-1-k)else g k
abbrev mv (g:Nat->Nat)(src dst:Nat):Nat->Nat:=λk=>if k=dst then g src else if dst<k/\k<=src then g (k-1)else g k
def A4{g:Nat->Nat}{k:Nat}(h:i<=k)(h2:k<j):rev g i j k=g (i+j-1-k):=aK ⟨h,h2⟩
def qy{g:Nat->Nat}{k:Nat}(h:k<i\/j<=k):rev g i j k=g k:=aJ ()
def Ov{g:Nat->Nat}:mv g s d d=g s:=aK rfl
def FT{g:Nat->Nat}{k:Nat}(h:d<k)(h2:k<=s):mv g s d k=g (k-1):=by
 unfold mv;rw[aJ (),aK ⟨h,h2⟩]
def Ej{g:Nat->Nat}{k:Nat}(hd:d<=s)(h:k<d\/s<k):mv g s d k=g k:=by
 unfold mv;rw[aJ (),aJ ()]
section
variable {prog:aj}{w:ah}{A:az}{E:af->aA->Prop}{s:aA}{o:Ord}{N:Nat}{f:Nat->Keyed}{kd:SortKind}{g:Nat->Nat}{p:Array (Nat×Nat×Nat)}{st:SortSt}
abbrev Dh (prog:aj)(w:ah)(A:az)(s:aA)(o:Ord)(N:Nat)(f:Nat->Keyed)(kd:SortKind):Prop:=
 ∀i j,i<N->j<N->∀(E':af->aA->Prop) (Q:Bool->aA->Prop),Q (o.lt i j) s->wpAny (model prog w) A (keyLt' kd (f i).1 (f j).1) Q E' s
structure Sg (N:Nat)(f:Nat->Keyed)(kd:SortKind)(g:Nat->Nat)(p:Array (Nat×Nat×Nat))(st:SortSt):Prop where
 size:(arrOf st).size=N
 get:∀i,i<N->(arrOf st)[i]?=some (f (g i))
 lt:∀i,i<N->g i<N
 kind:kindOf st=kd
 failed:failedOf st=none
 pend:pendingOf st=p
def A7(C:Dh prog w A s o N f kd)(hk:kindOf st=kd)(hi:i<N)(hj:j<N){Q:bn->SortSt->Prop}(q:Q (some (o.lt i j)) st):wpS (model prog w) A E s (lt' (f i) (f j)) Q st:=by
 rw[lt'_eq];refine aZ (gW ?_);rw[hk];refine aZ (wpS_lift (wpAny_attempt (C i j hi hj _ _ ⟨rfl,?_⟩)));exact bz q
def j3{xs:Array Keyed}{i:Nat}{x:Keyed}(e:xs[i]?=some x){Q:Keyed->SortSt->Prop}(q:Q x st):wpS (model prog w) A E s (elem' xs i) Q st:=by
 rw[elem'_eq,e];exact bz q
def x_(C:Dh prog w A s o N f kd)(h:Sg N f kd g p st)(hi:i<N)(hj:j<N){Q:bn->SortSt->Prop}(q:Q (some (o.lt (g i) (g j))) st):wpS (model prog w) A E s (ltAt' i j) Q st:=by
 rw[ltAt'_eq];refine aZ (gW ?_)
 skip
 exact aZ (j3 (h.get i hi) (aZ (j3 (h.get j hj) (A7 C h.kind (h.lt i hi) (h.lt j hj) q))))
def Sg.arr(h:Sg N f kd g p st){xs:Array Keyed}{g':Nat->Nat}(hs:xs.size=N)(hg:∀i,i<N->xs[i]?=some (f (g' i)))(hl:∀i,i<N->g' i<N):Sg N f kd g' p (setArr st xs):=⟨hs,hg,hl,h.kind,h.failed,h.pend⟩
def Ao(h:Sg N f kd g p st)(hj:j<=N){Q:Unit->SortSt->Prop}(q:∀st',Sg N f kd (rev g i j) p st'->Q Unit.unit st'):wpS (model prog w) A E s (reverseSlice' i j) Q st:=by
 rw[reverseSlice'_eq];refine fR (q _ (h.arr (by rw[mirror_size];exact h.size) (λk hk=>?_) λk hk=>?_))
 ·rw[getElem?_mirror_all (by rw[h.size];exact hj)];unfold rev;by_cases c:i<=k/\k<j
  ·rw[aK c,aK c];exact h.get _ (by omega)
  ·rw[aJ c,aJ c];exact h.get _ hk
 ·unfold rev;by_cases c:i<=k/\k<j
  ·rw[aK c];exact h.lt _ (by omega)
  ·rw[aJ c];exact h.lt _ hk
def W9(h:Sg N f kd g p st){a:Nat}(ha:a<N)(hb:b<=a){Q:Unit->SortSt->Prop}(q:∀st',Sg N f kd (mv g a b) p st'->Q Unit.unit st'):wpS (model prog w) A E s (moveDown' a b) Q st:=by
 rw[moveDown'_eq];refine fR (q _ (h.arr (by rw[bubble_size];exact h.size) (λk hk=>?_) λk hk=>?_))
 ·rw[getElem?_bubble (by rw[h.size];exact ha) _ (),show a-(a-b)=b by lia];unfold mv;by_cases c:k=b
  ·rw[aK c,aK c];exact h.get _ ha
  ·rw[aJ c,aJ c];by_cases c2:b<k/\k<=a
   ·rw[aK c2,aK c2];exact h.get _ ()
   ·rw[aJ c2,aJ c2];exact h.get _ hk
 ·unfold mv;by_cases c:k=b
  ·rw[aK c];exact h.lt _ ha
  ·rw[aJ c];by_cases c2:b<k/\k<=a
   ·rw[aK c2];exact h.lt _ ()
   ·rw[aJ c2];exact h.lt _ hk
structure Rn (o:Ord)(g0 g:Nat->Nat)(a b:Nat):Prop where
 out:∀i,i<a\/b<=i->g i=g0 i
 cl:Cl g a b
 so:So o g a b
def Xe{g0:Nat->Nat}{lo k l:Nat}(R:Rn o g0 g lo (lo+k))(hk:g (lo+k)=lo+k)(hl:l<=k)(h1:∀i,i<l->P o (g (lo+i)) (lo+k))(h2:∀i,l<=i->i<k->P o (lo+k) (g (lo+i))):Rn o g0 (mv g (lo+k) (lo+l)) lo (lo+(k+1)) where
 out i hi:=by rw[Ej () ()];exact R.out i ()
 cl i a b:=by
  by_cases c:i=lo+l
  ·subst c;rw[Ov,hk];lia
  ·by_cases c2:lo+l<i
   ·rw[FT c2 ()];have:=R.cl (i-1) () ()
    lia
   ·rw[Ej () ()];have:=R.cl i () ()
    lia
 so i j a b d:=by
  by_cases c:i=lo+l
  ·subst c;rw[Ov,FT b (),hk];have:=h2 (j-1-lo) () ()
   rwa [show lo+(j-1-lo)=j-1 by lia]at this
  ·by_cases c2:lo+l<i
   ·rw[FT c2 (),FT () ()];exact R.so _ _ () () ()
   ·rw[Ej (k:=i) () ()];by_cases c3:j=lo+l
    ·subst c3;rw[Ov,hk];have:=h1 (i-lo) ()
     rwa [show lo+(i-lo)=i by lia]at this
    ·by_cases c4:lo+l<j
     ·rw[FT c4 ()];exact R.so _ _ () () ()
     ·rw[Ej () ()];exact R.so _ _ () () ()
def Xu(C:Dh prog w A s o N f kd){g0:Nat->Nat}{lo n ok:Nat}(h:Sg N f kd g p st)(hn:lo+n<=N)(h1:1<=ok)(hok:ok<=n)(R:Rn o g0 g lo (lo+ok))(hid:∀i,lo+ok<=i->i<lo+n->g0 i=i)
  {Q:Bool->SortSt->Prop} (q:∀g' st',Sg N f kd g' p st'->Rn o g0 g' lo (lo+n)->Q true st'):wpS (model prog w) A E s (binarySort' lo n ok) Q st:=by
 rw[binarySort'_eq,show max ok 1=ok by lia];refine aZ (eE (cO (I:=λk c st'=>c=(none,Unit.unit)/\∃g',Sg N f kd g' p st'/\Rn o g0 g' lo (lo+min k n))
  (Q:=λc st'=>c=(none,Unit.unit)/\∃g',Sg N f kd g' p st'/\Rn o g0 g' lo (lo+n)) ?step ?fin ?init) ?post)
 case post=>
  rintro c st' ⟨rfl,g',h',R'⟩;exact bz (q g' st' h' R')
 case init=>exact⟨rfl,g,h,by rw[show min ok n=ok by lia];exact R⟩
 case fin=>
  rintro c st' ⟨hc,g',h',R'⟩;exact⟨hc,g',h',by rwa [show min (max ok n) n=n by lia]at R'⟩
 case step=>
  rintro k c st' hak hkn ⟨rfl,g',h',R'⟩;rw[show min k n=k by lia]at R';have gk:g' (lo+k)=lo+k:=by rw[R'.out _ ()];exact hid _ () ()
  refine aZ (eE (cO (I:=λx c s2=>s2=st'/\∃u v,c=(none,u,v)/\u<=v/\v<=k/\v-u<=k-x /\
    (∀i,i<u->P o (g' (lo+i)) (lo+k))/\(∀i,v<=i->i<k->P o (lo+k) (g' (lo+i))))
   (Q:=λc s2=>s2=st'/\∃u v,c=(none,u,v)/\u<=k /\
    (∀i,i<u->P o (g' (lo+i)) (lo+k))/\(∀i,u<=i->i<k->P o (lo+k) (g' (lo+i)))) ?istep ?ifin ?iinit) ?ipost)
  case iinit=>exact⟨rfl,0,k,rfl,(),(),(),λi hi=>(),λi h1 h2=>()⟩
  case ifin=>
   rintro c s2 ⟨rfl,u,v,rfl,huv,hvk,hm,low,top⟩;have:u=v:=()
   subst this;exact⟨rfl,u,u,rfl,hvk,low,top⟩
  case istep=>
   rintro x c s2 _ hxk ⟨rfl,u,v,rfl,huv,hvk,hm,low,top⟩;dsimp only;by_cases hge:u>=v
   ·rw[aK hge];have:u=v:=()
    subst this;exact bz ⟨rfl,u,u,rfl,hvk,low,top⟩
   ·rw[aJ hge];have hmk:(u+v) / 2<k:=()
    have gm:=R'.cl (lo+(u+v) / 2) () ();refine aZ (x_ C h' () () ?_);rw[gk]
    cases hless:o.lt (lo+k) (g' (lo+(u+v) / 2))
    case true=>
     dsimp[cZ];refine bz ⟨rfl,u,(u+v) / 2,rfl,(),(),(),low,λi h1 h2=>?_⟩;by_cases c:i=(u+v) / 2
     ·subst c;exact .inl hless
     ·exact(P.of_lt hless).trans (R'.so _ _ () () ())
    case false=>
     dsimp[bA,cg];refine bz ⟨rfl,(u+v) / 2+1,v,rfl,(),(),(),λi h1=>?_,top⟩;have last:=P.zS hless gm.2;by_cases c:i=(u+v) / 2
     ·subst c;exact last
     ·exact(R'.so _ _ () () ()).trans last
  case ipost=>
   rintro c s2 ⟨rfl,u,v,rfl,huk,low,top⟩;dsimp only;refine aZ (W9 h' () () λst3 h3=>?_);refine bz ⟨rfl,_,h3,?_⟩;rw[show min (k+1) n=k+1 by lia];exact Xe R' gk huk low top
end
meta abbrev As:=Option (bp)×Nat
meta abbrev Ds:=Option (bp)×Nat×Nat
abbrev Nc (lo a nrem:Nat):StateT SortSt Sem As:=
 forIn [a:nrem] ((none,a):As) λ_ c=>do
  let x <- ltAt' (lo+c.2) (lo+c.2-1)
  match x with
  | some b=>if b=true then pure (ForInStep.done (none,c.2))else pure (ForInStep.yield (none,c.2+1))
  | _=>pure (ForInStep.done (some none,c.2))
abbrev F1 (lo n nrem:Nat):StateT SortSt Sem (bp):=do
 reverseSlice' lo (lo+n)
 let c <- Nc lo n nrem
 match c.1 with
 | some r=>pure r
 | none=>pure (some c.2)
abbrev Sw (lo n nrem:Nat):StateT SortSt Sem Ds:=
 forIn [n:nrem] ((none,n,0):Ds) λ_ c=>do
  let x <- ltAt' (lo+c.2.1) (lo+c.2.1-1)
  match x with
  | some b=>
   if b=true then
    if c.2.2>0 then do
     reverseSlice' (lo+c.2.1-(c.2.2+1)) (lo+c.2.1)
     pure (ForInStep.yield (none,c.2.1+1,0))
    else pure (ForInStep.yield (none,c.2.1+1,0))
   else do
    let x <- ltAt' (lo+c.2.1-1) (lo+c.2.1)
    match x with
    | some b=>
     if b=true then pure (ForInStep.done (none,c.2.1,c.2.2))
     else pure (ForInStep.yield (none,c.2.1+1,c.2.2+1))
    | _=>pure (ForInStep.done (some none,c.2.1,c.2.2))
  | _=>pure (ForInStep.done (some none,c.2.1,c.2.2))
abbrev O0 (lo n nrem:Nat):StateT SortSt Sem (bp):=do
 liftM (rule "list.sort.descending-run")
 let c <- Sw lo (n+1) nrem
 match c.1 with
 | some r=>pure r
 | none=>
  if c.2.2>0 then do
   reverseSlice' (lo+c.2.1-(c.2.2+1)) (lo+c.2.1)
   F1 lo c.2.1 nrem
  else F1 lo c.2.1 nrem
def count_eq(lo nrem:Nat):countRun' lo nrem=(do
  let c <- Nc lo 1 nrem
  match c.1 with
  | some r=>pure r
  | none=>
   if (c.2 == nrem)=true then pure (some c.2)
   else if c.2>1 then do
    let x <- ltAt' lo (lo+c.2-1)
    match x with
    | some b=>if b=true then pure (some c.2)else do
      reverseSlice' lo (lo+c.2)
      O0 lo c.2 nrem
    | _=>pure none
   else O0 lo c.2 nrem):=by
 rw[countRun'_eq];dsimp only;unfold O0 F1 Sw Nc;congr 1
 funext c
 obtain⟨r,n⟩:=c
 cases r with
 | some r=>rfl
 | none=>
  dsimp only;split
  ·rfl
  ·split
   ·congr 1
    funext x
    cases x with
    | none=>rfl
    | some b=>
     dsimp only;split
     ·rfl
     ·congr 1
      funext _r
      congr 1
      funext _u
      congr 1;congr 1
      funext s2
      obtain⟨r2,n2,q2⟩:=s2
      cases r2 with
      | some r2=>rfl
      | none=>
       dsimp only;split
       ·congr 1
        funext _v
        congr 1
        funext _w
        congr 1
        funext s3
        obtain⟨r3,n3⟩:=s3
        cases r3<;>rfl
       ·congr 1
        funext _w
        congr 1
        funext s3
        obtain⟨r3,n3⟩:=s3
        cases r3<;>rfl
   ·congr 1
    funext _u
    congr 1;congr 1
    funext s2
    obtain⟨r2,n2,q2⟩:=s2
    cases r2 with
    | some r2=>rfl
    | none=>
     dsimp only;split
     ·congr 1
      funext _v
      congr 1
      funext _w
      congr 1
      funext s3
      obtain⟨r3,n3⟩:=s3
      cases r3<;>rfl
     ·congr 1
      funext _w
      congr 1
      funext s3
      obtain⟨r3,n3⟩:=s3
      cases r3<;>rfl
section
variable {prog:aj}{w:ah}{A:az}{E:af->aA->Prop}{s:aA}{o:Ord}{N:Nat}{f:Nat->Keyed}{kd:SortKind}{g g0:Nat->Nat}{p:Array (Nat×Nat×Nat)}{st:SortSt}
def Rn.snoc{a:Nat}(R:Rn o g0 g a b)(hab:a<b)(hb:g b=b)(h:o.lt b (g (b-1))=false):Rn o g0 g a (b+1) where
 out i hi:=R.out i ()
 cl i h1 h2:=by
  by_cases c:i=b
  ·subst c;lia
  ·have:=R.cl i h1 ();lia
 so i j h1 h2 h3:=by
  by_cases c:j=b
  ·subst c;rw[hb];have l:=R.cl (j-1) () ();have last:P o (g (j-1)) j:=P.zS h l.2;by_cases c2:i=j-1
   ·subst c2;exact last
   ·exact(R.so i (j-1) h1 () ()).trans last
  ·exact R.so i j h1 h2 ()
def Rc(C:Dh prog w A s o N f kd){lo a:Nat}(h:Sg N f kd g p st)(hn:lo+nrem<=N)(h1:1<=a)(han:a<=nrem)(R:Rn o g0 g lo (lo+a))(hid:∀i,lo+a<=i->i<lo+nrem->g0 i=i)
  {Q:As->SortSt->Prop} (q:∀n,a<=n->n<=nrem->Rn o g0 g lo (lo+n)->(n=nrem\/o.lt (lo+n) (g (lo+n-1))=true)->Q (none,n) st):wpS (model prog w) A E s (Nc lo a nrem) Q st:=by
 unfold Nc;refine cO (I:=λx c st'=>st'=st/\c=(none,x)/\Rn o g0 g lo (lo+x)) ?step ?fin ⟨rfl,rfl,R⟩
 case fin=>
  rintro c st' ⟨rfl,rfl,R'⟩;rw[show max a nrem=nrem by lia]at R' ⊢;exact q nrem han (aR _) R' (.inl rfl)
 case step=>
  rintro x c st' hax hxn ⟨rfl,rfl,R'⟩;dsimp only;have gx:g (lo+x)=lo+x:=by rw[R'.out _ ()];exact hid _ () ()
  refine aZ (x_ C h () () ?_);rw[gx]
  cases hl:o.lt (lo+x) (g (lo+x-1))
  case true=>
   dsimp[cZ];exact bz (q x hax () R' (.inr hl))
  case false=>
   dsimp[bA,cg];exact bz ⟨rfl,rfl,R'.snoc () gx hl⟩
structure Dc (o:Ord)(g0 g:Nat->Nat)(a b q:Nat):Prop where
 out:∀i,i<a\/b<=i->g i=g0 i
 cl:Cl g a b
 few:a+(q+1)<=b
 dn:∀i j,a<=i->i<j->j<b->i<b-(q+1)->P o (g j) (g i)
 id:∀i,b-(q+1)<=i->i<b->g i=i
 al:∀i j,b-(q+1)<=i->i<b->b-(q+1)<=j->j<b->o.lt i j=false
def Dc.turn{a q:Nat}(D:Dc o g0 g a b q):(∀i,i<a\/b<=i->rev g (b-(q+1)) b i=g0 i)/\Cl (rev g (b-(q+1)) b) a b/\(∀i j,a<=i->i<j->j<b->P o (rev g (b-(q+1)) b j) (rev g (b-(q+1)) b i))/\(∀i,b-(q+1)<=i->i<b->∃k,rev g (b-(q+1)) b i=k/\b-(q+1)<=k/\k<b):=by
 have few:=D.few;have inn:∀i,b-(q+1)<=i->i<b->rev g (b-(q+1)) b i=b-(q+1)+b-1-i:=λi h1 h2=>by
  rw[A4 h1 h2];exact D.id _ (by omega) (by omega)
 refine⟨λi hi=>?_,λi h1 h2=>?_,λi j h1 h2 h3=>?_,λi h1 h2=>⟨_,inn i h1 h2,by omega,by omega⟩⟩
 ·rw[qy (by omega)];exact D.out i hi
 ·by_cases c:i<b-(q+1)
  ·rw[qy (by omega)];exact D.cl i h1 h2
  ·rw[inn i (by omega) h2];omega
 ·by_cases c:i<b-(q+1)
  ·rw[qy (k:=i) (by omega)];by_cases c2:j<b-(q+1)
   ·rw[qy (by omega)];exact D.dn i j h1 h2 h3 c
   ·rw[inn j (by omega) h3];have:=D.dn i (b-(q+1)+b-1-j) h1 (by omega) (by omega) c
    rwa [D.id _ (by omega) (by omega)]at this
  ·rw[inn i (by omega) (by omega),inn j (by omega) h3];exact P.zS (D.al _ _ (by omega) (by omega) (by omega) (by omega)) (by omega)
abbrev Fin (o:Ord)(g0 g:Nat->Nat)(a b:Nat):Prop:=(∀i,i<a\/b<=i->g i=g0 i)/\Cl g a b/\(∀i j,a<=i->i<j->j<b->P o (g j) (g i))
def Dc.F2{a:Nat}(D:Dc o g0 g a b 0):Fin o g0 g a b:=⟨D.out,D.cl,λi j h1 h2 h3=>D.dn i j h1 h2 h3 ()⟩
def Fin.rn{a:Nat}(D:Fin o g0 g a b):Rn o g0 (rev g a b) a b where
 out i hi:=by rw[qy hi];exact D.1 i hi
 cl i h1 h2:=by
  rw[A4 h1 h2];exact D.2.1 _ () ()
 so i j h1 h2 h3:=by
  rw[A4 h1 (),A4 () h3];exact D.2.2 _ _ () () ()
def Fin.add{a:Nat}(D:Fin o g0 g a b)(hb:g b=b)(hab:a<b)(h:∀i,a<=i->i<b->P o b (g i)):Dc o g0 g a (b+1) 0 where
 out i hi:=D.1 i ()
 cl i h1 h2:=by
  by_cases c:i=b
  ·subst c;lia
  ·have:=D.2.1 i h1 ();lia
 few:=()
 dn i j h1 h2 h3 _:=by
  by_cases c:j=b
  ·subst c;rw[hb];exact h i h1 h2
  ·exact D.2.2 i j h1 h2 ()
 id i h1 h2:=by
  have:i=b:=()
  rw[this,hb]
 al i j h1 h2 h3 h4:=by
  have:i=j:=()
  rw[this];exact o.MV _
def Jw(C:Dh prog w A s o N f kd){lo n:Nat}(h:Sg N f kd g p st)(hn:lo+nrem<=N)(h1:1<=n)(han:n<=nrem)(D:Fin o g0 g lo (lo+n))(hid:∀i,lo<=i->i<lo+nrem->g0 i=i)
  {Q:bp->SortSt->Prop} (q:∀m g' st',Sg N f kd g' p st'->1<=m->m<=nrem->Rn o g0 g' lo (lo+m)->Q (some m) st'):wpS (model prog w) A E s (F1 lo n nrem) Q st:=by
 unfold F1;refine aZ (Ao h () λst2 h2=>?_);exact aZ (Rc C h2 hn h1 han D.rn (λi a b=>hid i () b) λm hm1 hm2 R _=>bz (q m _ _ h2 () hm2 R))
def XQ(C:Dh prog w A s o N f kd){lo n:Nat}(h:Sg N f kd g p st)(hn:lo+nrem<=N)(h1:1<=n)(han:n<=nrem)(D:Dc o g0 g lo (lo+n) 0)(hid:∀i,lo<=i->i<lo+nrem->g0 i=i)
  {Q:Ds->SortSt->Prop} (q:∀m e g' st',Sg N f kd g' p st'->1<=m->m<=nrem->Dc o g0 g' lo (lo+m) e->Q (none,m,e) st'):wpS (model prog w) A E s (Sw lo n nrem) Q st:=by
 unfold Sw;refine cO (I:=λx c st'=>∃e g',c=(none,x,e)/\Sg N f kd g' p st'/\Dc o g0 g' lo (lo+x) e) ?step ?fin ⟨0,g,rfl,h,D⟩
 case fin=>
  rintro c st' ⟨e,g',rfl,h',D'⟩;rw[show max n nrem=nrem by lia]at D' ⊢;exact q nrem e g' st' h' () (aR _) D'
 case step=>
  rintro x c st' hax hxn ⟨e,g',rfl,h',D'⟩;dsimp only;have few:=D'.few;have gx:g' (lo+x)=lo+x:=by rw[D'.out _ ()];exact hid _ () ()
  have gy:g' (lo+x-1)=lo+x-1:=D'.id _ () ();refine aZ (x_ C h' () () ?_);rw[gx,gy]
  cases hl:o.lt (lo+x) (lo+x-1)
  case true=>
   dsimp[cZ];by_cases he:e>0
   ·rw[aK he];obtain⟨t1,t2,t3,t4⟩:=D'.turn;refine aZ (Ao h' () λst2 h2=>bz ⟨0,_,rfl,h2,?_⟩);refine Fin.add (b:=lo+x) ⟨t1,t2,t3⟩ (by rw[qy ()];exact gx) () λi a b=>?_;by_cases c:lo+x-(e+1)<=i
    ·obtain⟨k,ek,k1,k2⟩:=t4 i c b;rw[ek]
     rcases o.neg _ k _ hl with z|z
     ·exact .inl z
     ·rw[D'.al _ _ k1 k2 () ()]at z;cases z
    ·rw[qy ()];have:=D'.dn i (lo+x-1) a () () ();rw[gy]at this;exact(P.of_lt hl).trans this
   ·rw[aJ he];have:e=0:=()
    subst this;refine bz ⟨0,_,rfl,h',Fin.add (b:=lo+x) D'.F2 gx () λi a b=>?_⟩;by_cases c:i=lo+x-1
    ·subst c;rw[gy];exact .inl hl
    ·have:=D'.dn i (lo+x-1) a () () ();rw[gy]at this;exact(P.of_lt hl).trans this
  case false=>
   dsimp[bA,cg];refine aZ (x_ C h' () () ?_);rw[gx,gy]
   cases hg:o.lt (lo+x-1) (lo+x)
   case true=>
    dsimp[cZ];exact bz (q x e g' st' h' () () D')
   case false=>
    dsimp[bA,cg];refine bz ⟨e+1,g',rfl,h',?_⟩;have eq1:∀i,lo+x-(e+1)<=i->i<lo+x->o.lt i (lo+x)=false/\o.lt (lo+x) i=false:=λi a b=>by
     constructor
     ·cases z:o.lt i (lo+x)with
      | false=>rfl
      | true=>
       rcases o.neg _ (lo+x-1) _ z with y|y
       ·rw[D'.al _ _ a b () ()]at y;cases y
       ·rw[hg]at y;cases y
     ·cases z:o.lt (lo+x) i with
      | false=>rfl
      | true=>
       rcases o.neg _ (lo+x-1) _ z with y|y
       ·rw[hl]at y;cases y
       ·rw[D'.al _ _ () () a b]at y;cases y
    exact {
     out:=λi hi=>D'.out i ()
     cl:=λi a b=>by
      by_cases c:i=lo+x
      ·subst c;lia
      ·have:=D'.cl i a ();lia
     few:=()
     dn:=λi j a b c d=>by
      by_cases z:j=lo+x
      ·subst z;rw[gx];have y:=D'.dn i (lo+x-1) a () () ();rw[gy]at y;have gi:=D'.cl i a ()
       rcases y with y|⟨_,y⟩
       ·rcases o.neg _ (lo+x) _ y with v|v
        ·rw[hg]at v;cases v
        ·exact .inl v
       ·lia
      ·exact D'.dn i j a b () ()
     id:=λi a b=>by
      by_cases z:i=lo+x
      ·subst z;exact gx
      ·exact D'.id i () ()
     al:=λi j a b c d=>by
      by_cases z:i=lo+x
      ·subst z;by_cases y:j=lo+x
       ·subst y;exact o.MV _
       ·exact(eq1 j () ()).2
      ·by_cases y:j=lo+x
       ·subst y;exact(eq1 i () ()).1
       ·exact D'.al i j () () () ()}
def KZ(C:Dh prog w A s o N f kd){lo n:Nat}(h:Sg N f kd g p st)(hn:lo+nrem<=N)(han:n+1<=nrem)(D:Dc o g0 g lo (lo+(n+1)) 0)(hid:∀i,lo<=i->i<lo+nrem->g0 i=i)
  {Q:bp->SortSt->Prop} (q:∀m g' st',Sg N f kd g' p st'->1<=m->m<=nrem->Rn o g0 g' lo (lo+m)->Q (some m) st'):wpS (model prog w) A E s (O0 lo n nrem) Q st:=by
 unfold O0;refine aZ (wpS_lift (eS ⟨rfl,?_⟩));refine aZ (XQ C h hn () han D hid λm e g' st' h' m1 m2 D'=>?_);dsimp only;by_cases he:e>0
 ·rw[aK he];obtain⟨t1,t2,t3,_⟩:=D'.turn;exact aZ (Ao h' () λst2 h2=>Jw C h2 hn m1 m2 ⟨t1,t2,t3⟩ hid q)
 ·rw[aJ he];have:e=0:=()
  subst this;exact Jw C h' hn m1 m2 D'.F2 hid q
def Ot(C:Dh prog w A s o N f kd){lo:Nat}(h:Sg N f kd g p st)(hn:lo+nrem<=N)(h1:1<=nrem)(hid:∀i,lo<=i->i<lo+nrem->g i=i)
  {Q:bp->SortSt->Prop} (q:∀m g' st',Sg N f kd g' p st'->1<=m->m<=nrem->Rn o g g' lo (lo+m)->Q (some m) st'):wpS (model prog w) A E s (countRun' lo nrem) Q st:=by
 rw[count_eq];refine aZ (Rc C h hn (aR 1) h1 (g0:=g) ⟨λ_ _=>rfl,λi a b=>?_,λi j a b c=>()⟩ (λi a b=>hid i () b) λn n1 n2 R hor=>?_)
 ·have:i=lo:=()
  subst this;rw[hid i (aR _) ()];lia
 dsimp only;by_cases hnn:n=nrem
 ·rw[aK (by simpa using hnn)];exact bz (q n g st h n1 n2 R)
 ·rw[aJ (by simpa using hnn)];have hlt:=hor.resolve_left hnn;rw[hid (lo+n-1) () ()]at hlt;have gn:g (lo+n)=lo+n:=hid _ () ();by_cases hgt:n>1
  ·rw[aK hgt];refine aZ (x_ C h () () ?_);rw[hid lo () (),hid (lo+n-1) () ()]
   cases hr:o.lt lo (lo+n-1)
   case true=>
    dsimp[cZ];exact bz (q n g st h n1 n2 R)
   case false=>
    dsimp[bA,cg];have id':∀i,lo<=i->i<lo+n->g i=i:=λi a b=>hid i a ();have pp:∀i j,lo<=i->i<j->j<lo+n->o.lt i j=false/\o.lt j i=false:=λi j a b c=>by
     have r:=R.so i j a b c;rw[id' i a (),id' j () c]at r;refine⟨?_,r.ge⟩
     cases z:o.lt i j with
     | false=>rfl
     | true=>
      rcases o.neg _ lo _ z with y|y
      ·by_cases x:i=lo
       ·subst x;rw[o.MV]at y;cases y
       ·have r2:=R.so lo i () () ();rw[id' i a (),id' lo () ()]at r2;rw[r2.ge]at y;cases y
      ·rcases o.neg _ (lo+n-1) _ y with x|x
       ·rw[hr]at x;cases x
       ·by_cases v:j=lo+n-1
        ·subst v;rw[o.MV]at x;cases x
        ·have r2:=R.so j (lo+n-1) () () ();rw[id' j () c,id' (lo+n-1) () ()]at r2;rw[r2.ge]at x;cases x
    refine aZ (Ao h () λst2 h2=>KZ C h2 hn () ?_ hid q);have rin:∀i,lo<=i->i<lo+n->rev g lo (lo+n) i=lo+(lo+n)-1-i:=λi a b=>by rw[A4 a b];exact id' _ () ()
    refine Fin.add (b:=lo+n) ⟨λi hi=>qy hi,λi a b=>by rw[rin i a b];lia,λi j a b c=>?_⟩ (by rw[qy ()];exact gn) () λi a b=>?_
    ·rw[rin i a (),rin j () c];exact P.zS (pp _ _ () () ()).2 ()
    ·rw[rin i a b];by_cases x:lo+(lo+n)-1-i=lo+n-1
     ·rw[x];exact .inl hlt
     ·rcases o.neg _ (lo+(lo+n)-1-i) _ hlt with z|z
      ·exact .inl z
      ·rw[(pp _ _ () () ()).1]at z;cases z
  ·rw[aJ hgt];have:n=1:=()
   subst this;refine KZ C h hn () ?_ hid q;refine Fin.add (b:=lo+1) ⟨λi hi=>rfl,R.cl,λi j a b c=>()⟩ gn () λi a b=>?_;have:i=lo:=()
   subst this;rw[hid i () ()];rw[show i+1-1=i by lia]at hlt;exact .inl hlt
end
abbrev nj:Bool->Keyed->Array Keyed->Nat->Nat->Nat->StateT SortSt Sem (bp):=sortPriv% PySem.Builtin.gallop
abbrev X5 (ask:Nat->StateT SortSt Sem (bn))(n at0:Nat):StateT SortSt Sem (bp):=do
 let mut was:=0
 let mut far:=1
 let mut low:=0
 let mut top:=0
 let some yes <- ask at0|return none
 if yes then
  let most:=n-at0
  for _ in [0:n] do
   if far>=most then break
   let some ok <- ask (at0+far)|return none
   if !ok then break
   was:=far
   far:=2 * far+1
  low:=at0+was+1
  top:=at0+min far most
 else
  let most:=at0+1
  for _ in [0:n] do
   if far>=most then break
   let some hit <- ask (at0-far)|return none
   if hit then break
   was:=far
   far:=2 * far+1
  low:=at0+1-min far most
  top:=at0-was
 for _ in [0:n] do
  if low>=top then break
  let m:=low+(top-low) / 2
  let some ok <- ask m|return none
  if ok then low:=m+1 else top:=m
 return some top
def CJ(left:Bool)(key:Keyed)(arr:Array Keyed)(base n hint:Nat):nj left key arr base n hint=X5 (λi=>do
  let x <- elem' arr (base+i)
  if left then lt' x key else return (<- lt' key x).map (!·)) n hint:=rfl
section
variable {prog:aj}{w:ah}{A:az}{E:af->aA->Prop}{s:aA}{st:SortSt}
abbrev bsB (be:Nat->StateT SortSt Sem (bn))(n l0 h0:Nat):StateT SortSt Sem (bp):=do
 let mut low:=l0
 let mut top:=h0
 for _ in [0:n] do
  if low>=top then break
  let m:=low+(top-low) / 2
  let some ok <- be m|return none
  if ok then low:=m+1 else top:=m
 return some top
def VE{be:Nat->StateT SortSt Sem (bn)}{n h0:Nat}(b:Nat->Bool)(hbe:∀i,i<n->∀Q:bn->SortSt->Prop,Q (some (b i)) st->wpS (model prog w) A E s (be i) Q st)(hb:∀i j,i<=j->j<n->b j=true->b i=true)
  (hlh:l0<=h0) (hn:h0<=n) (hl:∀i,i<l0->b i=true) (hh:∀i,h0<=i->i<n->b i=false)
  {Q:bp->SortSt->Prop} (q:∀k,k<=n->(∀i,i<k->b i=true)->(∀i,k<=i->i<n->b i=false)->Q (some k) st):wpS (model prog w) A E s (bsB be n l0 h0) Q st:=by
 unfold bsB;refine aZ (eE (cO (I:=λx c st'=>st'=st/\∃lo hi,c=(none,lo,hi)/\lo<=hi/\hi<=n/\hi-lo<=n-x/\(∀i,i<lo->b i=true)/\(∀i,hi<=i->i<n->b i=false))
  (Q:=λc st'=>st'=st/\∃k,c=(none,k,k)/\k<=n/\(∀i,i<k->b i=true)/\(∀i,k<=i->i<n->b i=false)) ?step ?fin ⟨rfl,l0,h0,rfl,hlh,hn,(),hl,hh⟩) ?post)
 case post=>
  rintro c st' ⟨rfl,k,rfl,h1,h2,h3⟩;exact bz (q k h1 h2 h3)
 case fin=>
  rintro c st' ⟨rfl,lo,hi,rfl,h1,h2,h3,h4,h5⟩;have:lo=hi:=()
  subst this;exact⟨rfl,lo,rfl,h2,h4,h5⟩
 case step=>
  rintro x c st' _ hx ⟨rfl,lo,hi,rfl,h1,h2,h3,h4,h5⟩;dsimp only;by_cases hge:lo>=hi
  ·rw[aK hge];have:lo=hi:=()
   subst this;exact bz ⟨rfl,lo,rfl,h2,h4,h5⟩
  ·rw[aJ hge];have hm:lo+(hi-lo) / 2<hi:=()
   obtain⟨m,hm'⟩:∃m,m=lo+(hi-lo) / 2:=⟨_,rfl⟩;rw[<- hm']at hm ⊢;refine aZ (hbe m () _ ?_)
   cases hv:b m
   ·dsimp[bA,cg];refine bz ⟨rfl,lo,m,rfl,(),(),(),h4,λi a c=>?_⟩
    cases z:b i with
    | false=>rfl
    | true=>rw[hb m i a c z]at hv;cases hv
   ·dsimp[cZ];exact bz ⟨rfl,m+1,hi,rfl,(),h2,(),λi a=>hb i m () () hv,h5⟩
def IV{be:Nat->StateT SortSt Sem (bn)}{n:Nat}(b:Nat->Bool)(hbe:∀i,i<n->∀Q:bn->SortSt->Prop,Q (some (b i)) st->wpS (model prog w) A E s (be i) Q st)(hb:∀i j,i<=j->j<n->b j=true->b i=true)(hh:hint<n)
  {Q:bp->SortSt->Prop} (q:∀k,k<=n->(∀i,i<k->b i=true)->(∀i,k<=i->i<n->b i=false)->Q (some k) st):wpS (model prog w) A E s (X5 be n hint) Q st:=by
 unfold X5;have hb':∀i j,i<=j->j<n->b i=false->b j=false:=λi j a c d=>by
  cases z:b j with
  | false=>rfl
  | true=>rw[hb i j a c z]at d;cases d
 refine aZ (hbe hint hh _ ?_)
 cases hr:b hint
 ·dsimp only;dsimp[bA,cg];refine aZ (eE (cO (I:=λx c st'=>st'=st/\∃l u,c=(none,l,u)/\x+1<=u/\l<u/\l<=hint/\b (hint-l)=false)
   (Q:=λc st'=>st'=st/\∃l u,c=(none,l,u)/\l<u/\l<=hint/\b (hint-l)=false/\(u>=hint+1\/b (hint-u)=true)) ?step ?fin ⟨rfl,0,1,rfl,by omega,by omega,by omega,hr⟩) ?post)
  case post=>
   rintro c st' ⟨rfl,l,u,rfl,h1,h2,h3,h4⟩;dsimp only;refine(VE b hbe hb (l0:=hint+1-min u (hint+1)) (h0:=hint-l) (by omega) (by omega) (λi a=>?_) (λi a c=>hb' _ _ a c h3) q:wpS (model prog w) A E s (bsB be n _ _) Q st')
   rcases h4 with h4|h4
   ·omega
   ·exact hb i (hint-u) (by omega) (by omega) h4
  case fin=>
   rintro c st' ⟨rfl,l,u,rfl,h1,h2,h3,h4⟩;exact⟨rfl,l,u,rfl,h2,h3,h4,.inl (by omega)⟩
  case step=>
   rintro x c st' _ hx ⟨rfl,l,u,rfl,h1,h2,h3,h4⟩;dsimp only;by_cases hge:u>=hint+1
   ·rw[aK hge];exact bz ⟨rfl,l,u,rfl,h2,h3,h4,.inl hge⟩
   ·rw[aJ hge];refine aZ (hbe _ (by omega) _ ?_)
    cases hv:b (hint-u)
    ·dsimp[bA,cg];exact bz ⟨rfl,u,2 * u+1,rfl,by omega,by omega,by omega,hv⟩
    ·dsimp[cZ];exact bz ⟨rfl,l,u,rfl,h2,h3,h4,.inr hv⟩
 ·dsimp only;dsimp[cZ];refine aZ (eE (cO (I:=λx c st'=>st'=st/\∃l u,c=(none,l,u)/\x+1<=u/\l<u/\hint+l<n/\b (hint+l)=true)
   (Q:=λc st'=>st'=st/\∃l u,c=(none,l,u)/\l<u/\hint+l<n/\b (hint+l)=true/\(u>=n-hint\/b (hint+u)=false)) ?step2 ?fin2 ⟨rfl,0,1,rfl,by omega,by omega,by omega,hr⟩) ?post2)
  case post2=>
   rintro c st' ⟨rfl,l,u,rfl,h1,h2,h3,h4⟩;dsimp only;refine(VE b hbe hb (l0:=hint+l+1) (h0:=hint+min u (n-hint)) (by omega) (by omega) (λi a=>hb i _ (by omega) h2 h3) (λi a c=>?_) q:wpS (model prog w) A E s (bsB be n _ _) Q st')
   rcases h4 with h4|h4
   ·omega
   ·exact hb' (hint+u) i (by omega) c h4
  case fin2=>
   rintro c st' ⟨rfl,l,u,rfl,h1,h2,h3,h4⟩;exact⟨rfl,l,u,rfl,h2,h3,h4,.inl (by omega)⟩
  case step2=>
   rintro x c st' _ hx ⟨rfl,l,u,rfl,h1,h2,h3,h4⟩;dsimp only;by_cases hge:u>=n-hint
   ·rw[aK hge];exact bz ⟨rfl,l,u,rfl,h2,h3,h4,.inl hge⟩
   ·rw[aJ hge];refine aZ (hbe _ (by omega) _ ?_)
    cases hv:b (hint+u)
    ·dsimp[eT,cZ];exact bz ⟨rfl,l,u,rfl,h2,h3,h4,.inr hv⟩
    ·dsimp[ck,bA,cg];exact bz ⟨rfl,u,2 * u+1,rfl,by omega,by omega,by omega,hv⟩
end
section
variable {prog:aj}{w:ah}{A:az}{E:af->aA->Prop}{s:aA}{o:Ord}{N:Nat}{f:Nat->Keyed}{kd:SortKind}{st:SortSt}
def Q0(C:Dh prog w A s o N f kd)(hk:kindOf st=kd){base n:Nat}{arr:Array Keyed}{h:Nat->Nat}(ha:∀i,i<n->arr[base+i]?=some (f (h i)))(hN:∀i,i<n->h i<key)(hkN:key<N)(so:So o h 0 n)(hh:hint<n)
  {Q:bp->SortSt->Prop} (q:∀k,k<=n->(∀i,i<k->P o (h i) key)->(∀i,k<=i->i<n->P o key (h i))->Q (some k) st):wpS (model prog w) A E s (nj false (f key) arr base n hint) Q st:=by
 rw[CJ];refine IV (λi=>!o.lt key (h i)) (λi hi Q' q'=>?_) (λi j a b c=>?_) hh λk h1 h2 h3=>q k h1 (λi a=>?_) λi a b=>?_
 ·refine aZ (j3 (ha i hi) ?_);dsimp[bA,cg];exact aZ (A7 C hk hkN (by have:=hN i hi;lia) (bz q'))
 ·by_cases z:i=j
  ·subst z;exact c
  ·have r:=so i j (bL _) () b;have c':o.lt key (h j)=false:=by simpa using c
   cases e:o.lt key (h i)with
   | false=>rfl
   | true=>
    have:=(P.of_lt e).trans r;rw[this.lt (hN j b)]at c';cases c'
 ·have:=h2 i a;exact P.zS (by simpa using this) (hN i ())
 ·have:=h3 i a b;exact .inl (by simpa using this)
def O5(C:Dh prog w A s o N f kd)(hk:kindOf st=kd){base n:Nat}{arr:Array Keyed}{h:Nat->Nat}(ha:∀i,i<n->arr[base+i]?=some (f (h i)))(hN:∀i,i<n->key<h i/\h i<N)(so:So o h 0 n)(hh:hint<n)
  {Q:bp->SortSt->Prop} (q:∀k,k<=n->(∀i,i<k->P o (h i) key)->(∀i,k<=i->i<n->P o key (h i))->Q (some k) st):wpS (model prog w) A E s (nj true (f key) arr base n hint) Q st:=by
 rw[CJ];refine IV (λi=>o.lt (h i) key) (λi hi Q' q'=>?_) (λi j a b c=>?_) hh λk h1 h2 h3=>q k h1 (λi a=>?_) λi a b=>?_
 ·refine aZ (j3 (ha i hi) ?_);dsimp[cZ];exact A7 C hk (hN i hi).2 (by have:=hN i hi;lia) q'
 ·by_cases z:i=j
  ·subst z;exact c
  ·have r:=so i j (bL _) () b;exact(r.trans (P.of_lt c)).lt (hN i ()).1
 ·exact .inl (h2 i a)
 ·exact P.zS (h3 i a b) (hN i b).1
end
abbrev B6:Array Keyed->Array Keyed->StateT SortSt Sem (Array Keyed):=sortPriv% PySem.Builtin.mergeLo
abbrev A5:Array Keyed->Array Keyed->StateT SortSt Sem (Array Keyed):=sortPriv% PySem.Builtin.mergeHi
abbrev zK:Nat->StateT SortSt Sem Unit:=sortPriv% PySem.Builtin.setMinGallop
def TN(m:Nat):zK m=modify λs=>SortSt.mk' (kindOf s) (arrOf s) (pendingOf s) m (failedOf s):=rfl
def HF(a b:Array Keyed):B6 a b=(do
 rule "list.sort.merge-lo"
 let all_:=a.size+b.size
 let end1 (acc:Array Keyed) (p q:Nat):=acc++a.extract p a.size++b.extract q b.size
 let end2 (acc:Array Keyed) (p q:Nat):=acc++b.extract q b.size++a.extract p a.size
 let mut acc:Array Keyed:=#[<- elem' b 0]
 let mut p:=0
 let mut q:=1
 if q == b.size then return end1 acc p q
 if p+1 == a.size then return end2 acc p q
 let mut mg:=gallopOf (<- get)
 for _ in [0:all_] do
  let mut ca:=0
  let mut cb:=0
  for _ in [0:all_] do
   let some won <- lt' (<- elem' b q) (<- elem' a p)|return end1 acc p q
   if won then
    acc:=acc.push (<- elem' b q);q:=q+1;cb:=cb+1;ca:=0
    if q == b.size then return end1 acc p q
    if cb>=mg then break
   else
    acc:=acc.push (<- elem' a p);p:=p+1;ca:=ca+1;cb:=0
    if p+1 == a.size then return end2 acc p q
    if ca>=mg then break
  rule "list.sort.gallop"
  mg:=mg+1
  for _ in [0:all_] do
   if mg>1 then mg:=mg-1
   zK mg
   let some k <- nj false (<- elem' b q) a p (a.size-p) 0|return end1 acc p q
   ca:=k
   if k>0 then
    acc:=acc++a.extract p (p+k);p:=p+k
    if p+1 == a.size then return end2 acc p q
    if p == a.size then return end1 acc p q
   acc:=acc.push (<- elem' b q);q:=q+1
   if q == b.size then return end1 acc p q
   let some k <- nj true (<- elem' a p) b q (b.size-q) 0|return end1 acc p q
   cb:=k
   if k>0 then
    acc:=acc++b.extract q (q+k);q:=q+k
    if q == b.size then return end1 acc p q
   acc:=acc.push (<- elem' a p);p:=p+1
   if p+1 == a.size then return end2 acc p q
   if ca<7 && cb<7 then break
  mg:=mg+1
  zK mg
 unsupported "internal:list.sort.merge-bound"):=rfl
section
variable {o:Ord}{N:Nat}{f:Nat->Keyed}{A B hs:am}{ia ib:Nat}
abbrev fa (f:Nat->Keyed)(l:am):Array Keyed:=(l.map f).toArray
def wu(l:am):(fa f l).size=l.length:=by unfold fa;rw[aY,aH]
def QZ(l:am)(i:Nat):(fa f l)[i]?=(l[i]?).map f:=by unfold fa;rw[eZ,aO]
def nq{l:am}{i x:Nat}(h:l[i]?=some x):(fa f l)[i]?=some (f x):=by rw[QZ,h];rfl
def yg(l:am)(x:Nat):(fa f l).push (f x)=fa f (l++[x]):=by
 unfold fa;rw[List.push_toArray,bU];rfl
def qV(l m:am):fa f l++fa f m=fa f (l++m):=by
 unfold fa;rw[List.append_toArray,bU]
def ze(l:am)(i j:Nat):(fa f l).extract i j=fa f ((l.drop i).take (j-i)):=by
 unfold fa;rw[List.extract_toArray,List.extract_eq_take_drop,map_take,map_drop]
def AA(l:am)(i:Nat):(fa f l).extract i l.length=fa f (l.drop i):=by
 rw[ze,List.take_of_length_le (by rw[dg];lia)]
structure Ab (o:Ord)(N:Nat)(A B:am):Prop where
 sa:A.Pairwise (P o)
 sb:B.Pairwise (P o)
 lt:∀x∈A,∀y∈B,x<y
 nb:∀y∈B,y<N
 na:∀x∈A,x<N
structure Mg (o:Ord)(A B hs:am)(ia ib:Nat):Prop where
 la:ia<=A.length
 lb:ib<=B.length
 len:hs.length=ia+ib
 so:hs.Pairwise (P o)
 mem:∀x∈hs,x∈A\/x∈B
 ua:∀x∈hs,∀y∈A.drop ia,P o x y
 ub:∀x∈hs,∀y∈B.drop ib,P o x y
abbrev Res (o:Ord)(f:Nat->Keyed)(A B:am)(out:Array Keyed):Prop:=∃hs:am,out=fa f hs/\hs.length=A.length+B.length/\hs.Pairwise (P o)/\∀x∈hs,x∈A\/x∈B
def vA{l:am}(h:l.Pairwise (P o)){i j x:Nat}(hx:l[i]?=some x)(hy:l[j]?=some y)(hij:i<j):P o x y:=by
 obtain⟨h1,e1⟩:=aL.mp hx;obtain⟨h2,e2⟩:=aL.mp hy;rw[<- e1,<- e2];exact cG.mp h i j h1 h2 hij
def yD{l:am}{y:Nat}(h:y∈l.drop i):∃j,i<=j/\l[j]?=some y:=by
 obtain⟨k,hk⟩:=fj h;rw[fS]at hk;exact⟨i+k,(),hk⟩
def Mg.zO(ab:Ab o N A B)(m:Mg o A B hs ia ib){x:Nat}(hx:A[ia]?=some x)(h:∀y∈B.drop ib,P o x y):Mg o A B (hs++[x]) (ia+1) ib:=by
 obtain⟨h1,e1⟩:=aL.mp hx;have hd:A.drop ia=x::A.drop (ia+1):=by rw[<- e1];exact cY h1
 refine⟨(),m.lb,by rw[aQ,m.len];show ia+ib+1=_;lia,?_,λz hz=>?_,λz hz y hy=>?_,λz hz y hy=>?_⟩
 ·rw[cB];exact⟨m.so,cj ..,λa ha b hb=>by rw[aS.mp hb];exact m.ua a ha x (by rw[hd];exact aM ..)⟩
 ·rcases bH.mp hz with z'|z'
  ·exact m.mem z z'
  ·rw[aS.mp z'];exact .inl (aW hx)
 ·rcases bH.mp hz with z'|z'
  ·exact m.ua z z' y (by rw[hd];exact aN _ hy)
  ·rw[aS.mp z'];obtain⟨j,hj,ej⟩:=yD hy;exact vA ab.sa hx ej ()
 ·rcases bH.mp hz with z'|z'
  ·exact m.ub z z' y hy
  ·rw[aS.mp z'];exact h y hy
def Ab.Ac(ab:Ab o N A B)(m:Mg o A B hs ia ib){x:Nat}(hx:B[ib]?=some x)(h:∀y∈A.drop ia,P o x y):Mg o A B (hs++[x]) ia (ib+1):=by
 obtain⟨h1,e1⟩:=aL.mp hx;have hd:B.drop ib=x::B.drop (ib+1):=by rw[<- e1];exact cY h1
 refine⟨m.la,(),by rw[aQ,m.len];rfl,?_,λz hz=>?_,λz hz y hy=>?_,λz hz y hy=>?_⟩
 ·rw[cB];exact⟨m.so,cj ..,λa ha b hb=>by rw[aS.mp hb];exact m.ub a ha x (by rw[hd];exact aM ..)⟩
 ·rcases bH.mp hz with z'|z'
  ·exact m.mem z z'
  ·rw[aS.mp z'];exact .inr (aW hx)
 ·rcases bH.mp hz with z'|z'
  ·exact m.ua z z' y hy
  ·rw[aS.mp z'];exact h y hy
 ·rcases bH.mp hz with z'|z'
  ·exact m.ub z z' y (by rw[hd];exact aN _ hy)
  ·rw[aS.mp z'];obtain⟨j,hj,ej⟩:=yD hy;exact vA ab.sb hx ej ()
def uc{l:am}(h:l.Pairwise (P o)){i x:Nat}(hx:l[i]?=some x)(hxy:P o y x):∀z∈l.drop i,P o y z:=λz hz=>by
 obtain⟨j,hj,ej⟩:=yD hz;by_cases c:j=i
 ·subst c;rw[hx]at ej;cases ej;exact hxy
 ·exact hxy.trans (vA h hx ej ())
def take_snoc{l:am}{k x:Nat}(h:l[i+k]?=some x):(l.drop i).take (k+1)=(l.drop i).take k++[x]:=by
 have h':(l.drop i)[k]?=some x:=by rw[fS];exact h
 obtain⟨h1,e1⟩:=aL.mp h';rw[gY h1,e1]
theorem Mg.Bv(ab:Ab o N A B)(m:Mg o A B hs ia ib)(hy:B[ib]?=some y):∀k,ia+k<=A.length->(∀i x,i<k->A[ia+i]?=some x->P o x y)->Mg o A B (hs++(A.drop ia).take k) (ia+k) ib
 | 0,_,_=>by rw[eU,cH];exact m
 | k+1,hk,h=>by
  have ih:=Mg.Bv ab m hy k () λi x hi=>h i x ();have hx:A[ia+k]?=some (A[ia+k]'()):=aF _;rw[take_snoc hx,<- bY];exact ih.zO ab hx (uc ab.sb hy (h k _ () hx))
theorem Mg.Bb(ab:Ab o N A B)(m:Mg o A B hs ia ib)(hy:A[ia]?=some y):∀k,ib+k<=B.length->(∀i x,i<k->B[ib+i]?=some x->P o x y)->Mg o A B (hs++(B.drop ib).take k) ia (ib+k)
 | 0,_,_=>by rw[eU,cH];exact m
 | k+1,hk,h=>by
  have ih:=Mg.Bb ab m hy k () λi x hi=>h i x ();have hx:B[ib+k]?=some (B[ib+k]'()):=aF _;rw[take_snoc hx,<- bY];exact ab.Ac ih hx (uc ab.sa hy (h k _ () hx))
def Ay{l:am}(h:l.Pairwise (P o))(i:Nat):(l.drop i).Pairwise (P o):=h.sublist (List.drop_sublist ..)
def Mg.fin(ab:Ab o N A B)(m:Mg o A B hs ia ib)(h:∀x∈A.drop ia,∀y∈B.drop ib,P o x y):Res o f A B (fa f hs++(fa f A).extract ia A.length++(fa f B).extract ib B.length):=by
 rw[AA,AA,qV,qV];have la:=m.la;have lb:=m.lb;refine⟨_,rfl,by rw[aQ,aQ,m.len,dg,dg];lia,?_,λx hx=>?_⟩
 ·rw[cB,cB];refine⟨⟨m.so,Ay ab.sa _,m.ua⟩,Ay ab.sb _,λx hx y hy=>?_⟩
  rcases bH.mp hx with z|z
  ·exact m.ub x z y hy
  ·exact h x z y hy
 ·rcases bH.mp hx with z|z
  ·rcases bH.mp z with z|z
   ·exact m.mem x z
   ·exact .inl (fm z)
  ·exact .inr (fm z)
def Mg.Xd(ab:Ab o N A B)(m:Mg o A B hs ia ib)(h:∀x∈A.drop ia,∀y∈B.drop ib,P o y x):Res o f A B (fa f hs++(fa f B).extract ib B.length++(fa f A).extract ia A.length):=by
 rw[AA,AA,qV,qV];have la:=m.la;have lb:=m.lb;refine⟨_,rfl,by rw[aQ,aQ,m.len,dg,dg];lia,?_,λx hx=>?_⟩
 ·rw[cB,cB];refine⟨⟨m.so,Ay ab.sb _,m.ub⟩,Ay ab.sa _,λx hx y hy=>?_⟩
  rcases bH.mp hx with z|z
  ·exact m.ua x z y hy
  ·exact h y hy x z
 ·rcases bH.mp hx with z|z
  ·rcases bH.mp z with z|z
   ·exact m.mem x z
   ·exact .inr (fm z)
  ·exact .inl (fm z)
def drop_nil{l:am}(h:l.length<=i):l.drop i=[]:=List.drop_eq_nil_of_le h
def IY{l:am}(h:l.Pairwise (P o))(b n:Nat)(hn:b+n<=l.length):So o (λi=>l.getD (b+i) 0) 0 n:=λi j _ hij hj=>
 vA h (i:=b+i) (j:=b+j) (by show _=some (l.getD (b+i) 0);rw[aI,aF (show b+i<l.length by lia)];rfl) (by show _=some (l.getD (b+j) 0);rw[aI,aF (show b+j<l.length by lia)];rfl) ()
def getD_at{l:am}{i:Nat}(h:i<l.length):l[i]?=some (l.getD i 0):=by
 rw[aI,aF h];rfl
end
structure Sm (st st':SortSt):Prop where
 a:arrOf st'=arrOf st
 k:kindOf st'=kindOf st
 p:pendingOf st'=pendingOf st
 f:failedOf st'=failedOf st
def Sm.refl{st:SortSt}:Sm st st:=⟨rfl,rfl,rfl,rfl⟩
def Sm.trans{st:SortSt}(a:Sm st st')(b:Sm st' st''):Sm st st'':=⟨b.a.trans a.a,b.k.trans a.k,b.p.trans a.p,b.f.trans a.f⟩
meta abbrev G:=Option (Array Keyed)×Array Keyed×Nat×Nat×Nat×Nat×Nat
abbrev T3 (a b out:Array Keyed)(ia ib mg ac bc:Nat):StateT SortSt Sem (ForInStep G):=do
 let x <- elem' a ia
 if (ia+1+1 == a.size)=true then pure (ForInStep.done (some (out.push x++b.extract ib b.size++a.extract (ia+1) a.size),out.push x,ia+1,ib,mg,ac,bc))
 else if (decide (ac<7) && decide (bc<7))=true then pure (ForInStep.done (none,out.push x,ia+1,ib,mg,ac,bc))
 else pure (ForInStep.yield (none,out.push x,ia+1,ib,mg,ac,bc))
abbrev T2 (a b out:Array Keyed)(ia ib mg ac bc:Nat):StateT SortSt Sem (ForInStep G):=do
 let x <- elem' b ib
 if (ib+1 == b.size)=true then pure (ForInStep.done (some (out.push x++a.extract ia a.size++b.extract (ib+1) b.size),out.push x,ia,ib+1,mg,ac,bc))
 else
  let y <- elem' a ia
  let r <- nj true y b (ib+1) (b.size-(ib+1)) 0
  match r with
  | some k=>
   if k>0 then
    if (ib+1+k == b.size)=true then pure (ForInStep.done (some (out.push x++b.extract (ib+1) (ib+1+k)++a.extract ia a.size++b.extract (ib+1+k) b.size),out.push x++b.extract (ib+1) (ib+1+k),ia,ib+1+k,mg,ac,k))
    else T3 a b (out.push x++b.extract (ib+1) (ib+1+k)) ia (ib+1+k) mg ac k
   else T3 a b (out.push x) ia (ib+1) mg ac k
  | _=>pure (ForInStep.done (some (out.push x++a.extract ia a.size++b.extract (ib+1) b.size),out.push x,ia,ib+1,mg,ac,bc))
abbrev T1 (a b out:Array Keyed)(ia ib mg ac bc:Nat):StateT SortSt Sem (ForInStep G):=do
 zK mg
 let x <- elem' b ib
 let r <- nj false x a ia (a.size-ia) 0
 match r with
 | some k=>
  if k>0 then
   if (ia+k+1 == a.size)=true then pure (ForInStep.done (some (out++a.extract ia (ia+k)++b.extract ib b.size++a.extract (ia+k) a.size),out++a.extract ia (ia+k),ia+k,ib,mg,k,bc))
   else if (ia+k == a.size)=true then pure (ForInStep.done (some (out++a.extract ia (ia+k)++a.extract (ia+k) a.size++b.extract ib b.size),out++a.extract ia (ia+k),ia+k,ib,mg,k,bc))
   else T2 a b (out++a.extract ia (ia+k)) (ia+k) ib mg k bc
  else T2 a b out ia ib mg k bc
 | _=>pure (ForInStep.done (some (out++a.extract ia a.size++b.extract ib b.size),out,ia,ib,mg,ac,bc))
section
variable {prog:aj}{w:ah}{A:az}{E:af->aA->Prop}{s:aA}{o:Ord}{N:Nat}{f:Nat->Keyed}{kd:SortKind}{st st0:SortSt}{X Y hs:am}{ia ib:Nat}
def yz(h:Sm st0 st){Q:Unit->SortSt->Prop}(q:∀st',Sm st0 st'->Q Unit.unit st'):wpS (model prog w) A E s (zK m) Q st:=by
 rw[TN];exact fR (q _ (h.trans ⟨rfl,rfl,rfl,rfl⟩))
abbrev On (o:Ord)(f:Nat->Keyed)(X Y:am)(n:Nat)(hs:am)(ia ib:Nat):Prop:=Mg o X Y hs ia ib/\ia+1<X.length/\ib<Y.length/\n<=ia+ib
abbrev G2 (o:Ord)(f:Nat->Keyed)(X Y:am)(n:Nat)(st0:SortSt):ForInStep G->SortSt->Prop:=λr st'=>Sm st0 st'/\match r with
 | .done c=>(∃r z,c=(some r,z)/\Res o f X Y r)\/∃hs ia ib mg ac bc,c=(none,fa f hs,ia,ib,mg,ac,bc)/\On o f X Y n hs ia ib
 | .yield c=>∃hs ia ib mg ac bc,c=(none,fa f hs,ia,ib,mg,ac,bc)/\On o f X Y n hs ia ib
abbrev Top (o:Ord)(X Y:am):Prop:=∀i x,X[i]?=some x->i+1=X.length->∀y∈Y,P o y x
def un3{α β γ κ:Type}{g:α->κ}{O:α->β->γ->Prop}{T:κ->Prop}(k:∀a b c,O a b c->T (g a)):∀q,(∃a b c,q=g a/\O a b c)->T q:=by
 rintro _ ⟨a,b,c,rfl,h⟩;exact k a b c h
def un4{α β γ δ κ:Type}{S:Prop}{g:α->β->γ->δ->κ}{O:α->β->γ->δ->Prop}{T:κ->Prop}(k:S->∀a b c d,O a b c d->T (g a b c d)):∀q,(S/\∃a b c d,q=g a b c d/\O a b c d)->T q:=by
 rintro q ⟨s,a,b,c,d,rfl,o⟩;exact k s a b c d o
def un5{α β γ δ ε κ:Type}{S:Prop}{g:α->β->γ->δ->ε->κ}{O:α->β->γ->δ->ε->Prop}{T:κ->Prop}(k:S->∀a b c d e,O a b c d e->T (g a b c d e)):∀q,(S/\∃a b c d e,q=g a b c d e/\O a b c d e)->T q:=by
 rintro q ⟨s,a,b,c,d,e,rfl,o⟩;exact k s a b c d e o
def un6{α β γ δ ε ζ κ:Type}{S:Prop}{g:α->β->γ->δ->ε->ζ->κ}{O:α->β->γ->δ->ε->ζ->Prop}{T:κ->Prop}(k:S->∀a b c d e f,O a b c d e f->T (g a b c d e f)):∀q,(S/\∃a b c d e f,q=g a b c d e f/\O a b c d e f)->T q:=by
 rintro q ⟨s,a,b,c,d,e,f,rfl,o⟩;exact k s a b c d e f o
def uo5{α β γ δ ε κ ρ σ:Type}{S:Prop}{j:ρ->σ->κ}{R:ρ->Prop}{g:α->β->γ->δ->ε->κ}{O:α->β->γ->δ->ε->Prop}{T:κ->Prop}(k1:S->∀r z,R r->T (j r z))(k:S->∀a b c d e,O a b c d e->T (g a b c d e)):∀q,(S/\((∃r z,q=j r z/\R r)\/∃a b c d e,q=g a b c d e/\O a b c d e))->T q:=by
 rintro q ⟨s,⟨r,z,rfl,hr⟩|⟨a,b,c,d,e,rfl,o⟩⟩
 ·exact k1 s r z hr
 ·exact k s a b c d e o
def uo6{α β γ δ ε ζ κ ρ σ:Type}{S:Prop}{j:ρ->σ->κ}{R:ρ->Prop}{g:α->β->γ->δ->ε->ζ->κ}{O:α->β->γ->δ->ε->ζ->Prop}{T:κ->Prop}(k1:S->∀r z,R r->T (j r z))(k:S->∀a b c d e f,O a b c d e f->T (g a b c d e f)):∀q,(S/\((∃r z,q=j r z/\R r)\/∃a b c d e f,q=g a b c d e f/\O a b c d e f))->T q:=by
 rintro q ⟨s,⟨r,z,rfl,hr⟩|⟨a,b,c,d,e,f,rfl,o⟩⟩
 ·exact k1 s r z hr
 ·exact k s a b c d e f o
def xP(ab:Ab o N X Y)(tp:Top o X Y)(m:Mg o X Y hs ia ib)(h:ia+1=X.length):Res o f X Y (fa f hs++(fa f Y).extract ib Y.length++(fa f X).extract ia X.length):=
 m.Xd ab λx hx y hy=>by
  obtain⟨j,hj,ej⟩:=yD hx;have:=(aL.mp ej).1;exact tp j x ej () y (fm hy)
def Vk(ab:Ab o N X Y)(tp:Top o X Y)(hm:Sm st0 st){n mg x:Nat}(m:Mg o X Y hs ia ib)(ha:ia+1<X.length)(hb:ib<Y.length)(hn:n<=ia+ib)(hx:X[ia]?=some x)(hy:Y[ib]?=some y)(hxy:P o x y) :
  wpS (model prog w) A E s (T3 (fa f X) (fa f Y) (fa f hs) ia ib mg ac bc) (G2 o f X Y n st0) st:=by
 unfold T3;rw[wu,wu];refine aZ (j3 (nq hx) ?_);have m2:=m.zO ab hx (uc ab.sb hy hxy);rw[yg];by_cases c:ia+1+1=X.length
 ·rw[aK (by rw[c];exact bO _)];exact bz ⟨hm,.inl ⟨_,_,rfl,xP ab tp m2 c⟩⟩
 ·rw[aJ (by simpa using c)];by_cases c2:(decide (ac<7) && decide (bc<7))=true
  ·rw[aK c2];exact bz ⟨hm,.inr ⟨_,_,_,_,_,_,rfl,m2,(),hb,()⟩⟩
  ·rw[aJ c2];exact bz ⟨hm,⟨_,_,_,_,_,_,rfl,m2,(),hb,()⟩⟩
def VZ(C:Dh prog w A s o N f kd)(hk:kindOf st=kd)(ab:Ab o N X Y)(tp:Top o X Y)(hm:Sm st0 st){n mg x:Nat}(m:Mg o X Y hs ia ib)(ha:ia+1<X.length)(hb:ib<Y.length)(hn:n<=ia+ib)(hx:X[ia]?=some x)(hy:Y[ib]?=some y)(hxy:P o y x) :
  wpS (model prog w) A E s (T2 (fa f X) (fa f Y) (fa f hs) ia ib mg ac bc) (G2 o f X Y n st0) st:=by
 unfold T2;rw[wu,wu];refine aZ (j3 (nq hy) ?_);have m2:=ab.Ac m hy (uc ab.sa hx hxy);rw[yg];by_cases c:ib+1=Y.length
 ·rw[aK (by rw[c];exact bO _)];exact bz ⟨hm,.inl ⟨_,_,rfl,m2.fin ab λx _ y hy=>by rw[drop_nil ()]at hy;cases hy⟩⟩
 ·rw[aJ (by simpa using c)];refine aZ (j3 (nq hx) ?_);refine aZ (O5 C hk (h:=λi=>Y.getD (ib+1+i) 0) (λi hi=>nq (getD_at ())) (λi hi=>?_) (IY ab.sb _ _ ()) () λk k1 k2 k3=>?_)
  ·have:=aW (getD_at (l:=Y) (i:=ib+1+i) ());exact⟨ab.lt x (aW hx) _ this,ab.nb _ this⟩
  ·dsimp only;have m3:=m2.Bb ab hx k () λi z hi ez=>by
    have:=k2 i hi;rw[aI,ez]at this;exact this
   by_cases c2:k>0
   ·rw[aK c2,ze,show ib+1+k-(ib+1)=k by lia,qV];by_cases c3:ib+1+k=Y.length
    ·rw[aK (by rw[c3];exact bO _)];exact bz ⟨hm,.inl ⟨_,_,rfl,m3.fin ab λx _ y hy=>by rw[drop_nil ()]at hy;cases hy⟩⟩
    ·rw[aJ (by simpa using c3)];exact Vk ab tp hm m3 ha () () hx (getD_at ()) (k3 k (aR _) ())
   ·rw[aJ c2];have:k=0:=()
    subst this;exact Vk ab tp hm m2 ha () () hx (getD_at ()) (k3 0 (aR _) ())
def Zd(C:Dh prog w A s o N f kd)(hk:kindOf st0=kd)(ab:Ab o N X Y)(tp:Top o X Y)(hm:Sm st0 st){n mg:Nat}(m:Mg o X Y hs ia ib)(ha:ia+1<X.length)(hb:ib<Y.length)(hn:n<=ia+ib) :
  wpS (model prog w) A E s (T1 (fa f X) (fa f Y) (fa f hs) ia ib mg ac bc) (G2 o f X Y n st0) st:=by
 unfold T1;rw[wu,wu];refine aZ (yz hm λst1 hm1=>?_);have hy:=getD_at (l:=Y) (i:=ib) hb;have yB:=aW hy;refine aZ (j3 (nq hy) ?_);refine aZ (Q0 C (by rw[hm1.k];exact hk) (h:=λi=>X.getD (ia+i) 0) (λi hi=>nq (getD_at ())) (λi hi=>ab.lt _ (aW (getD_at (l:=X) (i:=ia+i) ())) _ yB) (ab.nb _ yB) (IY ab.sa _ _ ()) () λk k1 k2 k3=>?_);dsimp only;have m3:=m.Bv ab hy k () λi z hi ez=>by
  have:=k2 i hi;rw[aI,ez]at this;exact this
 by_cases c2:k>0
 ·rw[aK c2,ze,show ia+k-ia=k by lia,qV];by_cases c3:ia+k+1=X.length
  ·rw[aK (by rw[c3];exact bO _)];exact bz ⟨hm1,.inl ⟨_,_,rfl,xP ab tp m3 c3⟩⟩
  ·rw[aJ (by simpa using c3)];by_cases c4:ia+k=X.length
   ·rw[aK (by rw[c4];exact bO _)];exact bz ⟨hm1,.inl ⟨_,_,rfl,m3.fin ab λx hx y _=>by rw[drop_nil ()]at hx;cases hx⟩⟩
   ·rw[aJ (by simpa using c4)];exact VZ C (by rw[hm1.k];exact hk) ab tp hm1 m3 () hb () (getD_at ()) hy (k3 k (aR _) ())
 ·rw[aJ c2];have:k=0:=()
  subst this;exact VZ C (by rw[hm1.k];exact hk) ab tp hm1 m ha hb hn (getD_at ()) hy (k3 0 (aR _) ())
def ZI(C:Dh prog w A s o N f kd)(hk:kindOf st=kd)(ab:Ab o N X Y)(tp:Top o X Y)(h1:1<=X.length)(hy0:Y[0]?=some y0)(h0:∀x∈X,P o y0 x)
  {Q:Array Keyed->SortSt->Prop} (q:∀out st',Sm st st'->Res o f X Y out->Q out st'):wpS (model prog w) A E s (B6 (fa f X) (fa f Y)) Q st:=by
 rw[HF];refine aZ (wpS_lift (eS ⟨rfl,?_⟩));dsimp only;rw[wu,wu];have hY:=(aL.mp hy0).1;refine aZ (j3 (nq hy0) ?_);have m0:Mg o X Y [] 0 0:=⟨bL _,bL _,rfl,List.Pairwise.nil,(nofun),(nofun),(nofun)⟩;have m1:Mg o X Y [y0] 0 1:=ab.Ac m0 hy0 h0;have e1:(#[f y0]:Array Keyed)=fa f [y0]:=rfl;rw[e1];by_cases c:1=Y.length
 ·rw[aK (by rw[<- c];rfl)];exact bz (q _ _ Sm.refl (m1.fin ab λx _ y hy=>by rw[drop_nil ()]at hy;cases hy))
 ·rw[aJ (by simpa using c)];by_cases c2:0+1=X.length
  ·rw[aK (by rw[<- c2];rfl)];exact bz (q _ _ Sm.refl (xP ab tp m1 c2))
  ·rw[aJ (by simpa using c2)];refine aZ (gW ?_);refine aZ (eE (cO (I:=λx c st'=>Sm st st'/\∃hs ia ib mg,c=(none,fa f hs,ia,ib,mg)/\On o f X Y (x+1) hs ia ib)
    (Q:=λc st'=>Sm st st'/\∃r z,c=(some r,z)/\Res o f X Y r) ?step ?fin ⟨Sm.refl,_,_,_,_,rfl,m1,(),(),aR _⟩) ?post)
   case post=>
    rintro c st' ⟨hm,r,z,rfl,hr⟩;exact bz (q _ _ hm hr)
   case fin=>
    rintro c st' ⟨hm,hs,ia,ib,mg,rfl,m,a1,a2,a3⟩;exfalso
    lia
   case step=>
    intro x c st' _ hx hh;revert hh;revert c;refine un4 λhm hs ia ib mg ho=>?_;have m:=ho.1;have a1:=ho.2.1;have a2:=ho.2.2.1;have a3:=ho.2.2.2;clear ho;dsimp only;refine aZ (eE (cO (I:=λx' c st''=>Sm st st''/\∃hs ia ib ac bc,c=(none,fa f hs,ia,ib,ac,bc)/\On o f X Y (x+1+min x' 1) hs ia ib)
     (Q:=λc st''=>Sm st st''/\((∃r z,c=(some r,z)/\Res o f X Y r)\/∃hs ia ib ac bc,c=(none,fa f hs,ia,ib,ac,bc)/\On o f X Y (x+1+1) hs ia ib)) ?istep ?ifin ⟨hm,_,_,_,_,_,rfl,m,a1,a2,a3⟩) ?ipost)
    case ifin=>
     rintro c st'' ⟨hm',hs,ia,ib,ac,bc,rfl,m,a1,a2,a3⟩;exact⟨hm',.inr ⟨_,_,_,_,_,rfl,m,a1,a2,()⟩⟩
    case istep=>
     intro x' c st'' _ hx' hh;revert hh;revert c;refine un5 λhm' hs ia ib ac bc ho=>?_;have m:=ho.1;have a1:=ho.2.1;have a2:=ho.2.2.1;have a3:=ho.2.2.2;clear ho;dsimp only;have hy:=getD_at (l:=Y) (i:=ib) a2;have hxx:=getD_at (l:=X) (i:=ia) ();have yB:=aW hy;have xA:=aW hxx;have lt:=ab.lt _ xA _ yB;refine aZ (j3 (nq hy) ?_);refine aZ (j3 (nq hxx) ?_);refine aZ (A7 C (by rw[hm'.k];exact hk) (ab.nb _ yB) (ab.na _ xA) ?_)
     cases hl:o.lt (Y.getD ib 0) (X.getD ia 0)
     ·dsimp[bA,cg];refine aZ (j3 (nq hxx) ?_);have m2:=m.zO ab hxx (uc ab.sb hy (P.zS hl lt));rw[yg];by_cases c3:ia+1+1=X.length
      ·rw[aK (by rw[c3];exact bO _)];exact bz ⟨hm',.inl ⟨_,_,rfl,xP ab tp m2 c3⟩⟩
      ·rw[aJ (by simpa using c3)];by_cases c4:ac+1>=mg
       ·rw[aK c4];exact bz ⟨hm',.inr ⟨_,_,_,_,_,rfl,m2,(),a2,()⟩⟩
       ·rw[aJ c4];exact bz ⟨hm',_,_,_,_,_,rfl,m2,(),a2,()⟩
     ·dsimp[cZ];refine aZ (j3 (nq hy) ?_);have m2:=ab.Ac m hy (uc ab.sa hxx (P.of_lt hl));rw[yg];by_cases c3:ib+1=Y.length
      ·rw[aK (by rw[c3];exact bO _)];exact bz ⟨hm',.inl ⟨_,_,rfl,m2.fin ab λx _ y hy=>by rw[drop_nil ()]at hy;cases hy⟩⟩
      ·rw[aJ (by simpa using c3)];by_cases c4:bc+1>=mg
       ·rw[aK c4];exact bz ⟨hm',.inr ⟨_,_,_,_,_,rfl,m2,a1,(),()⟩⟩
       ·rw[aJ c4];exact bz ⟨hm',_,_,_,_,_,rfl,m2,a1,(),()⟩
    case ipost=>
     intro c st'' hh;revert hh;revert c;refine uo5 (λhm' r z hr=>?_) λhm' hs ia ib ac bc ho=>?_
     ·dsimp only;exact bz ⟨hm',r,_,rfl,hr⟩
     ·have m:=ho.1;have a1:=ho.2.1;have a2:=ho.2.2.1;have a3:=ho.2.2.2;clear ho;dsimp only;refine aZ (wpS_lift (eS ⟨rfl,?_⟩));refine aZ (eE (cO (I:=λx' c st''=>Sm st st''/\∃hs ia ib mg ac bc,c=(none,fa f hs,ia,ib,mg,ac,bc)/\On o f X Y (x+1+1) hs ia ib)
       (Q:=λc st''=>Sm st st''/\((∃r z,c=(some r,z)/\Res o f X Y r)\/∃hs ia ib mg ac bc,c=(none,fa f hs,ia,ib,mg,ac,bc)/\On o f X Y (x+1+1) hs ia ib)) ?jstep ?jfin ⟨hm',_,_,_,_,_,_,rfl,m,a1,a2,a3⟩) ?jpost)
      case jfin=>
       rintro c st3 ⟨hm3,hh⟩;exact⟨hm3,.inr hh⟩
      case jstep=>
       intro x' c st3 _ hx' hh;revert hh;revert c;refine un6 λhm3 hs ia ib mg ac bc ho=>?_;have m:=ho.1;have a1:=ho.2.1;have a2:=ho.2.2.1;have a3:=ho.2.2.2;clear ho;dsimp only;have t1:=λmg=>Zd (n:=x+1+1) (mg:=mg) (ac:=ac) (bc:=bc) (E:=E) C hk ab tp hm3 m a1 a2 a3;unfold T1 T2 T3 at t1;rw[wu,wu]at t1;refine eE (Q:=G2 o f X Y (x+1+1) st) ?_ ?_
       ·by_cases c3:mg>1
        ·rw[aK c3];exact t1 (mg-1)
        ·rw[aJ c3];exact t1 mg
       ·rintro r st4 ⟨hm4,hr⟩
        cases r with
        | done c=>exact⟨hm4,hr⟩
        | yield c=>exact⟨hm4,hr⟩
      case jpost=>
       intro c st3 hh;revert hh;revert c;refine uo6 (λhm3 r z hr=>?_) λhm3 hs ia ib mg ac bc ho=>?_
       ·dsimp only;exact bz ⟨hm3,r,_,rfl,hr⟩
       ·have m:=ho.1;have a1:=ho.2.1;have a2:=ho.2.2.1;have a3:=ho.2.2.2;clear ho;dsimp only;refine aZ (yz hm3 λst4 hm4=>?_);exact bz ⟨hm4,_,_,_,_,rfl,m,a1,a2,a3⟩
end
def H_(a b:Array Keyed):A5 a b=(do
 rule "list.sort.merge-hi"
 let all_:=a.size+b.size
 let end1 (acc:Array Keyed) (p q:Nat):=a.extract 0 p++b.extract 0 q++acc.reverse
 let end2 (acc:Array Keyed) (p q:Nat):=b.extract 0 q++a.extract 0 p++acc.reverse
 let mut p:=a.size-1
 let mut q:=b.size
 let mut acc:Array Keyed:=#[<- elem' a p]
 if p == 0 then return end1 acc p q
 if q == 1 then return end2 acc p q
 let mut mg:=gallopOf (<- get)
 for _ in [0:all_] do
  let mut ca:=0
  let mut cb:=0
  for _ in [0:all_] do
   let some won <- lt' (<- elem' b (q-1)) (<- elem' a (p-1))|return end1 acc p q
   if won then
    p:=p-1;acc:=acc.push (<- elem' a p);ca:=ca+1;cb:=0
    if p == 0 then return end1 acc p q
    if ca>=mg then break
   else
    q:=q-1;acc:=acc.push (<- elem' b q);cb:=cb+1;ca:=0
    if q == 1 then return end2 acc p q
    if cb>=mg then break
  rule "list.sort.gallop"
  mg:=mg+1
  for _ in [0:all_] do
   if mg>1 then mg:=mg-1
   zK mg
   let some t <- nj false (<- elem' b (q-1)) a 0 p (p-1)|return end1 acc p q
   let k:=p-t
   ca:=k
   if k>0 then
    acc:=acc++(a.extract t p).reverse;p:=t
    if p == 0 then return end1 acc p q
   q:=q-1;acc:=acc.push (<- elem' b q)
   if q == 1 then return end2 acc p q
   let some t <- nj true (<- elem' a (p-1)) b 0 q (q-1)|return end1 acc p q
   let k:=q-t
   cb:=k
   if k>0 then
    acc:=acc++(b.extract t q).reverse;q:=t
    if q == 1 then return end2 acc p q
    if q == 0 then return end1 acc p q
   p:=p-1;acc:=acc.push (<- elem' a p)
   if p == 0 then return end1 acc p q
   if ca<7 && cb<7 then break
  mg:=mg+1
  zK mg
 unsupported "internal:list.sort.merge-bound"):=rfl
section
variable {o:Ord}{N:Nat}{f:Nat->Keyed}{A B ts:am}{na nb:Nat}
def RO(l:am):(fa f l).reverse=fa f l.reverse:=by
 unfold fa;rw[List.reverse_toArray,List.map_reverse]
def AN(l:am)(i:Nat):(fa f l).extract 0 i=fa f (l.take i):=by
 rw[ze,jg,Nat.sub_zero]
structure Mh (o:Ord)(A B ts:am)(na nb:Nat):Prop where
 la:na<=A.length
 lb:nb<=B.length
 len:ts.length+na+nb=A.length+B.length
 so:ts.Pairwise (P o)
 mem:∀x∈ts,x∈A\/x∈B
 ua:∀y∈A.take na,∀x∈ts,P o y x
 ub:∀y∈B.take nb,∀x∈ts,P o y x
def yr{l:am}{y:Nat}(h:y∈l.take i):∃j,j<i/\l[j]?=some y:=by
 obtain⟨k,hk⟩:=fj h;have:=(aL.mp hk).1;rw[bK]at this;rw[gv ()]at hk;exact⟨k,(),hk⟩
def take_one{l:am}{i x:Nat}(h:l[i]?=some x):l.take (i+1)=l.take i++[x]:=by
 obtain⟨h1,e1⟩:=aL.mp h;rw[gY h1,e1]
def Mh.zO(ab:Ab o N A B)(m:Mh o A B ts (na+1) nb){x:Nat}(hx:A[na]?=some x)(h:∀y∈B.take nb,P o y x):Mh o A B (x::ts) na nb:=by
 have la:=m.la;have len:=m.len;have ht:=take_one hx;have xin:x∈A.take (na+1):=by rw[ht];exact bG _ (aS.mpr rfl)
 refine⟨(),m.lb,by rw[bq];lia,bW.mpr ⟨λy hy=>m.ua x xin y hy,m.so⟩,λz hz=>?_,λy hy z hz=>?_,λy hy z hz=>?_⟩
 ·rcases bF.mp hz with rfl|z'
  ·exact .inl (aW hx)
  ·exact m.mem z z'
 ·rcases bF.mp hz with rfl|z'
  ·obtain⟨j,hj,ej⟩:=yr hy;exact vA ab.sa ej hx hj
  ·exact m.ua y (by rw[ht];exact f6 _ hy) z z'
 ·rcases bF.mp hz with rfl|z'
  ·exact h y hy
  ·exact m.ub y hy z z'
def Mh.QF(ab:Ab o N A B)(m:Mh o A B ts na (nb+1)){x:Nat}(hx:B[nb]?=some x)(h:∀y∈A.take na,P o y x):Mh o A B (x::ts) na nb:=by
 have lb:=m.lb;have len:=m.len;have ht:=take_one hx;have xin:x∈B.take (nb+1):=by rw[ht];exact bG _ (aS.mpr rfl)
 refine⟨m.la,(),by rw[bq];lia,bW.mpr ⟨λy hy=>m.ub x xin y hy,m.so⟩,λz hz=>?_,λy hy z hz=>?_,λy hy z hz=>?_⟩
 ·rcases bF.mp hz with rfl|z'
  ·exact .inr (aW hx)
  ·exact m.mem z z'
 ·rcases bF.mp hz with rfl|z'
  ·exact h y hy
  ·exact m.ua y hy z z'
 ·rcases bF.mp hz with rfl|z'
  ·obtain⟨j,hj,ej⟩:=yr hy;exact vA ab.sb ej hx hj
  ·exact m.ub y (by rw[ht];exact f6 _ hy) z z'
def tQ{l:am}(h:l.Pairwise (P o)){i x:Nat}(hx:l[i]?=some x)(hxy:P o x y):∀z∈l.take (i+1),P o z y:=λz hz=>by
 obtain⟨j,hj,ej⟩:=yr hz;by_cases c:j=i
 ·subst c;rw[hx]at ej;cases ej;exact hxy
 ·exact(vA h ej hx ()).trans hxy
theorem Mh.Bv(ab:Ab o N A B){mb:Nat}(hy:B[mb]?=some y):∀(k:Nat) {ts:am}{at_:Nat},Mh o A B ts (at_+k) (mb+1)->(∀i x,at_<=i->i<at_+k->A[i]?=some x->P o y x)->Mh o A B ((A.drop at_).take k++ts) at_ (mb+1)
 | 0,ts,at_,m,_=>by rw[eU];exact m
 | k+1,ts,at_,m,h=>by
  have la:=m.la;have hx:A[at_+k]?=some (A[at_+k]'()):=aF _;have m2:=Mh.zO ab (show Mh o A B ts (at_+k+1) (mb+1)from m) hx (tQ ab.sb hy (h _ _ () () hx));have m3:=Mh.Bv ab hy k m2 λi x h1 h2=>h i x h1 ();rw[take_snoc hx,bY];exact m3
theorem Mh.Bb(ab:Ab o N A B){ma:Nat}(hy:A[ma]?=some y):∀(k:Nat) {ts:am}{at_:Nat},Mh o A B ts (ma+1) (at_+k)->(∀i x,at_<=i->i<at_+k->B[i]?=some x->P o y x)->Mh o A B ((B.drop at_).take k++ts) (ma+1) at_
 | 0,ts,at_,m,_=>by rw[eU];exact m
 | k+1,ts,at_,m,h=>by
  have lb:=m.lb;have hx:B[at_+k]?=some (B[at_+k]'()):=aF _;have m2:=Mh.QF ab (show Mh o A B ts (ma+1) (at_+k+1)from m) hx (tQ ab.sa hy (h _ _ () () hx));have m3:=Mh.Bb ab hy k m2 λi x h1 h2=>h i x h1 ();rw[take_snoc hx,bY];exact m3
def Ah{l:am}(h:l.Pairwise (P o))(i:Nat):(l.take i).Pairwise (P o):=h.sublist (List.take_sublist ..)
def Mh.fin(ab:Ab o N A B)(m:Mh o A B ts na nb)(h:∀x∈A.take na,∀y∈B.take nb,P o x y):Res o f A B ((fa f A).extract 0 na++(fa f B).extract 0 nb++fa f ts):=by
 rw[AN,AN,qV,qV];have la:=m.la;have lb:=m.lb;have len:=m.len;refine⟨_,rfl,by rw[aQ,aQ,bK,bK];lia,?_,λx hx=>?_⟩
 ·rw[cB,cB];refine⟨⟨Ah ab.sa _,Ah ab.sb _,h⟩,m.so,λx hx y hy=>?_⟩
  rcases bH.mp hx with z|z
  ·exact m.ua x z y hy
  ·exact m.ub x z y hy
 ·rcases bH.mp hx with z|z
  ·rcases bH.mp z with z|z
   ·exact .inl (cX z)
   ·exact .inr (cX z)
  ·exact m.mem x z
def Mh.Xd(ab:Ab o N A B)(m:Mh o A B ts na nb)(h:∀x∈A.take na,∀y∈B.take nb,P o y x):Res o f A B ((fa f B).extract 0 nb++(fa f A).extract 0 na++fa f ts):=by
 rw[AN,AN,qV,qV];have la:=m.la;have lb:=m.lb;have len:=m.len;refine⟨_,rfl,by rw[aQ,aQ,bK,bK];lia,?_,λx hx=>?_⟩
 ·rw[cB,cB];refine⟨⟨Ah ab.sb _,Ah ab.sa _,λx hx y hy=>h y hy x hx⟩,m.so,λx hx y hy=>?_⟩
  rcases bH.mp hx with z|z
  ·exact m.ub x z y hy
  ·exact m.ua x z y hy
 ·rcases bH.mp hx with z|z
  ·rcases bH.mp z with z|z
   ·exact .inr (cX z)
   ·exact .inl (cX z)
  ·exact m.mem x z
abbrev Zr (o:Ord)(X Y:am):Prop:=∀y,Y[0]?=some y->∀x∈X,P o y x
def vX(ab:Ab o N A B)(bt:Zr o A B)(m:Mh o A B ts na nb)(h:nb=1):Res o f A B ((fa f B).extract 0 nb++(fa f A).extract 0 na++fa f ts):=
 m.Xd ab λx hx y hy=>by
  obtain⟨j,hj,ej⟩:=yr hy;have:j=0:=()
  subst this;exact bt y ej x (cX hx)
def Mh.F2(ab:Ab o N A B)(m:Mh o A B ts na nb)(h:na=0\/nb=0):Res o f A B ((fa f A).extract 0 na++(fa f B).extract 0 nb++fa f ts):=
 m.fin ab λx hx y hy=>by
  rcases h with rfl|rfl
  ·rw[eU]at hx;cases hx
  ·rw[eU]at hy;cases hy
def Ax(l:am)(x:Nat):(fa f l.reverse).push (f x)=fa f (x::l).reverse:=by rw[yg,iV]
def RK(l m:am):fa f l.reverse++(fa f m).reverse=fa f (m++l).reverse:=by rw[RO,qV,List.reverse_append]
def wY(l:am):(fa f l.reverse).reverse=fa f l:=by rw[RO,List.reverse_reverse]
end
meta abbrev H:=Option (Array Keyed)×Nat×Nat×Array Keyed×Nat×Nat×Nat
abbrev U3 (a b out:Array Keyed)(na nb mg ac bc:Nat):StateT SortSt Sem (ForInStep H):=do
 let x <- elem' a (na-1)
 if (na-1 == 0)=true then pure (ForInStep.done (some (a.extract 0 (na-1)++b.extract 0 nb++(out.push x).reverse),na-1,nb,out.push x,mg,ac,bc))
 else if (decide (ac<7) && decide (bc<7))=true then pure (ForInStep.done (none,na-1,nb,out.push x,mg,ac,bc))
 else pure (ForInStep.yield (none,na-1,nb,out.push x,mg,ac,bc))
abbrev U2 (a b out:Array Keyed)(na nb mg ac bc:Nat):StateT SortSt Sem (ForInStep H):=do
 let x <- elem' b (nb-1)
 if (nb-1 == 1)=true then pure (ForInStep.done (some (b.extract 0 (nb-1)++a.extract 0 na++(out.push x).reverse),na,nb-1,out.push x,mg,ac,bc))
 else
  let y <- elem' a (na-1)
  let r <- nj true y b 0 (nb-1) (nb-1-1)
  match r with
  | some t=>
   if nb-1-t>0 then
    if (t == 1)=true then pure (ForInStep.done (some (b.extract 0 t++a.extract 0 na++(out.push x++(b.extract t (nb-1)).reverse).reverse),na,t,out.push x++(b.extract t (nb-1)).reverse,mg,ac,nb-1-t))
    else if (t == 0)=true then pure (ForInStep.done (some (a.extract 0 na++b.extract 0 t++(out.push x++(b.extract t (nb-1)).reverse).reverse),na,t,out.push x++(b.extract t (nb-1)).reverse,mg,ac,nb-1-t))
    else U3 a b (out.push x++(b.extract t (nb-1)).reverse) na t mg ac (nb-1-t)
   else U3 a b (out.push x) na (nb-1) mg ac (nb-1-t)
  | _=>pure (ForInStep.done (some (a.extract 0 na++b.extract 0 (nb-1)++(out.push x).reverse),na,nb-1,out.push x,mg,ac,bc))
abbrev U1 (a b out:Array Keyed)(na nb mg ac bc:Nat):StateT SortSt Sem (ForInStep H):=do
 zK mg
 let x <- elem' b (nb-1)
 let r <- nj false x a 0 na (na-1)
 match r with
 | some t=>
  if na-t>0 then
   if (t == 0)=true then pure (ForInStep.done (some (a.extract 0 t++b.extract 0 nb++(out++(a.extract t na).reverse).reverse),t,nb,out++(a.extract t na).reverse,mg,na-t,bc))
   else U2 a b (out++(a.extract t na).reverse) t nb mg (na-t) bc
  else U2 a b out na nb mg (na-t) bc
 | _=>pure (ForInStep.done (some (a.extract 0 na++b.extract 0 nb++out.reverse),na,nb,out,mg,ac,bc))
section
variable {prog:aj}{w:ah}{A:az}{E:af->aA->Prop}{s:aA}{o:Ord}{N:Nat}{f:Nat->Keyed}{kd:SortKind}{st st0:SortSt}{X Y ts:am}{na nb:Nat}
abbrev Oh (o:Ord)(X Y:am)(n:Nat)(ts:am)(na nb:Nat):Prop:=Mh o X Y ts na nb/\1<=na/\2<=nb/\na+nb+n<=X.length+Y.length
abbrev H2 (o:Ord)(f:Nat->Keyed)(X Y:am)(n:Nat)(st0:SortSt):ForInStep H->SortSt->Prop:=λr st'=>Sm st0 st'/\match r with
 | .done c=>(∃r z,c=(some r,z)/\Res o f X Y r)\/∃ts na nb mg ac bc,c=(none,na,nb,fa f ts.reverse,mg,ac,bc)/\Oh o X Y n ts na nb
 | .yield c=>∃ts na nb mg ac bc,c=(none,na,nb,fa f ts.reverse,mg,ac,bc)/\Oh o X Y n ts na nb
def VP(ab:Ab o N X Y)(hm:Sm st0 st){n mg x:Nat}(m:Mh o X Y ts (na+1) (nb+1))(hb:1<=nb)(hn:na+1+(nb+1)+n<=X.length+Y.length)(hx:X[na]?=some x)(hy:Y[nb]?=some y)(hxy:P o y x) :
  wpS (model prog w) A E s (U3 (fa f X) (fa f Y) (fa f ts.reverse) (na+1) (nb+1) mg ac bc) (H2 o f X Y n st0) st:=by
 unfold U3;rw[show na+1-1=na by lia];refine aZ (j3 (nq hx) ?_);have m2:=m.zO ab hx (tQ ab.sb hy hxy);rw[Ax,wY];by_cases c:na=0
 ·rw[aK (by rw[c];rfl)];exact bz ⟨hm,.inl ⟨_,_,rfl,m2.F2 ab (.inl c)⟩⟩
 ·rw[aJ (by simpa using c)];by_cases c2:(decide (ac<7) && decide (bc<7))=true
  ·rw[aK c2];exact bz ⟨hm,.inr ⟨_,_,_,_,_,_,rfl,m2,(),(),()⟩⟩
  ·rw[aJ c2];exact bz ⟨hm,⟨_,_,_,_,_,_,rfl,m2,(),(),()⟩⟩
def Vs(C:Dh prog w A s o N f kd)(hk:kindOf st=kd)(ab:Ab o N X Y)(bt:Zr o X Y)(hm:Sm st0 st){n mg x:Nat}(m:Mh o X Y ts (na+1) (nb+1))(hb:1<=nb)(hn:na+1+(nb+1)+n<=X.length+Y.length)(hx:X[na]?=some x)(hy:Y[nb]?=some y)(hxy:P o x y) :
  wpS (model prog w) A E s (U2 (fa f X) (fa f Y) (fa f ts.reverse) (na+1) (nb+1) mg ac bc) (H2 o f X Y n st0) st:=by
 unfold U2;rw[show nb+1-1=nb by lia,show na+1-1=na by lia];refine aZ (j3 (nq hy) ?_);have m2:=m.QF ab hy (tQ ab.sa hx hxy);have lb:=m.lb;rw[Ax,wY];by_cases c:nb=1
 ·rw[aK (by rw[c];rfl)];exact bz ⟨hm,.inl ⟨_,_,rfl,vX ab bt m2 c⟩⟩
 ·rw[aJ (by simpa using c)];refine aZ (j3 (nq hx) ?_);refine aZ (O5 C hk (h:=λi=>Y.getD (0+i) 0) (λi hi=>nq (getD_at ())) (λi hi=>?_) (IY ab.sb _ _ ()) () λt t1 t2 t3=>?_)
  ·have:=aW (getD_at (l:=Y) (i:=0+i) ());exact⟨ab.lt x (aW hx) _ this,ab.nb _ this⟩
  ·dsimp only;have m3:=Mh.Bb ab hx (nb-t) (at_:=t) (by rw[show t+(nb-t)=nb by lia];exact m2) λi z hi1 hi2 ez=>by
    have:=t3 i hi1 ();rw[bZ,aI (l:=Y),ez]at this;exact this
   by_cases c2:nb-t>0
   ·rw[aK c2,ze Y t nb,RK,wY];by_cases c3:t=1
    ·rw[aK (by rw[c3];rfl)];exact bz ⟨hm,.inl ⟨_,_,rfl,vX ab bt m3 c3⟩⟩
    ·rw[aJ (by simpa using c3)];by_cases c4:t=0
     ·rw[aK (by rw[c4];rfl)];exact bz ⟨hm,.inl ⟨_,_,rfl,m3.F2 ab (.inr c4)⟩⟩
     ·rw[aJ (by simpa using c4)];obtain⟨u,rfl⟩:∃u,t=u+1:=⟨t-1,()⟩;have:=t2 u ();rw[bZ]at this;exact VP ab hm m3 () () hx (getD_at ()) this
   ·rw[aJ c2];have:t=nb:=()
    subst this;obtain⟨u,rfl⟩:∃u,t=u+1:=⟨t-1,()⟩;have:=t2 u ();rw[bZ]at this;exact VP ab hm m2 () () hx (getD_at ()) this
def Z5(C:Dh prog w A s o N f kd)(hk:kindOf st0=kd)(ab:Ab o N X Y)(bt:Zr o X Y)(hm:Sm st0 st){n mg:Nat}(m:Mh o X Y ts (na+1) (nb+1))(hb:1<=nb)(hn:na+1+(nb+1)+n<=X.length+Y.length) :
  wpS (model prog w) A E s (U1 (fa f X) (fa f Y) (fa f ts.reverse) (na+1) (nb+1) mg ac bc) (H2 o f X Y n st0) st:=by
 unfold U1;refine aZ (yz hm λst1 hm1=>?_);have lb:=m.lb;have la:=m.la;rw[show nb+1-1=nb by lia,show na+1-1=na by lia];have hy:=getD_at (l:=Y) (i:=nb) ();have yB:=aW hy;refine aZ (j3 (nq hy) ?_);refine aZ (Q0 C (by rw[hm1.k];exact hk) (h:=λi=>X.getD (0+i) 0) (λi hi=>nq (getD_at ())) (λi hi=>ab.lt _ (aW (getD_at (l:=X) (i:=0+i) ())) _ yB) (ab.nb _ yB) (IY ab.sa _ _ ()) () λt t1 t2 t3=>?_);dsimp only;have m3:=Mh.Bv ab hy (na+1-t) (at_:=t) (by rw[show t+(na+1-t)=na+1 by lia];exact m) λi z hi1 hi2 ez=>by
  have:=t3 i hi1 ();rw[bZ,aI (l:=X),ez]at this;exact this
 by_cases c2:na+1-t>0
 ·rw[aK c2,ze X t (na+1),RK,wY];by_cases c4:t=0
  ·rw[aK (by rw[c4];rfl)];exact bz ⟨hm1,.inl ⟨_,_,rfl,m3.F2 ab (.inl c4)⟩⟩
  ·rw[aJ (by simpa using c4)];obtain⟨u,rfl⟩:∃u,t=u+1:=⟨t-1,()⟩;have:=t2 u ();rw[bZ]at this;exact Vs C (by rw[hm1.k];exact hk) ab bt hm1 m3 hb () (getD_at ()) hy this
 ·rw[aJ c2];have:t=na+1:=()
  subst this;have:=t2 na ();rw[bZ]at this;exact Vs C (by rw[hm1.k];exact hk) ab bt hm1 m hb hn (getD_at ()) hy this
def Zl(C:Dh prog w A s o N f kd)(hk:kindOf st=kd)(ab:Ab o N X Y)(tp:Top o X Y)(bt:Zr o X Y)(h1:1<=X.length)(h2:1<=Y.length)
  {Q:Array Keyed->SortSt->Prop} (q:∀out st',Sm st st'->Res o f X Y out->Q out st'):wpS (model prog w) A E s (A5 (fa f X) (fa f Y)) Q st:=by
 rw[H_];refine aZ (wpS_lift (eS ⟨rfl,?_⟩));dsimp only;rw[wu,wu];have hx0:=getD_at (l:=X) (i:=X.length-1) ();refine aZ (j3 (nq hx0) ?_);have m0:Mh o X Y [] (X.length-1+1) Y.length:=⟨(),aR _,by rw[bR];lia,List.Pairwise.nil,(nofun),(λ_ _ _ h=>nomatch h),(λ_ _ _ h=>nomatch h)⟩;have m1:=m0.zO ab hx0 λy hy=>tp _ _ hx0 () y (cX hy);obtain⟨x0,ex0⟩:∃x0,x0=X.getD (X.length-1) 0:=⟨_,rfl⟩;rw[<- ex0]at m1 ⊢;have e1:(#[f x0]:Array Keyed)=fa f [x0].reverse:=rfl;rw[e1,wY];by_cases c:X.length-1=0
 ·rw[aK (by rw[c];rfl)];exact bz (q _ _ Sm.refl (m1.F2 ab (.inl c)))
 ·rw[aJ (by simpa using c)];by_cases c2:Y.length=1
  ·rw[aK (by rw[c2];rfl)];exact bz (q _ _ Sm.refl (vX ab bt m1 c2))
  ·rw[aJ (by simpa using c2)];refine aZ (gW ?_);refine aZ (eE (cO (I:=λx c st'=>Sm st st'/\∃ts na nb mg,c=(none,na,nb,fa f ts.reverse,mg)/\Oh o X Y (x+1) ts na nb)
    (Q:=λc st'=>Sm st st'/\∃r z,c=(some r,z)/\Res o f X Y r) ?step ?fin ⟨Sm.refl,_,_,_,_,rfl,m1,(),(),()⟩) ?post)
   case post=>
    rintro c st' ⟨hm,r,z,rfl,hr⟩;exact bz (q _ _ hm hr)
   case fin=>
    rintro c st' ⟨hm,ts,na,nb,mg,rfl,m,a1,a2,a3⟩;exfalso
    lia
   case step=>
    intro x c st' _ hx hh;revert hh;revert c;refine un4 λhm ts na nb mg ho=>?_;have m:=ho.1;have a1:=ho.2.1;have a2:=ho.2.2.1;have a3:=ho.2.2.2;clear ho;dsimp only;refine aZ (eE (cO (I:=λx' c st''=>Sm st st''/\∃ts na nb ac bc,c=(none,na,nb,fa f ts.reverse,ac,bc)/\Oh o X Y (x+1+min x' 1) ts na nb)
     (Q:=λc st''=>Sm st st''/\((∃r z,c=(some r,z)/\Res o f X Y r)\/∃ts na nb ac bc,c=(none,na,nb,fa f ts.reverse,ac,bc)/\Oh o X Y (x+1+1) ts na nb)) ?istep ?ifin ⟨hm,_,_,_,_,_,rfl,m,a1,a2,a3⟩) ?ipost)
    case ifin=>
     rintro c st'' ⟨hm',ts,na,nb,ac,bc,rfl,m,a1,a2,a3⟩;exact⟨hm',.inr ⟨_,_,_,_,_,rfl,m,a1,a2,()⟩⟩
    case istep=>
     intro x' c st'' _ hx' hh;revert hh;revert c;refine un5 λhm' ts na nb ac bc ho=>?_;have m:=ho.1;have a1:=ho.2.1;have a2:=ho.2.2.1;have a3:=ho.2.2.2;clear ho;dsimp only;obtain⟨u,rfl⟩:∃u,na=u+1:=⟨na-1,()⟩;obtain⟨v,rfl⟩:∃v,nb=v+1:=⟨nb-1,()⟩;have la:=m.la;have lb:=m.lb;rw[show u+1-1=u by lia,show v+1-1=v by lia];have hy:=getD_at (l:=Y) (i:=v) ();have hxx:=getD_at (l:=X) (i:=u) ();have yB:=aW hy;have xA:=aW hxx;have lt:=ab.lt _ xA _ yB;refine aZ (j3 (nq hy) ?_);refine aZ (j3 (nq hxx) ?_);refine aZ (A7 C (by rw[hm'.k];exact hk) (ab.nb _ yB) (ab.na _ xA) ?_)
     cases hl:o.lt (Y.getD v 0) (X.getD u 0)
     ·dsimp[bA,cg];refine aZ (j3 (nq hy) ?_);have m2:=m.QF ab hy (tQ ab.sa hxx (P.zS hl lt));rw[Ax,wY];by_cases c3:v=1
      ·rw[aK (by rw[c3];rfl)];exact bz ⟨hm',.inl ⟨_,_,rfl,vX ab bt m2 c3⟩⟩
      ·rw[aJ (by simpa using c3)];by_cases c4:bc+1>=mg
       ·rw[aK c4];exact bz ⟨hm',.inr ⟨_,_,_,_,_,rfl,m2,a1,(),()⟩⟩
       ·rw[aJ c4];exact bz ⟨hm',_,_,_,_,_,rfl,m2,a1,(),()⟩
     ·dsimp[cZ];refine aZ (j3 (nq hxx) ?_);have m2:=m.zO ab hxx (tQ ab.sb hy (P.of_lt hl));rw[Ax,wY];by_cases c3:u=0
      ·rw[aK (by rw[c3];rfl)];exact bz ⟨hm',.inl ⟨_,_,rfl,m2.F2 ab (.inl c3)⟩⟩
      ·rw[aJ (by simpa using c3)];by_cases c4:ac+1>=mg
       ·rw[aK c4];exact bz ⟨hm',.inr ⟨_,_,_,_,_,rfl,m2,(),a2,()⟩⟩
       ·rw[aJ c4];exact bz ⟨hm',_,_,_,_,_,rfl,m2,(),a2,()⟩
    case ipost=>
     intro c st'' hh;revert hh;revert c;refine uo5 (λhm' r z hr=>?_) λhm' ts na nb ac bc ho=>?_
     ·dsimp only;exact bz ⟨hm',r,_,rfl,hr⟩
     ·have m:=ho.1;have a1:=ho.2.1;have a2:=ho.2.2.1;have a3:=ho.2.2.2;clear ho;dsimp only;refine aZ (wpS_lift (eS ⟨rfl,?_⟩));refine aZ (eE (cO (I:=λx' c st''=>Sm st st''/\∃ts na nb mg ac bc,c=(none,na,nb,fa f ts.reverse,mg,ac,bc)/\Oh o X Y (x+1+1) ts na nb)
       (Q:=λc st''=>Sm st st''/\((∃r z,c=(some r,z)/\Res o f X Y r)\/∃ts na nb mg ac bc,c=(none,na,nb,fa f ts.reverse,mg,ac,bc)/\Oh o X Y (x+1+1) ts na nb)) ?jstep ?jfin ⟨hm',_,_,_,_,_,_,rfl,m,a1,a2,a3⟩) ?jpost)
      case jfin=>
       rintro c st3 ⟨hm3,hh⟩;exact⟨hm3,.inr hh⟩
      case jstep=>
       intro x' c st3 _ hx' hh;revert hh;revert c;refine un6 λhm3 ts na nb mg ac bc ho=>?_;have m:=ho.1;have a1:=ho.2.1;have a2:=ho.2.2.1;have a3:=ho.2.2.2;clear ho;dsimp only;obtain⟨u,rfl⟩:∃u,na=u+1:=⟨na-1,()⟩;obtain⟨v,rfl⟩:∃v,nb=v+1:=⟨nb-1,()⟩;have t1:=λmg=>Z5 (n:=x+1+1) (mg:=mg) (ac:=ac) (bc:=bc) (E:=E) C hk ab bt hm3 m () a3;unfold U1 U2 U3 at t1;refine eE (Q:=H2 o f X Y (x+1+1) st) ?_ ?_
       ·by_cases c3:mg>1
        ·rw[aK c3];exact t1 (mg-1)
        ·rw[aJ c3];exact t1 mg
       ·rintro r st4 ⟨hm4,hr⟩
        cases r with
        | done c=>exact⟨hm4,hr⟩
        | yield c=>exact⟨hm4,hr⟩
      case jpost=>
       intro c st3 hh;revert hh;revert c;refine uo6 (λhm3 r z hr=>?_) λhm3 ts na nb mg ac bc ho=>?_
       ·dsimp only;exact bz ⟨hm3,r,_,rfl,hr⟩
       ·have m:=ho.1;have a1:=ho.2.1;have a2:=ho.2.2.1;have a3:=ho.2.2.2;clear ho;dsimp only;refine aZ (yz hm3 λst4 hm4=>?_);exact bz ⟨hm4,_,_,_,_,rfl,m,a1,a2,a3⟩
end
def HY(i:Nat):mergeAt' i=(do
 let s <- get
 let(some (a1,n1,pw),some (a2,n2,_)):=((pendingOf s)[i]?,(pendingOf s)[i+1]?)|unsupported "internal:list.sort.pending"
 set (setPending s (((pendingOf s).setIfInBounds i (a1,n1+n2,pw)).eraseIdxIfInBounds (i+1)))
 let some k <- nj false (<- elem' (arrOf s) a2) (arrOf s) a1 n1 0|return false
 let(a1,n1):=(a1+k,n1-k)
 if n1 == 0 then return true
 let some n2 <- nj true (<- elem' (arrOf s) (a1+n1-1)) (arrOf s) a2 n2 (n2-1)|return false
 if n2 == 0 then return true
 let x:=(arrOf s).extract a1 a2
 let y:=(arrOf s).extract a2 (a2+n2)
 let both <- if n1<=n2 then B6 x y else A5 x y
 modify λs=>setArr s (both.toList.zipIdx.foldl (λa (p,j)=>a.setIfInBounds (a1+j) p) (arrOf s))
 return (failedOf (<- get)).isNone):=rfl
abbrev seg (g:Nat->Nat)(a n:Nat):am:=(List.range n).map λi=>g (a+i)
section
variable {o:Ord}{N:Nat}{f:Nat->Keyed}{g:Nat->Nat}
def pG(g:Nat->Nat)(a n:Nat):(seg g a n).length=n:=by unfold seg;rw[aH,cF]
def uH{a n i:Nat}(h:i<n):(seg g a n)[i]?=some (g (a+i)):=by unfold seg;rw[aO,dQ h];rfl
def rH{a n x:Nat}(h:x∈seg g a n):∃i,i<n/\x=g (a+i):=by
 obtain⟨i,hi,rfl⟩:=bu.mp h;exact⟨i,cU.mp hi,rfl⟩
def QX{a n:Nat}(h:So o g a (a+n)):(seg g a n).Pairwise (P o):=by
 rw[cG];intro i j hi hj hij;rw[pG]at hi hj;have e1:=uH (g:=g) (a:=a) hi;have e2:=uH (g:=g) (a:=a) hj;rw[aF (by rw[pG];exact hi)]at e1;rw[aF (by rw[pG];exact hj)]at e2;rw[a_ e1,a_ e2];exact h _ _ () () ()
def IW{arr:Array Keyed}(hs:arr.size=N)(hg:∀i,i<N->arr[i]?=some (f (g i))){a n:Nat}(h:a+n<=N):arr.extract a (a+n)=fa f (seg g a n):=by
 apply Array.ext_getElem?;intro i;rw[QZ,Array.getElem?_extract];by_cases c:i<n
 ·rw[aK (),uH c,hg _ ()];rfl
 ·rw[aJ (),bQ (by rw[pG];lia)];rfl
theorem CV{α:Type}(b:Nat):∀(l:List α) (n:Nat) (arr:Array α),((l.zipIdx n).foldl (λa (p,j)=>a.setIfInBounds (b+j) p) arr).size=arr.size
 | [],_,_=>rfl
 | x::l,n,arr=>by
  rw[i7,fh,CV b l (n+1)];exact Array.size_setIfInBounds ..
theorem F3{α:Type}(b:Nat):∀(l:List α) (n:Nat) (arr:Array α) (k:Nat),b+n+l.length<=arr.size->((l.zipIdx n).foldl (λa (p,j)=>a.setIfInBounds (b+j) p) arr)[k]?=if b+n<=k/\k<b+n+l.length then l[k-(b+n)]? else arr[k]?
 | [],n,arr,k,h=>by rw[aJ (by rw[bR];lia)];rfl
 | x::l,n,arr,k,h=>by
  rw[bq]at h;rw[i7,fh,F3 b l (n+1) _ k (by rw[Array.size_setIfInBounds];lia),bq];by_cases c:k=b+n
  ·subst c;rw[aJ (),aK (),gZ];show(arr.setIfInBounds (b+n) x)[b+n]?=some x;rw[Array.getElem?_setIfInBounds_self_of_lt ()]
  ·by_cases c2:b+n<=k/\k<b+n+(l.length+1)
   ·rw[aK (),aK c2,show k-(b+n)=k-(b+(n+1))+1 by lia,List.getElem?_cons_succ]
   ·rw[aJ (),aJ c2]
    skip
    rw[Array.getElem?_setIfInBounds_ne ()]
end
section
variable {prog:aj}{w:ah}{A:az}{E:af->aA->Prop}{s:aA}{o:Ord}{N:Nat}{f:Nat->Keyed}{kd:SortKind}{g:Nat->Nat}{st:SortSt}
def Up{Q:PUnit->SortSt->Prop}(h:Q ⟨⟩ st'):wpS (model prog w) A E s (set st':StateT SortSt Sem PUnit) Q st:=by
 unfold wpS;rw[StateT.run_set];exact aP ⟨rfl,h⟩
def Zg(C:Dh prog w A s o N f kd){l1:List (Nat×Nat×Nat)}{sa na nb pw pv:Nat}(h:Sg N f kd g (l1++(sa,na,pw)::(sa+na,nb,pv)::l2).toArray st)(ha:1<=na)(hb:1<=nb)(hN:sa+na+nb<=N)
  (c1:Cl g sa (sa+na)) (s1:So o g sa (sa+na)) (c2:Cl g (sa+na) (sa+na+nb)) (s2:So o g (sa+na) (sa+na+nb))
  {Q:Bool->SortSt->Prop} (q:∀g' st',Sg N f kd g' (l1++(sa,na+nb,pw)::l2).toArray st'->Rn o g g' sa (sa+na+nb)->Q true st'):wpS (model prog w) A E s (mergeAt' l1.length) Q st:=by
 rw[HY];refine aZ (gW ?_);have e1:(pendingOf st)[l1.length]?=some (sa,na,pw):=by rw[h.pend];simp
 have e2:(pendingOf st)[l1.length+1]?=some (sa+na,nb,pv):=by rw[h.pend];simp
 have e3:((pendingOf st).setIfInBounds l1.length (sa,na+nb,pw)).eraseIdxIfInBounds (l1.length+1)=(l1++(sa,na+nb,pw)::l2).toArray:=by
  rw[h.pend,List.setIfInBounds_toArray,iu];congr 1;rw[fZ _ _ (aR _),gZ,List.eraseIdx_append_of_length_le (),show l1.length+1-l1.length=1 by lia];rfl
 rw[e1,e2];dsimp only;rw[e3];refine aZ (Up ?_);have h':Sg N f kd g (l1++(sa,na+nb,pw)::l2).toArray (setPending st (l1++(sa,na+nb,pw)::l2).toArray):=⟨h.size,h.get,h.lt,h.kind,h.failed,rfl⟩;obtain⟨st1,hst1⟩:∃st1,st1=setPending st (l1++(sa,na+nb,pw)::l2).toArray:=⟨_,rfl⟩;rw[<- hst1]at h' ⊢;refine aZ (j3 (h.get (sa+na) ()) ?_);have b0:=c2 (sa+na) () ();refine aZ (Q0 C h'.kind (h:=λi=>g (sa+i)) (λi hi=>h.get _ ()) (λi hi=>by have:=c1 (sa+i) () ();lia) () (λi j _ a b=>s1 _ _ () () ()) () λk k1 k2 k3=>?_);dsimp only;by_cases cz:na-k=0
 ·rw[aK (by rw[cz];rfl)];refine bz (q g st1 h' ⟨λ_ _=>rfl,λi a b=>?_,λi j a b c=>?_⟩)
  ·by_cases d:i<sa+na
   ·have:=c1 i a d;lia
   ·have:=c2 i () b;lia
  ·by_cases d:j<sa+na
   ·exact s1 i j a b d
   ·by_cases d2:sa+na<=i
    ·exact s2 i j d2 b c
    ·have r:=k2 (i-sa) ();rw[show sa+(i-sa)=i by lia]at r;by_cases d3:j=sa+na
     ·subst d3;exact r
     ·exact r.trans (s2 _ _ () () c)
 ·rw[aJ (by simpa using cz)];have hlast:sa+k+(na-k)-1=sa+na-1:=()
  rw[hlast];refine aZ (j3 (h.get (sa+na-1) ()) ?_);have a0:=c1 (sa+na-1) () ();refine aZ (O5 C h'.kind (h:=λi=>g (sa+na+i)) (λi hi=>h.get _ ()) (λi hi=>by have:=c2 (sa+na+i) () ();lia) (λi j _ a b=>s2 _ _ () () ()) () λt t1 t2 t3=>?_);dsimp only;by_cases cy:t=0
  ·rw[aK (by rw[cy];rfl)];subst cy;refine bz (q g st1 h' ⟨λ_ _=>rfl,λi a b=>?_,λi j a b c=>?_⟩)
   ·by_cases d:i<sa+na
    ·have:=c1 i a d;lia
    ·have:=c2 i () b;lia
   ·by_cases d:j<sa+na
    ·exact s1 i j a b d
    ·by_cases d2:sa+na<=i
     ·exact s2 i j d2 b c
     ·have r:=t3 (j-(sa+na)) () ();rw[show sa+na+(j-(sa+na))=j by lia]at r;by_cases d3:i=sa+na-1
      ·subst d3;exact r
      ·exact(s1 i (sa+na-1) a () ()).trans r
  ·rw[aJ (by simpa using cy)];have x1:(arrOf st).extract (sa+k) (sa+na)=fa f (seg g (sa+k) (na-k)):=by
    have:=IW (f:=f) (g:=g) h.size h.get (a:=sa+k) (n:=na-k) ()
    rwa [show sa+k+(na-k)=sa+na by lia]at this
   have x2:(arrOf st).extract (sa+na) (sa+na+t)=fa f (seg g (sa+na) t):=IW h.size h.get ();rw[x1,x2];have sx:So o g (sa+k) (sa+k+(na-k)):=λi j a b c=>s1 i j () b ();have sy:So o g (sa+na) (sa+na+t):=λi j a b c=>s2 i j a b ();have ab:Ab o N (seg g (sa+k) (na-k)) (seg g (sa+na) t):={
    sa:=QX sx
    sb:=QX sy
    lt:=λx hx y hy=>by
     obtain⟨i,hi,rfl⟩:=rH hx;obtain⟨j,hj,rfl⟩:=rH hy;have:=c1 (sa+k+i) () ();have:=c2 (sa+na+j) () ()
     lia
    nb:=λy hy=>by
     obtain⟨j,hj,rfl⟩:=rH hy;exact h.lt _ ()
    na:=λy hy=>by
     obtain⟨j,hj,rfl⟩:=rH hy;exact h.lt _ ()}
   have tp:Top o (seg g (sa+k) (na-k)) (seg g (sa+na) t):=λi x hx hi y hy=>by
    rw[pG]at hi;rw[uH ()]at hx
    cases hx
    obtain⟨j,hj,rfl⟩:=rH hy;rw[show sa+k+i=sa+na-1 by lia];exact t2 j hj
   have bt:Zr o (seg g (sa+k) (na-k)) (seg g (sa+na) t):=λy hy x hx=>by
    rw[uH ()]at hy
    cases hy
    obtain⟨i,hi,rfl⟩:=rH hx;have:=k3 (k+i) () ()
    rwa [<- iD]at this
   have fin:∀out st2,Sm st1 st2->Res o f (seg g (sa+k) (na-k)) (seg g (sa+na) t) out->wpS (model prog w) A E s (do
     modify λs=>setArr s (out.toList.zipIdx.foldl (λa (p,j)=>a.setIfInBounds (sa+k+j) p) (arrOf s))
     let s <- get
     pure (failedOf s).isNone) Q st2:=by
    rintro out st2 hm ⟨hs,rfl,hlen,hso,hmem⟩;rw[pG,pG]at hlen;refine aZ (fR (aZ (gW ?_)));have hf:(failedOf st2)=none:=by rw[hm.f];exact h'.failed
    have hmx:∀j x,hs[j]?=some x->(∃i,i<na-k/\x=g (sa+k+i))\/∃i,i<t/\x=g (sa+na+i):=λj x e=>by
     rcases hmem x (aW e)with z|z
     ·exact .inl (rH z)
     ·exact .inr (rH z)
    have ez:(fa f hs).toList=hs.map f:=by unfold fa;rfl
    have hsz:sa+k+0+(hs.map f).length<=(arrOf st2).size:=by rw[aH,hlen,hm.a,h'.size];lia
    refine bz ?_
    skip
    rw[hf];refine q (λi=>if sa+k<=i/\i<sa+k+(na-k+t)then hs.getD (i-(sa+k)) 0 else g i) _ ⟨?_,λi hi=>?_,λi hi=>?_,by rw[show kindOf (setArr st2 _)=kindOf st2 from rfl,hm.k];exact h'.kind,hf,by rw[show pendingOf (setArr st2 _)=pendingOf st2 from rfl,hm.p];exact h'.pend⟩ ?_
    ·have:=CV (sa+k) (fa f hs).toList 0 (arrOf st2);rw[hm.a,h'.size]at this;rw[<- this,<- hm.a]
    ·skip
     rw[ez,F3 _ _ _ _ _ hsz,aH,hlen,hm.a];by_cases d:sa+k<=i/\i<sa+k+(na-k+t)
     ·rw[aK (),aK d,aO,add_zero,getD_at (l:=hs) ()];rfl
     ·rw[aJ (),aJ d];exact h'.get i hi
    ·by_cases d:sa+k<=i/\i<sa+k+(na-k+t)
     ·rw[aK d]
      rcases hmx _ _ (getD_at (l:=hs) (i:=i-(sa+k)) ())with⟨j,hj,e⟩|⟨j,hj,e⟩
      ·rw[e];exact h.lt _ ()
      ·rw[e];exact h.lt _ ()
     ·rw[aJ d];exact h.lt i hi
    ·have gin:∀i,sa+k<=i->i<sa+na+t->(if sa+k<=i/\i<sa+k+(na-k+t)then hs.getD (i-(sa+k)) 0 else g i)=hs.getD (i-(sa+k)) 0:=λi a b=>aK ();have gout:∀i,i<sa+k\/sa+na+t<=i->(if sa+k<=i/\i<sa+k+(na-k+t)then hs.getD (i-(sa+k)) 0 else g i)=g i:=λi a=>aJ ();refine⟨λi hi=>gout i (),λi a b=>?_,λi j a b c=>?_⟩
     ·by_cases d:sa+k<=i/\i<sa+na+t
      ·skip
       rw[gin i d.1 d.2]
       rcases hmx _ _ (getD_at (l:=hs) (i:=i-(sa+k)) ())with⟨j,hj,e⟩|⟨j,hj,e⟩
       ·rw[e];have:=c1 (sa+k+j) () ();lia
       ·rw[e];have:=c2 (sa+na+j) () ();lia
      ·skip
       rw[gout i ()];by_cases d2:i<sa+na
       ·have:=c1 i a d2;lia
       ·have:=c2 i () b;lia
     ·skip
      by_cases d1:i<sa+k
      ·rw[gout i (.inl d1)];have r:=k2 (i-sa) ();rw[show sa+(i-sa)=i by lia]at r;by_cases d2:j<sa+k
       ·rw[gout j (.inl d2)];exact s1 i j a b ()
       ·by_cases d3:j<sa+na+t
        ·rw[gin j () d3]
         rcases hmx _ _ (getD_at (l:=hs) (i:=j-(sa+k)) ())with⟨v,hv,e⟩|⟨v,hv,e⟩
         ·rw[e];exact s1 _ _ a () ()
         ·rw[e];by_cases d4:v=0
          ·subst d4;exact r
          ·exact r.trans (s2 _ _ () () ())
        ·rw[gout j ()];exact r.trans (s2 _ _ () () c)
      ·by_cases d2:i<sa+na+t
       ·rw[gin i () d2];by_cases d3:j<sa+na+t
        ·rw[gin j () d3];exact vA hso (getD_at ()) (getD_at ()) ()
        ·rw[gout j ()]
         rcases hmx _ _ (getD_at (l:=hs) (i:=i-(sa+k)) ())with⟨v,hv,e⟩|⟨v,hv,e⟩
         ·rw[e];have r:=t3 (j-(sa+na)) () ();rw[show sa+na+(j-(sa+na))=j by lia]at r;by_cases d4:sa+k+v=sa+na-1
          ·rw[d4];exact r
          ·exact(s1 _ (sa+na-1) () () ()).trans r
         ·rw[e];exact s2 _ _ () () c
       ·rw[gout i (),gout j ()];exact s2 i j () b c
   by_cases cl:na-k<=t
   ·rw[aK cl];exact aZ (ZI C h'.kind ab tp (by rw[pG];lia) (uH ()) (bt _ (uH ())) fin)
   ·rw[aJ cl];exact aZ (Zl C h'.kind ab tp bt (by rw[pG];lia) (by rw[pG];lia) fin)
end
meta abbrev pr (x:Nat×Nat×Nat):Nat×Nat:=(x.1,x.2.1)
abbrev uz (o:Ord)(g:Nat->Nat):List (Nat×Nat)->Nat->Nat->Prop
 | [],a,b=>a=b
 | x::l,a,b=>x.1=a/\1<=x.2/\Cl g a (a+x.2)/\So o g a (a+x.2)/\uz o g l (a+x.2) b
abbrev PA (o:Ord)(g:Nat->Nat)(p:Array (Nat×Nat×Nat))(b:Nat):Prop:=uz o g (p.toList.map pr) 0 b
section
variable {o:Ord}{g:Nat->Nat}
def uz.le:∀{l:List (Nat×Nat)}{a b:Nat},uz o g l a b->a+l.length<=b
 | [],a,b,h=>by have h:a=b:=h;rw[bR];lia
 | x::l,a,b,h=>by
  have:=h.2.2.2.2.le;have:=h.2.1;rw[bq];lia
def uz.congr{g':Nat->Nat}:∀{l:List (Nat×Nat)}{a b:Nat},uz o g l a b->(∀i,a<=i->i<b->g' i=g i)->uz o g' l a b
 | [],a,b,h,_=>h
 | x::l,a,b,h,e=>by
  have hb:=h.2.2.2.2.le;refine⟨h.1,h.2.1,λi h1 h2=>?_,λi j h1 h2 h3=>?_,h.2.2.2.2.congr λi h1 h2=>e i () h2⟩
  ·rw[e i h1 ()];exact h.2.2.1 i h1 h2
  ·rw[e i h1 (),e j () ()];exact h.2.2.2.1 i j h1 h2 h3
theorem uz.app:∀{l m:List (Nat×Nat)}{a b:Nat},uz o g (l++m) a b ↔ ∃c,uz o g l a c/\uz o g m c b
 | [],m,a,b=>⟨λh=>⟨a,rfl,h⟩,λ⟨c,h1,h2⟩=>by have h1:a=c:=h1;subst h1;exact h2⟩
 | x::l,m,a,b=>by
  constructor
  ·rintro⟨h1,h2,h3,h4,h5⟩;obtain⟨c,h6,h7⟩:=uz.app.mp h5;exact⟨c,⟨h1,h2,h3,h4,h6⟩,h7⟩
  ·rintro⟨c,⟨h1,h2,h3,h4,h5⟩,h6⟩;exact⟨h1,h2,h3,h4,uz.app.mpr ⟨c,h5,h6⟩⟩
def XR{p:Array (Nat×Nat×Nat)}(h:i+1<p.size):∃l1 x y l2,p=(l1++x::y::l2).toArray/\l1.length=i:=by
 have h':i+1<p.toList.length:=h;refine⟨p.toList.take i,p.toList[i],p.toList[i+1],p.toList.drop (i+2),?_,by rw[bK];lia⟩;apply Array.toList_inj.mp
 skip
 conv=>lhs;rw[<- iy i p.toList,cY (show i<p.toList.length by lia),cY h']
end
section
variable {prog:aj}{w:ah}{A:az}{E:af->aA->Prop}{s:aA}{o:Ord}{N:Nat}{f:Nat->Keyed}{kd:SortKind}{g:Nat->Nat}{p:Array (Nat×Nat×Nat)}{st:SortSt}
def HC(C:Dh prog w A s o N f kd)(h:Sg N f kd g p st){lo:Nat}(hp:PA o g p lo)(hlo:lo<=N)(hi:i+1<p.size)
  {Q:Bool->SortSt->Prop} (q:∀g' p' st',Sg N f kd g' p' st'->PA o g' p' lo->p'.size+1=p.size->(∀k,lo<=k->g' k=g k)->Q true st'):wpS (model prog w) A E s (mergeAt' i) Q st:=by
 obtain⟨l1,⟨sa,na,pw⟩,⟨sb,nb,pv⟩,l2,rfl,rfl⟩:=XR hi;unfold PA at hp;rw[show(l1++(sa,na,pw)::(sb,nb,pv)::l2).toArray.toList=l1++(sa,na,pw)::(sb,nb,pv)::l2 from rfl,bU]at hp;obtain⟨c,h1,h2⟩:=uz.app.mp hp;obtain⟨e1,n1,cl1,so1,e2,n2,cl2,so2,rest⟩:=h2;have e1:sa=c:=e1;subst e1;have e2:sb=sa+na:=e2;subst e2;have l2b:=rest.le;have n1:1<=na:=n1;have n2:1<=nb:=n2;have l2b:sa+na+nb<=lo:=by
  have:sa+na+nb+(List.map pr l2).length<=lo:=l2b
  lia
 refine Zg C h n1 n2 () cl1 so1 cl2 so2 λg' st' h' R=>q g' _ st' h' ?_ (by simp;lia) λk hk=>R.out k ();unfold PA;rw[show(l1++(sa,na+nb,pw)::l2).toArray.toList=l1++(sa,na+nb,pw)::l2 from rfl,bU];refine uz.app.mpr ⟨sa,h1.congr λi a b=>R.out i (),rfl,by show 1<=na+nb;lia,?_,?_,?_⟩
 ·show Cl g' sa (sa+(na+nb));rw[<- iD];exact R.cl
 ·show So o g' sa (sa+(na+nb));rw[<- iD];exact R.so
 ·skip
  rw[<- iD];exact rest.congr λi a b=>R.out i (.inr a)
def Di{p:Array (Nat×Nat×Nat)}{lo:Nat}{u:Nat×Nat×Nat->Nat×Nat×Nat}(hu:∀x,pr (u x)=pr x)(h:PA o g p lo):PA o g (p.modify i u) lo:=by
 unfold PA at h ⊢;have:(p.modify i u).toList.map pr=p.toList.map pr:=by
  rw[Array.toList_modify];apply cL;intro k;rw[aO,aO,List.getElem?_modify]
  cases p.toList[k]? with
  | none=>rfl
  | some x=>
   show some (pr (if i=k then u x else x))=some (pr x);by_cases c:i=k
   ·rw[aK c,hu x]
   ·rw[aJ c]
 rw[this];exact h
def z8{p:Array (Nat×Nat×Nat)}{lo n v:Nat}(h:PA o g p lo)(hn:1<=n)(c:Cl g lo (lo+n))(d:So o g lo (lo+n)):PA o g (p.push (lo,n,v)) (lo+n):=by
 unfold PA at h ⊢;rw[Array.toList_push,bU];exact uz.app.mpr ⟨lo,h,rfl,hn,c,d,rfl⟩
def Sg.YV(h:Sg N f kd g p st)(p':Array (Nat×Nat×Nat)):Sg N f kd g p' (setPending st p'):=⟨h.size,h.get,h.lt,h.kind,h.failed,rfl⟩
def SA(C:Dh prog w A s o N f kd)(h:Sg N f kd (λi=>i) #[] st)(hN:1<=N)
  {Q:Unit->SortSt->Prop} (q:∀g' p' st',Sg N f kd g' p' st'->Cl g' 0 N->So o g' 0 N->Q Unit.unit st'):wpS (model prog w) A E s sortRuns' Q st:=by
 rw[sortRuns'_eq];refine aZ (gW ?_);dsimp only;rw[h.size];refine aZ (eE (cO
  (I:=λx c st'=>∃lo g p,c=(none,lo)/\lo<=N/\(x<=lo\/lo=N)/\Sg N f kd g p st'/\PA o g p lo/\(∀i,lo<=i->g i=i))
  (Q:=λc st'=>∃g p,c=(none,N)/\Sg N f kd g p st'/\PA o g p N) ?step ?fin ⟨0,_,_,rfl,bL _,.inl (aR _),h,rfl,λ_ _=>rfl⟩) ?post)
 case fin=>
  rintro c st' ⟨lo,g,p,rfl,h1,h2,h3,h4,h5⟩;have:lo=N:=()
  subst this;exact⟨g,p,rfl,h3,h4⟩
 case step=>
  intro x c st' _ hx hh;revert hh;revert c;refine un3 λlo g p hh=>?_;have h1:=hh.1;have h2:=hh.2.1;have h3:=hh.2.2.1;have h4:=hh.2.2.2.1;have h5:=hh.2.2.2.2;clear hh;dsimp only;by_cases hge:lo>=N
  ·rw[aK hge];have:lo=N:=()
   subst this;exact bz ⟨g,p,rfl,h3,h4⟩
  ·rw[aJ hge];refine aZ (Ot C h3 () () (λi a b=>h5 i a) λm g1 st1 s1 m1 m2 R1=>?_);dsimp only;by_cases c2:m<minRun' N N 0
   ·rw[aK c2];refine aZ (wpS_lift (eS ⟨rfl,?_⟩));refine aZ (Xu C s1 () m1 () R1 (λi a b=>h5 i ()) λg2 st2 s2 R2=>?_);rw[aJ ⋯];have n2:1<=min (N-lo) (minRun' N N 0):=()
    have n3:lo+min (N-lo) (minRun' N N 0)<=N:=()
    refine aZ (gW ?_);rw[s2.pend];have hp2:=uz.congr h4 λi a b=>R2.out i (.inl b)
    cases e:p.back? with
    | none=>
     dsimp only;refine aZ (fR (bz ⟨_,_,_,rfl,n3,(),s2.YV _,?_,λi hi=>by rw[R2.out i (.inr hi),h5 i ()]⟩));rw[s2.pend];exact z8 hp2 n2 R2.cl R2.so
    | some y=>
     obtain⟨y1,y2,y3⟩:=y;dsimp only;refine aZ (eE (cO (I:=λ_ c st'=>c=(none,Unit.unit)/\∃g' p',Sg N f kd g' p' st'/\PA o g' p' lo/\(∀k,lo<=k->g' k=g2 k)) (Q:=λc st'=>c=(none,Unit.unit)/\∃g' p',Sg N f kd g' p' st'/\PA o g' p' lo/\(∀k,lo<=k->g' k=g2 k)) ?vstep (λ_ _ h=>h) ⟨rfl,_,_,s2,hp2,λ_ _=>rfl⟩) ?vpost)
     case vstep=>
      rintro x c st' _ hx ⟨rfl,g',p',h1,h2,h3⟩;refine aZ (gW ?_);rw[h1.pend];by_cases c:p'.size>1
      ·rw[aK c]
       cases e:p'[p'.size-2]? with
       | none=>exact bz ⟨rfl,g',p',h1,h2,h3⟩
       | some y=>
        obtain⟨y1,y2,y3⟩:=y;dsimp only;split
        ·exact bz ⟨rfl,g',p',h1,h2,h3⟩
        ·refine aZ (HC C h1 h2 () () λg3 p3 st3 s3 q3 _ z3=>?_);exact bz ⟨rfl,g3,p3,s3,q3,λk hk=>by rw[z3 k hk,h3 k hk]⟩
      ·rw[aJ c];exact bz ⟨rfl,g',p',h1,h2,h3⟩
     case vpost=>
      rintro c st' ⟨rfl,g',p',h1,h2,h3⟩;dsimp only;refine aZ (fR (aZ (fR (bz ⟨_,_,_,rfl,n3,(),(h1.YV _).YV _,?_,λi hi=>by rw[h3 i (),R2.out i (.inr hi),h5 i ()]⟩))))
      skip
      rw[h1.pend];exact z8 (Di (λ_=>rfl) h2) n2 (λi a b=>by rw[h3 i a];exact R2.cl i a b) (λi j a b c=>by rw[h3 i a,h3 j ()];exact R2.so i j a b c)
   ·rw[aJ c2];have n3:lo+m<=N:=()
    obtain⟨g2,hg2⟩:∃g2,g2=g1:=⟨_,rfl⟩;rw[<- hg2]at R1 s1;have R2:=R1;have s2:=s1;have n2:=m1;refine aZ (gW ?_);rw[s2.pend];have hp2:=uz.congr h4 λi a b=>R2.out i (.inl b)
    cases e:p.back? with
    | none=>
     dsimp only;refine aZ (fR (bz ⟨_,_,_,rfl,n3,(),s2.YV _,?_,λi hi=>by rw[R2.out i (.inr hi),h5 i ()]⟩));rw[s2.pend];exact z8 hp2 n2 R2.cl R2.so
    | some y=>
     obtain⟨y1,y2,y3⟩:=y;dsimp only;refine aZ (eE (cO (I:=λ_ c st'=>c=(none,Unit.unit)/\∃g' p',Sg N f kd g' p' st'/\PA o g' p' lo/\(∀k,lo<=k->g' k=g2 k)) (Q:=λc st'=>c=(none,Unit.unit)/\∃g' p',Sg N f kd g' p' st'/\PA o g' p' lo/\(∀k,lo<=k->g' k=g2 k)) ?vstep (λ_ _ h=>h) ⟨rfl,_,_,s2,hp2,λ_ _=>rfl⟩) ?vpost)
     case vstep=>
      rintro x c st' _ hx ⟨rfl,g',p',h1,h2,h3⟩;refine aZ (gW ?_);rw[h1.pend];by_cases c:p'.size>1
      ·rw[aK c]
       cases e:p'[p'.size-2]? with
       | none=>exact bz ⟨rfl,g',p',h1,h2,h3⟩
       | some y=>
        obtain⟨y1,y2,y3⟩:=y;dsimp only;split
        ·exact bz ⟨rfl,g',p',h1,h2,h3⟩
        ·refine aZ (HC C h1 h2 () () λg3 p3 st3 s3 q3 _ z3=>?_);exact bz ⟨rfl,g3,p3,s3,q3,λk hk=>by rw[z3 k hk,h3 k hk]⟩
      ·rw[aJ c];exact bz ⟨rfl,g',p',h1,h2,h3⟩
     case vpost=>
      rintro c st' ⟨rfl,g',p',h1,h2,h3⟩;dsimp only;refine aZ (fR (aZ (fR (bz ⟨_,_,_,rfl,n3,(),(h1.YV _).YV _,?_,λi hi=>by rw[h3 i (),R2.out i (.inr hi),h5 i ()]⟩))))
      skip
      rw[h1.pend];exact z8 (Di (λ_=>rfl) h2) n2 (λi a b=>by rw[h3 i a];exact R2.cl i a b) (λi j a b c=>by rw[h3 i a,h3 j ()];exact R2.so i j a b c)
 case post=>
  rintro c st' ⟨g,p,rfl,h1,h2⟩;dsimp only;refine aZ (eE (cO
   (I:=λx c st''=>c=(none,Unit.unit)/\∃g p,Sg N f kd g p st''/\PA o g p N/\(p.size<=1\/p.size+x<=N))
   (Q:=λc st''=>c=(none,Unit.unit)/\∃g p,Sg N f kd g p st''/\PA o g p N/\p.size<=1) ?fstep ?ffin ⟨rfl,g,p,h1,h2,.inr ?finit⟩) ?fpost)
  case finit=>
   have:=uz.le h2;rw[aH]at this;show p.toList.length+0<=N
   lia
  case ffin=>
   rintro c st'' ⟨rfl,g,p,h1,h2,h3⟩;exact⟨rfl,g,p,h1,h2,()⟩
  case fstep=>
   rintro x c st'' _ hx ⟨rfl,g,p,h1,h2,h3⟩;refine aZ (gW ?_);rw[h1.pend];by_cases c:p.size<=1
   ·rw[aK c];exact bz ⟨rfl,g,p,h1,h2,c⟩
   ·rw[aJ c];have il:∀(d:Prop) [Decidable d],(if d then p.size-2-1 else p.size-2)+1<p.size:=λd _=>by
     by_cases hd:d
     ·rw[aK hd];lia
     ·rw[aJ hd];lia
    refine aZ (HC C h1 h2 (aR _) (il _) λg' p' st3 s3 q3 z3 _=>?_);exact bz ⟨rfl,g',p',s3,q3,()⟩
  case fpost=>
   rintro c st'' ⟨rfl,g,p,h1,h2,h3⟩;dsimp only;refine bz ?_;unfold PA at h2;have h3:p.toList.length<=1:=h3
   match hl:p.toList,h3 with
   | [],_=>
    rw[hl]at h2;have:0=N:=h2
    lia
   | [x],_=>
    rw[hl]at h2;obtain⟨e1,e2,e3,e4,e5⟩:=h2;have e5:0+x.2.1=N:=e5;have e3:Cl g 0 (0+x.2.1):=e3;have e4:So o g 0 (0+x.2.1):=e4;rw[e5]at e3 e4;exact q g p st'' h1 e3 e4
end
meta abbrev ED (h:aq)(a:ak)(vs:ba):aq:=((h.update a (Obj.mapSeq λ_=>#[])).push (seqObj "tuple" vs.toArray 0)).push (seqObj "list" #[] 0)
def KQ{h:aq}{a:ak}(hb:b≠a)(hlt:b<h.objs.size):(ED h a vs).get? b=h.get? b:=by
 rw[g_ _ _ _ (by rw[size_push',iC];exact bD (d_ hlt)),
  g_ _ _ _ (by rw[iC];exact bD hlt),Heap.get?_update_ne _ _ _ _ hb]
meta abbrev vv (vs:ba)(i:Nat):Keyed:=(vs.getD i .none,vs.getD i .none)
def zip_get(vs:ba){i:Nat}(h:i<vs.length):(vs.toArray.zip vs.toArray)[i]?=some (vv vs i):=by
 have e:vs[i]?=some (vs.getD i .none):=by rw[aI,aF h];rfl
 rw[Array.getElem?_zip_eq_some];exact⟨by rw[eZ];exact e,by rw[eZ];exact e⟩
section
variable {prog:aj}{w:ah}{A:az}{E:af->aA->Prop}{s:aA}{o:Ord}{kd:SortKind}
def zp{a:ak}{vs:ba}{n:Nat}{P:PySem.Fin->aA->Prop}(hL:s.heap.get? a=some (seqObj "list" vs.toArray n))(hsz:vs.length<=sizeLine)
  (hkk:2<=vs.length->∀Q:SortKind->aA->Prop,Q kd { s with heap:=ED s.heap a vs }->wpAny (model prog w) A (keyKind' vs.toArray) Q E { s with heap:=ED s.heap a vs })
  (C:2<=vs.length->Dh prog w A { s with heap:=ED s.heap a vs } o vs.length (vv vs) kd)
  (h:∀g,Cl g 0 vs.length->So o g 0 vs.length->P (.done (.ret .none)) { s with heap:=sortedHeap s.heap a vs ((List.range vs.length).map λi=>vs.getD (g i) .none).toArray }) :
  wpAny (model prog w) A (Builtin.«list.sort» ⟨[.ref a],[]⟩) P E s:=by
 rw[list_sort_plain];have lta:a<s.heap.objs.size:=bg hL;refine aG (fq hL rfl ?_);refine aG (listUpdate_at hL rfl ?_ (by rw[aY];exact hsz) (bL _));obtain⟨ep,hL1⟩:∃ep,(s.heap.update a (Obj.mapSeq λ_=>#[])).get? a=some (seqObj "list" #[] ep):=⟨_,get?_update_seq hL (λ_=>#[])⟩;refine aG (seqEpoch_at hL1 rfl ?_);refine aG (wpAny_newTuple ?_);refine aG (i6 ?_);refine dm ?_;have hL6:(ED s.heap a vs).get? a=some (seqObj "list" #[] ep):=by
  rw[g_ _ _ _ (by rw[size_push',iC];exact bD (d_ lta)),g_ _ _ _ (by rw[iC];exact bD lta)];exact hL1
 skip
 dsimp only;have hz:vs.toArray.size=vs.length:=by simp
 have getE:∀i,i<vs.length->vs[i]?=some (vs.getD i .none):=λi hi=>by rw[aI,aF hi];rfl
 have qf:∀(arr:Array Keyed) (g:Nat->Nat),arr.size=vs.length->(∀i,i<vs.length->arr[i]?=some (vv vs (g i)))->arr.map (·.2)=((List.range vs.length).map λi=>vs.getD (g i) .none).toArray:=λarr g h1 two=>by
  apply Array.ext_getElem?;intro i;have e0:((List.range vs.length).map λi=>vs.getD (g i) Value.none).toArray[i]?=((List.range vs.length).map λi=>vs.getD (g i) Value.none)[i]?:=eZ ..;rw[Array.getElem?_map,e0,aO];by_cases c:i<vs.length
  ·rw[two i c,dQ c];rfl
  ·rw[h_ (),bQ (by rw[cF];lia)];rfl
 by_cases two:vs.toArray.size<2
 ·rw[aK two,aK two];refine aG (aP ?_);rw[StateT.run_pure];refine aG (aP ?_);dsimp only;refine aG (seqEpoch_at hL6 rfl ?_);have oe:=qf (vs.toArray.zip vs.toArray) (λi=>i) (by rw[jh,hz];lia) λi hi=>zip_get vs hi;refine aG (listUpdate_at hL6 rfl ?_ (by simp) (hsz2:=by rw[size_map];show(vs.toArray.zip vs.toArray).size<=_;rw[jh,hz];lia));dsimp[bne_self_eq_false,bA,cg];refine aP ?_;have:=h (λi=>i) (λi a b=>⟨a,b⟩) (λi j a b c=>());rw[<- oe]at this;exact this
 ·rw[aJ two,aJ two];have h2':2<=vs.length:=()
  refine aG (hkk h2' _ ?_);refine aG (f7 (SA (f:=vv vs) (N:=vs.length) (C h2') (st:=SortSt.mk' kd (vs.toArray.zip vs.toArray) #[] 7 none)
   (Q:=λ_ st'=>∃g p,Sg vs.length (vv vs) kd g p st'/\Cl g 0 vs.length/\So o g 0 vs.length)
   ⟨by show(vs.toArray.zip vs.toArray).size=_;rw[jh,hz];lia,λi hi=>zip_get vs hi,λi hi=>hi,rfl,rfl,rfl⟩ () λg' p' st' a1 a2 a3=>⟨g',p',a1,a2,a3⟩) ?_ λ_ _ e=>e)
  rintro⟨⟨⟩,st'⟩ s' ⟨rfl,g,p,hS,hc,hso⟩;dsimp only;refine aG (seqEpoch_at hL6 rfl ?_);have oe:=qf (arrOf st') g hS.size hS.get;refine aG (listUpdate_at hL6 rfl ?_ (by simp) (hsz2:=by have hh:(arrOf st').size=vs.length:=hS.size;show((arrOf st').map (·.2)).size<=_;rw[size_map,hh];lia));rw[hS.failed];dsimp[bne_self_eq_false,bA,cg];have:=h g hc hso;rw[<- oe]at this;exact aP this
end
section
variable {prog:aj}{w:ah}{A:az}{E:af->aA->Prop}{s:aA}
def yJ(b:Bool)(x y:af):keyLt' (tuples' b) x y=(do
  let us <- Builtin.List.listItems x
  let vs <- Builtin.List.listItems y
  for ((u,v),k)in (us.toList.zip vs.toList).zipIdx do
   if !(<- eqBool u v)then return <- oneLt' (b && k == 0) u v
  return us.size<vs.size):=rfl
def Jf(b:Bool){x y:Int}{t:Tok}{Q:Bool->aA->Prop}(h:Q (decide (x<y)) s):wpAny (model prog w) A (oneLt' b (.int x t) (.int y u)) Q E s:=by
 cases b with
 | true=>exact oneLt_int h
 | false=>
  rw[oneLt'_eq];dsimp[bA,cg];exact aG (PySem.P.lt_int (dI h))
def Ht(b:Bool){l k:ak}{xs ys:ba}{ns:ag}{Q:Bool->aA->Prop}(hl:IsTup s.heap l xs.toArray)(hk:IsTup s.heap k ys.toArray)(hi:IntsAre xs ns)(hj:IntsAre ys ms)(h:Q (HT.lexLt ns ms) s) :
  wpAny (model prog w) A (keyLt' (tuples' b) (.ref l) (.ref k)) Q E s:=by
 rw[yJ];obtain⟨o1,ho1,_,n1,hd1⟩:=hl;obtain⟨o2,ho2,_,n2,hd2⟩:=hk;refine aG (fq ho1 hd1 ?_);refine aG (fq ho2 hd2 ?_);have key:∀(xs ys:ba) (ns ms:ag) (n:Nat),IntsAre xs ns->IntsAre ys ms->∀Q':bn×Unit->aA->Prop,(∀r,(r=some (HT.lexLt ns ms)\/(r=none/\HT.lexLt ns ms=decide (xs.length<ys.length)))->Q' (r,Unit.unit) s) ->
   wpAny (model prog w) A (forIn ((xs.zip ys).zipIdx n) ((none,Unit.unit):bn×Unit) λx c=>match x with
      | ((p,q),i)=>do
       let e <- eqBool p q
       if (!e)=true then do
         let r <- oneLt' (b && i == 0) p q
         pure (ForInStep.done (some r,Unit.unit))
        else pure (ForInStep.yield (none,Unit.unit))) Q' E s:=by
  intro xs
  induction xs with
  | nil=>
   intro ys ns ms n h1 h2 Q' q
   cases h1
   rw[List.zip_nil_left,List.zipIdx_nil,ji];refine aP (q none (.inr ⟨rfl,?_⟩))
   cases h2 with
   | nil=>rw[HT.pF];rfl
   | cons a t h2=>rw[HT.m9,bf (by simp)]
  | cons v vs ih=>
   intro ys ns ms n h1 h2 Q' q
   cases h1 with
   | cons a t h1=>
    cases h2 with
    | nil=>
     rw[List.zip_nil_right,List.zipIdx_nil,ji];exact aP (q none (.inr ⟨rfl,by rw[HT.oR,bw (by simp)]⟩))
    | cons c u h2=>
     rw[iO,i7,gE];rw[HT.qF]at q;dsimp only;refine aG (aG (wpAny_eqBool_int ?_));by_cases e:a=c
     ·rw[aK e]at q;subst e;dsimp[bO,ck,bA,cg];refine aP (ih _ _ _ _ h1 h2 _ λr hr=>q r ?_)
      rcases hr with hr|⟨hr,hz⟩
      ·exact .inl hr
      ·exact .inr ⟨hr,by rw[hz];simp⟩
     ·rw[aJ e]at q;have e':(a == c)=false:=by simpa using e
      dsimp[e',eT,cZ];exact aG (Jf _ (aP (aP (q _ (.inl rfl)))))
 refine aG (key xs ys ns ms 0 hi hj _ λr hr=>?_)
 rcases hr with rfl|⟨rfl,hz⟩
 ·exact aP h
 ·dsimp only;rw[aY,aY,<- hz];exact aP h
end
theorem Av:∀a:ag,HT.lexLt a a=false
 | []=>HT.pF
 | x::a=>by rw[HT.qF,aK rfl];exact Av a
theorem EG:∀{a b c:ag},HT.lexLt a b=true->HT.lexLt b c=true->HT.lexLt a c=true
 | [],[],_,h,_=>by rw[HT.pF]at h;cases h
 | x::a,[],_,h,_=>by rw[HT.oR]at h;cases h
 | _,y::b,[],_,h=>by rw[HT.oR]at h;cases h
 | [],y::b,z::c,_,_=>HT.m9 ..
 | x::a,y::b,z::c,h1,h2=>by
  rw[HT.qF]at h1 h2 ⊢;by_cases e1:x=y
  ·rw[aK e1]at h1;by_cases e2:y=z
   ·rw[aK e2]at h2;rw[aK (e1.trans e2)];exact EG h1 h2
   ·rw[aJ e2]at h2;have:=bX h2;rw[aJ (by omega)];exact bf (by omega)
  ·rw[aJ e1]at h1;have l1:=bX h1;by_cases e2:y=z
   ·rw[aJ (by omega)];exact bf (by omega)
   ·rw[aJ e2]at h2;have:=bX h2;rw[aJ (by omega)];exact bf (by omega)
theorem ya:∀{a b:ag},HT.lexLt a b=false->HT.lexLt b a=false->a=b
 | [],[],_,_=>rfl
 | [],y::b,h,_=>by rw[HT.m9]at h;cases h
 | x::a,[],_,h=>by rw[HT.m9]at h;cases h
 | x::a,y::b,h1,h2=>by
  rw[HT.qF]at h1 h2;by_cases e:x=y
  ·rw[aK e]at h1;rw[aK e.symm]at h2;rw[e,ya h1 h2]
  ·rw[aJ e]at h1;rw[aJ (λz=>e z.symm)]at h2;have:=dB h1;have:=dB h2
   lia
def IU{a c:ag}(h:HT.lexLt a c=true):HT.lexLt a b=true\/HT.lexLt b c=true:=by
 cases e:HT.lexLt a b with
 | true=>exact .inl rfl
 | false=>
  right
  cases e2:HT.lexLt b a with
  | true=>exact EG e2 h
  | false=>rw[<- ya e e2];exact h
abbrev Cm (kss:List (ag)):Ord where
 lt i j:=HT.lexLt (kss.getD i []) (kss.getD j [])
 MV i:=Av _
 tr i j k:=EG
 neg i j k:=IU
section
variable {prog:aj}{w:ah}{A:az}{E:af->aA->Prop}{s:aA}
theorem Km{α β:Type}{f:α->Sem β}(r:α->β):∀(l:List α),(∀a∈l,∀Q:β->aA->Prop,Q (r a) s->wpAny M A (f a) Q E s)->∀Q:List β->aA->Prop,Q (l.map r) s->wpAny M A (l.mapM f) Q E s
 | [],_,Q,q=>by rw[List.mapM_nil];exact aP q
 | a::l,h,Q,q=>by
  rw[List.mapM_cons];refine aG (h a (aM ..) _ (aG (Km r l (λb hb=>h b (aN _ hb)) _ (aP q))))
theorem An{α β:Type}{f:α->Sem β}(r:α->β)(l:List α)(h:∀a∈l,∀Q:β->aA->Prop,Q (r a) s->wpAny M A (f a) Q E s)(Q:Array β->aA->Prop)(q:Q (l.map r).toArray s):wpAny M A (l.toArray.mapM f) Q E s:=by
 rw[List.mapM_toArray,map_eq_pure_bind];exact aG (Km r l h _ (aP q))
def G6(u:af):firstOfTuple' u=(do
  if (<- typeOf u) != .type "tuple" then return none
  return (<- Builtin.List.listItems u)[0]?):=rfl
def Mm{vs:ba}(h0:vs≠[])(ht:∀v∈vs,∃(l:ak) (xs:ba) (n:Int) (t:Tok),v=.ref l/\IsTup s.heap l (.int n t::xs).toArray){Q:SortKind->aA->Prop}(q:Q (tuples' true) s) :
  wpAny (model prog w) A (keyKind' vs.toArray) Q E s:=by
 have ch:∀v,∃x:Int×Tok,v∈vs->∃(l:ak) (xs:ba),v=.ref l/\IsTup s.heap l (.int x.1 x.2::xs).toArray:=λv=>by
  by_cases c:v∈vs
  ·obtain⟨l,xs,n,t,e1,e2⟩:=ht v c;exact⟨(n,t),λ_=>⟨l,xs,e1,e2⟩⟩
  ·exact⟨(0,0),λz=>absurd z c⟩
 obtain⟨F,hF⟩:=Classical.axiomOfChoice ch;rw[keyKind'_eq];refine aG (An (λv=>some (Value.int (F v).1 (F v).2)) vs (λv hv Q' q'=>?_) _ ?_)
 ·obtain⟨l,xs,rfl,o,ho,hc,n,hd⟩:=hF v hv;rw[G6];refine aG (gc (T := "tuple") ⟨o,ho,hc⟩ ?_);rw[aJ ⋯];exact aG (fq ho hd (aP q'))
 ·rw[aK (by simp)];refine aG (eS ?_);have e1:(vs.map λv=>some (Value.int (F v).1 (F v).2)).toArray.filterMap id=(vs.map λv=>Value.int (F v).1 (F v).2).toArray:=by
   rw[List.filterMap_toArray,iP];congr 1;rw[show(id ∘ λv=>some (Value.int (F v).1 (F v).2))=λv=>some (Value.int (F v).1 (F v).2)from rfl];exact congrFun List.filterMap_eq_map' vs
  rw[e1,oneTypeOnly'_eq];refine aG (aG (An (λ_=>Value.type "int") _ (λv hv Q' q'=>?_) _ ?_))
  ·obtain⟨u,_,rfl⟩:=bu.mp hv;exact aP q'
  ·rw[bh];obtain⟨v0,vs',rfl⟩:∃v0 vs',vs=v0::vs':=by
    cases vs with
    | nil=>exact absurd rfl h0
    | cons a b=>exact⟨a,b,rfl⟩
   have ha:((List.map ((λ_=>Value.type "int") ∘ λv=>Value.int (F v).1 (F v).2) (v0::vs')).toArray.all λx=>x == Value.type "int")=true:=by
    dsimp[List.all_toArray,gS,eL];intro _ _;rfl
   have hz:(List.map ((λ_=>Value.type "int") ∘ λv=>Value.int (F v).1 (F v).2) (v0::vs')).toArray[0]?=some (Value.type "int"):=by simp
   rw[hz];dsimp[ha,cZ];exact aP (aP q)
end
end Sx
namespace L2
open PySem PySem.Spec PyProof.Rows
section
variable {X:Cx}
theorem zy:∀{rs:bd}{its:ba},Vals (rs.map V.ref) its->its=rs.map Value.ref
 | [],_,r=>by cases r;rfl
 | a::rs,_,r=>by
  cases r with
  | cons h t=>
   have e:_=Value.ref a:=h;rw[e,zy t];rfl
theorem zD:∀(rs:bd),Vals (rs.map V.ref) (rs.map Value.ref)
 | []=>.nil
 | a::rs=>.cons (show RelV (.ref a) (.ref a)from rfl) (zD rs)
def Mv{s:aA}{H:Hp}{Q:VK}{h':aq}{tk:Nat}{rs:bd}{kss:List (ag)}(I1:Inv X pins σ H { s with heap:=h',toks:=tk })(hlen:rs.length=kss.length)(hz:rs.length<=sizeLine)
  (hT:∀(i:Nat) (r:ak) (ks:ag),rs[i]?=some r->kss[i]?=some ks->m_ X.K H r (ks.map V.int)/\ks≠[])
  (q:∀l g,H l=none->Sx.Cl g 0 kss.length->Sx.So (Sx.Cm kss) g 0 kss.length->Q (.ref l) (upd H l (.lst (((List.range kss.length).map λi=>rs.getD (g i) 0).map V.ref)))) :
  wpAny (model X.prog X.w) X.A.in1 (do
   let l <- newList (rs.map Value.ref)
   let _ <- holding [l] (call (Value.builtin "list.sort") [l] [])
   ret l) (λfin s'=>∃v,fin=Fin.done (Flow.ret v)/\EP X pins σ Q v s') X.xe { s with heap:=h',toks:=tk }:=by
 have hN:(rs.map Value.ref).length=kss.length:=by rw[aH,hlen]
 refine aG (i6 ?_);have hoL:(h'.push (seqObj "list" (rs.map Value.ref).toArray 0)).get? h'.objs.size=some (seqObj "list" (rs.map Value.ref).toArray 0):=bC _ rfl
 skip
 have tup:∀(i:Nat) (r:ak) (ks:ag),rs[i]?=some r->kss[i]?=some ks->∃its:ba,IntsAre its ks/\IsTup (Sx.ED (h'.push (seqObj "list" (rs.map Value.ref).toArray 0)) h'.objs.size (rs.map Value.ref)) r its.toArray:=λi r ks e1 e2=>by
  obtain⟨its,rv,⟨o,ho,hc,n,hd⟩,_⟩:=I1.tuple (hT i r ks e1 e2).1;refine⟨its,intsAre_of rv,o,?_,hc,n,hd⟩;have lt:r<h'.objs.size:=bg ho;rw[Sx.KQ (bD lt) (by rw[dX];exact d_ lt)];exact aV _ ho
 refine aG (dm (dG slot_list_sort ⟨_,hoL,rfl⟩ entry_list_sort (Sx.zp (o:=Sx.Cm kss) (kd:=tuples' true) hoL (by rw[hN];lia) (λh2 Q' q'=>?_) (λh2 i j hi hj E' Q' q'=>?_) λg hc hs=>⟨_,rfl,?_⟩) (args_list_sort _)))
 ·refine Sx.Mm (λz=>by rw[z]at h2;simp at h2) (λv hv=>?_) q';obtain⟨i,hi⟩:=fj hv;rw[aO]at hi;obtain⟨r,hr,rfl⟩:=aX.mp hi;have lt:=(aL.mp hr).1;have e2:kss[i]?=some kss[i]:=aF ();obtain⟨its,h1,h3⟩:=tup i r _ hr e2;have hne:=(hT i r _ hr e2).2;generalize kss[i]=ks at h1 hne
  cases h1 with
  | nil=>exact absurd rfl hne
  | cons a t h1=>exact⟨r,_,a,t,rfl,h3⟩
 ·rw[hN]at hi hj;have e1:rs[i]?=some (rs[i]'()):=aF _;have e2:rs[j]?=some (rs[j]'()):=aF _;have k1:kss[i]?=some kss[i]:=aF hi;have k2:kss[j]?=some kss[j]:=aF hj;obtain⟨x1,a1,b1⟩:=tup i _ _ e1 k1;obtain⟨x2,a2,b2⟩:=tup j _ _ e2 k2;have v1:(rs.map Value.ref).getD i .none=.ref (rs[i]'()):=by rw[aI,aO,e1];rfl
  have v2:(rs.map Value.ref).getD j .none=.ref (rs[j]'()):=by rw[aI,aO,e2];rfl
  show wpAny _ _ (keyLt' (tuples' true) ((rs.map Value.ref).getD i .none) ((rs.map Value.ref).getD j .none)) Q' E' _;rw[v1,v2];refine Sx.Ht true b1 b2 a1 a2 ?_;have d1:kss.getD i []=kss[i]:=by rw[aI,k1];rfl
  have d2:kss.getD j []=kss[j]:=by rw[aI,k2];rfl
  have:(Sx.Cm kss).lt i j=HT.lexLt kss[i] kss[j]:=by show HT.lexLt _ _=_;rw[d1,d2]
  rw[<- this];exact q'
 ·rw[hN]at hc hs ⊢;obtain⟨e,he⟩:=sortedHeap_at (out:=((List.range kss.length).map λi=>(rs.map Value.ref).getD (g i) .none).toArray) hoL;have old:∀b ob,h'.get? b=some ob->(sortedHeap (h'.push (seqObj "list" (rs.map Value.ref).toArray 0)) h'.objs.size (rs.map Value.ref) ((List.range kss.length).map λi=>(rs.map Value.ref).getD (g i) .none).toArray).get? b=some ob:=λb ob eb=>by
   rw[sortedHeap_old (bD (bg eb)) (by rw[dX];exact d_ (bg eb))];exact aV _ eb
  refine aP ⟨_,rfl,.ref h'.objs.size,_,I1.laid (t':=tk) (o:=.lst (((List.range kss.length).map λi=>rs.getD (g i) 0).map V.ref)) old (aR _) ?_,rfl,q _ g (I1.hok.fresh (aR _)) hc hs⟩;refine⟨by rw[aH,aH,cF];lia,((List.range kss.length).map λi=>rs.getD (g i) 0).map Value.ref,e,zD _,?_⟩;rw[he];congr 2;rw[bh];congr 1;refine cP λi hi=>?_;have:=(hc i (bL _) (cU.mp hi)).2;have lt:g i<rs.length:=()
  show(rs.map Value.ref).getD (g i) .none=Value.ref (rs.getD (g i) 0);rw[aI,aO,aF lt,aI,aF lt];rfl
end
end L2
namespace Sx
open PySem PyProof.Rows
open PySem.AutoSeq1 (wpAny_loadPart')
open PySem.MeetsSeq PySem.MeetsSeq2 PySem.MeetsSeq3
theorem AM:∀{xs:ba}{ns:ag}{i:Nat},IntsAre xs ns->i<ns.length->∃t,xs[i]?=some (.int (ns.getD i 0) t)
 | _,_,i,.nil,h=>absurd h (fV _)
 | _,_,0,.cons n t h,_=>⟨t,rfl⟩
 | _,_,i+1,.cons n t h,hi=>by
  obtain⟨t',e⟩:=AM h (i:=i) (by simpa using hi);exact⟨t',by simpa using e⟩
end Sx
namespace Am
open PySem
inductive A where
 | unb|non|bl (b:Bool)|int (i:Int)|str (x:Str)|tup (xs:List A)|frz (xs:List A)|rng (lo hi:Int)|ref (n:Nat)|exn (c:Str)|ty (n:String)|ktu (xs:List A)
@[reducible]def ae:=List A
inductive O where
 | lst (xs:ae)|dct (kvs:List (ag×A))|pK (kvs:List (Int×A))|ins (c:Str) (fs:List (Str×A))
meta abbrev jz:=List O
inductive R (α:Type) where
 | ok (a:α) (S:jz)|ex (c:Str) (S:jz)|no
abbrev R.bind {α β:Type}(r:R α)(f:α->jz->R β):R β:=match r with
 | .ok a S=>f a S
 | .ex c S=>.ex c S
 | .no=>.no
abbrev R.post {α:Type}(r:R α)(P:α->jz->Prop)(E:Str->jz->Prop):Prop:=match r with
 | .ok a S=>P a S
 | .ex c S=>E c S
 | .no=>False
def jD{α β:Type}{r:R α}{f:α->jz->R β}{P:β->jz->Prop}{E:Str->jz->Prop}(h:(r.bind f).post P E):r.post (λa S=>(f a S).post P E) E:=by
 cases r<;>exact h
def L8{α:Type}{r:R α}{P P':α->jz->Prop}{E E':Str->jz->Prop}(h:r.post P E)(hp:∀a S,P a S->P' a S)(he:∀c S,E c S->E' c S):r.post P' E':=by
 cases r with
 | ok a S=>exact hp _ _ h
 | ex c S=>exact he _ _ h
 | no=>exact h.elim
abbrev gd {α:Type}(c:Prop)[Decidable c](r:R α):R α:=if c then r else .no
abbrev opt {α β:Type}(o:Option β)(f:β->R α):R α:=match o with
 | some b=>f b
 | none=>.no
def jY{α:Type}{c:Prop}[Decidable c]{r:R α}{P:α->jz->Prop}{E:Str->jz->Prop}(h:(gd c r).post P E):c/\r.post P E:=by
 unfold gd at h;by_cases hc:c
 ·rw[aK hc]at h;exact⟨hc,h⟩
 ·rw[aJ hc]at h;exact h.elim
def jF{α β:Type}{o:Option β}{f:β->R α}{P:α->jz->Prop}{E:Str->jz->Prop}(h:(opt o f).post P E):∃b,o=some b/\(f b).post P E:=by
 cases o with
 | none=>exact h.elim
 | some b=>exact⟨b,rfl,h⟩
theorem abl{α:Type}{c:Prop}[Decidable c]{r:R α}(h:c):gd c r=r:=aK h
abbrev ju (S:jz)(n:Nat):Option (ae):=match S[n]? with
 | some (.lst xs)=>some xs
 | _=>none
def jN{n:Nat}(h:ju S n=some xs):S[n]?=some (.lst xs):=by
 unfold ju at h;split at h
 ·rename_i e;cases h;exact e
 ·cases h
def yh{S:jz}{n:Nat}(h:S[n]?=some (.lst xs)):ju S n=some xs:=by
 unfold ju;rw[h]
inductive RS where
 | nx (τ:ae) (S:jz)|rt (a:A) (S:jz)|bk (τ:ae) (S:jz)|ct (τ:ae) (S:jz)|ex (c:Str) (S:jz)|no
meta abbrev Ex:=ae->jz->R A
meta abbrev sP:=ae->jz->R (ae)
meta abbrev Te:=ae->jz->R Bool
meta abbrev Sm:=ae->jz->RS
meta abbrev Tg:=A->ae->jz->R (ae)
end Am
namespace Am
open PySem L2
section
variable (K:au) (ρ:bd) (H:Hp)
abbrev ClN (K:au)(c:Str)(C:ak):Prop:=PySem.W.nsIn K mainGlobals c=some (some (.ref C))
abbrev Fz (K:au)(H:Hp)(a:ak)(vs:List V):Prop:=
 (∃o,H a=some (.frz o (.lst vs)))\/∃(o:Obj) (its:Array af) (n:Nat),K.lookup a=some o/\o.cls=.type "list" /\ o.dict=none/\o.data=.seq its n/\its.size<=sizeLine/\Vals vs its.toList
abbrev KTp (K:au)(a:ak)(vs:List V):Prop:=∃(o:Obj) (its:Array af) (n:Nat),K.lookup a=some o/\o.cls=.type "tuple" /\ o.dict=none/\o.data=.seq its n/\its.size<=sizeLine/\Vals vs its.toList
mutual
inductive AV:A->V->Prop
 | non:AV .non .non
 | bl (b:Bool):AV (.bl b) (.bl b)
 | int (i:Int):AV (.int i) (.int i)
 | str (x:Str):AV (.str x) (.str x)
 | ty (n:String):AV (.ty n) (.ty n)
 | tup {a:ak} {xs:ae} {vs:List V} (h:H a=some (.tup vs)) (r:AVs xs vs):AV (.tup xs) (.ref a)
 | frz {a:ak} {xs:ae} {vs:List V} (h:Fz K H a vs) (r:AVs xs vs):AV (.frz xs) (.ref a)
 | rng {a:ak} {lo hi:Int} (h:H a=some (.rng lo hi)):AV (.rng lo hi) (.ref a)
 | ref {a:ak} {n:Nat} (h:ρ[n]?=some a):AV (.ref n) (.ref a)
 | exn {a C:ak} {c:Str} {oe:Obj} (n:ClN K c C) (h:H a=some (.frz oe xu)) (x:XO C oe):AV (.exn c) (.ref a)
 | ktu {a:ak} {xs:ae} {vs:List V} (h:KTp K a vs) (r:AVs xs vs):AV (.ktu xs) (.ref a)
inductive AVs:ae->List V->Prop
 | nil:AVs [] []
 | cons {x:A} {v:V} {xs:ae} {vs:List V} (h:AV x v) (t:AVs xs vs):AVs (x::xs) (v::vs)
end
abbrev DV:List (ag×A)->List (List Key×V)->Prop
 | [],[]=>True
 | p::r,q::r'=>(q.1=p.1.map Sum.inl/\AV K ρ H p.2 q.2)/\DV r r'
 | _,_=>False
abbrev DI:List (Int×A)->List (Key×V)->Prop
 | [],[]=>True
 | p::r,q::r'=>(q.1=Sum.inl p.1/\AV K ρ H p.2 q.2)/\DI r r'
 | _,_=>False
abbrev OR (a:ak):O->Prop
 | .lst xs=>∃vs,H a=some (.lst vs)/\AVs K ρ H xs vs
 | .dct kvs=>∃ks,H a=some (.dT ks)/\DV K ρ H kvs ks
 | .pK kvs=>∃ks,H a=some (.dK ks)/\DI K ρ H kvs ks
 | .ins _ _=>∃o u,H a=some (.frz o u)
structure Rel (S:jz):Prop where
 len:ρ.length=S.length
 nd:ρ.Nodup
 «at»:∀(n:Nat) (a:ak) (o:O),ρ[n]?=some a->S[n]?=some o->OR K ρ H a o
end
abbrev Imm:HO->Prop
 | .tup _=>True
 | .rng _ _=>True
 | .frz _ _=>True
 | _=>False
structure Ext0 (ρ ρ':bd)(H H':Hp):Prop where
 pre:ρ <+: ρ'
 im:∀a u,Imm u->H a=some u->H' a=some u
structure Ext (ρ ρ':bd)(H H':Hp):Prop extends Ext0 ρ ρ' H H' where
 fr:∀a u,H a=some u->a∉ρ->H' a=some u
 nw:∀a,a∈ρ'->a∈ρ\/H a=none
def Ext.refl{H:Hp}:Ext ρ ρ H H:=⟨⟨eN _,λ_ _ _ h=>h⟩,λ_ _ h _=>h,λ_ h=>.inl h⟩
def Ext.trans{H H1 H2:Hp}(a:Ext ρ ρ1 H H1)(b:Ext ρ1 ρ2 H1 H2):Ext ρ ρ2 H H2:=⟨⟨a.pre.trans b.pre,λx u i h=>b.im x u i (a.im x u i h)⟩,λx u h n=>b.fr x u (a.fr x u h n) λz=>(a.nw x z).elim n λz=>by(rw[z]at h;cases h),λx h=>by
 by_cases hx:x∈ρ
 ·exact .inl hx
 ·right
  cases q:H x with
  | none=>rfl
  | some u=>
   rcases b.nw x h with z|z
   ·exact((a.nw x z).elim hx λz=>by(rw[z]at q;cases q)).elim
   ·rw[a.fr x u q hx]at z;cases z⟩
def Ext0.get{H H':Hp}(e:Ext0 ρ ρ' H H'){n:Nat}{a:ak}(h:ρ[n]?=some a):ρ'[n]?=some a:=by
 obtain⟨t,rfl⟩:=e.pre;rw[bI (aL.mp h).1];exact h
section
variable {K:au}{ρ ρ':bd}{H H':Hp}
def Ext0.sqT(e:Ext0 ρ ρ' H H'){a:ak}(h:m_ K H a vs):m_ K H' a vs:=by
 rcases h with(h|⟨o,h⟩)|h
 ·exact .inl (.inl (e.im _ _ trivial h))
 ·exact .inl (.inr ⟨o,e.im _ _ trivial h⟩)
 ·exact .inr h
def Ext0.fz(e:Ext0 ρ ρ' H H'){a:ak}(h:Fz K H a vs):Fz K H' a vs:=by
 rcases h with⟨o,h⟩|h
 ·exact .inl ⟨o,e.im _ _ trivial h⟩
 ·exact .inr h
def Fz.RZ{a:ak}(h:Fz K H a vs):rG K H a vs:=by
 rcases h with⟨o,h⟩|h
 ·exact .inl (.inr ⟨o,h⟩)
 ·exact .inr h
mutual
theorem AV.nZ(e:Ext0 ρ ρ' H H'):∀{x:A}{v:V},AV K ρ H x v->AV K ρ' H' x v
 | _,_,.non=>.non
 | _,_,.bl b=>.bl b
 | _,_,.int i=>.int i
 | _,_,.str x=>.str x
 | _,_,.ty x=>.ty x
 | _,_,.tup h r=>.tup (e.im _ _ trivial h) (AVs.nZ e r)
 | _,_,.frz h r=>.frz (e.fz h) (AVs.nZ e r)
 | _,_,.rng h=>.rng (e.im _ _ trivial h)
 | _,_,.ref h=>.ref (e.get h)
 | _,_,.exn n h x=>.exn n (e.im _ _ trivial h) x
 | _,_,.ktu h r=>.ktu h (AVs.nZ e r)
theorem AVs.nZ(e:Ext0 ρ ρ' H H'):∀{xs:ae}{vs:List V},AVs K ρ H xs vs->AVs K ρ' H' xs vs
 | _,_,.nil=>.nil
 | _,_,.cons h t=>.cons (AV.nZ e h) (AVs.nZ e t)
end
theorem DV.nZ(e:Ext0 ρ ρ' H H'):∀{xs:List (ag×A)}{vs:List (List Key×V)},DV K ρ H xs vs->DV K ρ' H' xs vs
 | [],[],_=>trivial
 | _::_,_::_,⟨⟨a,b⟩,r⟩=>⟨⟨a,AV.nZ e b⟩,DV.nZ e r⟩
def DV.ext{x:List (ag×A)}{v:List (List Key×V)}(h:DV K ρ H x v)(e:Ext ρ ρ' H H'):DV K ρ' H' x v:=DV.nZ e.toExt0 h
theorem DI.nZ(e:Ext0 ρ ρ' H H'):∀{xs:List (Int×A)}{vs:List (Key×V)},DI K ρ H xs vs->DI K ρ' H' xs vs
 | [],[],_=>trivial
 | _::_,_::_,⟨⟨a,b⟩,r⟩=>⟨⟨a,AV.nZ e b⟩,DI.nZ e r⟩
def DI.ext{x:List (Int×A)}{v:List (Key×V)}(h:DI K ρ H x v)(e:Ext ρ ρ' H H'):DI K ρ' H' x v:=DI.nZ e.toExt0 h
def AV.ext{x:A}{v:V}(h:AV K ρ H x v)(e:Ext ρ ρ' H H'):AV K ρ' H' x v:=AV.nZ e.toExt0 h
def AVs.ext{x:ae}{v:List V}(h:AVs K ρ H x v)(e:Ext ρ ρ' H H'):AVs K ρ' H' x v:=AVs.nZ e.toExt0 h
theorem AVs.length:∀{xs:ae}{vs:List V},AVs K ρ H xs vs->xs.length=vs.length
 | _,_,.nil=>rfl
 | _,_,.cons _ t=>dj (·+1) (AVs.length t)
theorem AVs.append:∀{xs ys:ae}{vs ws:List V},AVs K ρ H xs vs->AVs K ρ H ys ws->AVs K ρ H (xs++ys) (vs++ws)
 | _,_,_,_,.nil,s=>s
 | _,_,_,_,.cons h t,s=>.cons h (AVs.append t s)
theorem AVs.take:∀{xs:ae}{vs:List V}(n:Nat),AVs K ρ H xs vs->AVs K ρ H (xs.take n) (vs.take n)
 | _,_,0,_=>.nil
 | _,_,_+1,.nil=>.nil
 | _,_,n+1,.cons h t=>.cons h (AVs.take n t)
theorem AVs.drop:∀{xs:ae}{vs:List V}(n:Nat),AVs K ρ H xs vs->AVs K ρ H (xs.drop n) (vs.drop n)
 | _,_,0,r=>r
 | _,_,_+1,.nil=>.nil
 | _,_,n+1,.cons _ t=>AVs.drop n t
theorem AVs.get:∀{xs:ae}{vs:List V}{i:Nat}{x:A},AVs K ρ H xs vs->xs[i]?=some x->∃v,vs[i]?=some v/\AV K ρ H x v
 | _,_,_,_,.nil,e=>by simp at e
 | _,_,0,_,.cons h _,e=>by simp at e;subst e;exact⟨_,rfl,h⟩
 | _,_,i+1,x,.cons _ t,e=>by
  obtain⟨u,h1,h2⟩:=AVs.get (i:=i) (x:=x) t (by simpa using e);exact⟨u,by simpa using h1,h2⟩
theorem AVs.set{x:A}{v:V}(h:AV K ρ H x v):∀{xs:ae}{vs:List V}(i:Nat),AVs K ρ H xs vs->AVs K ρ H (xs.set i x) (vs.set i v)
 | _,_,_,.nil=>.nil
 | _,_,0,.cons _ t=>.cons h t
 | _,_,i+1,.cons q t=>.cons q (AVs.set h i t)
def AVs.one{x:A}{v:V}(h:AV K ρ H x v):AVs K ρ H [x] [v]:=.cons h .nil
theorem AVs.eraseIdx:∀{xs:ae}{vs:List V}(i:Nat),AVs K ρ H xs vs->AVs K ρ H (xs.eraseIdx i) (vs.eraseIdx i)
 | _,_,_,.nil=>.nil
 | _,_,0,.cons _ t=>t
 | _,_,i+1,.cons q t=>.cons q (AVs.eraseIdx i t)
theorem tV:∀(ns:ag),AVs K ρ H (ns.map .int) (ns.map .int)
 | []=>.nil
 | n::ns=>.cons (.int n) (tV ns)
def Rel.lay{S:jz}{p:ak}(R:Rel K ρ H S)(hp:H p=none)(r:AVs K ρ H xs vs):Ext ρ (ρ++[p]) H (upd H p (.lst vs))/\Rel K (ρ++[p]) (upd H p (.lst vs)) (S++[.lst xs])/\(ρ++[p])[S.length]?=some p:=by
 have ex:Ext ρ (ρ++[p]) H (upd H p (.lst vs)):=⟨⟨eV _ _,λa u _ h=>by rw[jH (jP h hp)];exact h⟩,λa u h _=>by rw[jH (jP h hp)];exact h,λa h=>by
  rcases bH.mp h with z|z
  ·exact .inl z
  ·have e:a=p:=by simpa using z
   rw[e];exact .inr hp⟩
 have np:∀(n:Nat) (a:ak),ρ[n]?=some a->a≠p:=by
  intro n a e z;subst z;have hn:n<S.length:=by rw[<- R.len];exact(aL.mp e).1
  have:=R.at n a S[n] e (aF hn)
  cases ho:S[n]with
  | lst xs=>rw[ho]at this;obtain⟨vs,h,_⟩:=this;rw[hp]at h;cases h
  | dct _|pK _=>rw[ho]at this;obtain⟨vs,h,_⟩:=this;rw[hp]at h;cases h
  | ins _ _=>rw[ho]at this;obtain⟨_,_,h⟩:=this;rw[hp]at h;cases h
 have last:(ρ++[p])[S.length]?=some p:=by rw[<- R.len];simp
 refine⟨ex,⟨by simp[R.len],?_,?_⟩,last⟩
 ·rw[eg];refine⟨R.nd,by simp,λa ha b hb e=>?_⟩;have:b=p:=by simpa using hb
  obtain⟨n,hn,e'⟩:=List.mem_iff_getElem.mp ha;exact np n a (by rw[aF hn,e']) (e.trans this)
 ·intro n a o h1 h2;by_cases hn:n<S.length
  ·rw[bI (by rw[R.len];exact hn)]at h1;rw[bI hn]at h2;have:=R.at n a o h1 h2
   cases o with
   | lst ys=>obtain⟨ws,e,q⟩:=this;exact⟨ws,by rw[jH (np n a h1)];exact e,q.ext ex⟩
   | dct _|pK _=>obtain⟨ws,e,q⟩:=this;exact⟨ws,by rw[jH (np n a h1)];exact e,q.ext ex⟩
   | ins _ _=>obtain⟨oo,uu,e⟩:=this;exact⟨oo,uu,by rw[jH (np n a h1)];exact e⟩
  ·have e:n=S.length:=by
    have:=(aL.mp h2).1;simp at this
    lia
   subst e;rw[last]at h1
   cases h1
   simp at h2;subst h2;exact⟨vs,kP,r.ext ex⟩
def Rel.im{p:ak}(R:Rel K ρ H S)(hp:H p=none):Ext ρ ρ H (upd H p u)/\Rel K ρ (upd H p u) S:=by
 have ex:Ext ρ ρ H (upd H p u):=⟨⟨eN _,λa u _ h=>by rw[jH (jP h hp)];exact h⟩,λa u h _=>by rw[jH (jP h hp)];exact h,λ_ h=>.inl h⟩;refine⟨ex,R.len,R.nd,λn a o h1 h2=>?_⟩;have:=R.at n a o h1 h2
 cases o with
 | lst ys=>obtain⟨ws,e,q⟩:=this;exact⟨ws,by rw[jH (jP e hp)];exact e,q.ext ex⟩
 | dct _|pK _=>obtain⟨ws,e,q⟩:=this;exact⟨ws,by rw[jH (jP e hp)];exact e,q.ext ex⟩
 | ins _ _=>obtain⟨oo,uu,e⟩:=this;exact⟨oo,uu,by rw[jH (jP e hp)];exact e⟩
def Rel.put{S:jz}{n:Nat}{a:ak}(R:Rel K ρ H S)(ha:ρ[n]?=some a)(hS:S[n]?=some (.lst xs))(r:AVs K ρ H ys ws):Ext ρ ρ H (upd H a (.lst ws))/\Rel K ρ (upd H a (.lst ws)) (S.set n (.lst ys)):=by
 obtain⟨vs,e,_⟩:=R.at n a _ ha hS;have ex:Ext ρ ρ H (upd H a (.lst ws)):=⟨⟨eN _,λb u i h=>by
  have:b≠a:=by
   intro z;subst z;rw[e]at h;cases h;exact i
  rw[jH this];exact h⟩,λb u h n=>by
  rw[jH (λz=>n (by rw[z];exact aW ha))];exact h,λ_ h=>.inl h⟩
 refine⟨ex,by rw[cE];exact R.len,R.nd,λm b o h1 h2=>?_⟩;by_cases hm:m=n
 ·subst hm;rw[ha]at h1;cases h1;rw[b_ (aL.mp hS).1]at h2
  cases h2
  exact⟨ws,kP,r.ext ex⟩
 ·rw[cJ (dw hm)]at h2;have nb:b≠a:=λz=>by
   subst z;obtain⟨l1,e1⟩:=aL.mp ha;obtain⟨l2,e2⟩:=aL.mp h1;exact hm ((dF R.nd).mp (e2.trans e1.symm))
  have:=R.at m b o h1 h2
  cases o with
  | lst ys=>obtain⟨ws',e',q⟩:=this;exact⟨ws',by rw[jH nb];exact e',q.ext ex⟩
  | dct _|pK _=>obtain⟨ws',e',q⟩:=this;exact⟨ws',by rw[jH nb];exact e',q.ext ex⟩
  | ins _ _=>obtain⟨oo,uu,e'⟩:=this;exact⟨oo,uu,by rw[jH nb];exact e'⟩
def Rel.lst{n:Nat}{a:ak}(R:Rel K ρ H S)(ha:ρ[n]?=some a)(hS:S[n]?=some (.lst xs)):∃vs,H a=some (.lst vs)/\AVs K ρ H xs vs:=R.at n a _ ha hS
structure SR (K:au)(ρ:bd)(H:Hp)(τ:ae)(σ:St):Prop where
 len:τ.length=σ.length
 «at»:∀(i:Nat) (a:A),τ[i]?=some a->a=.unb\/∃v,σ[i]?=some (some v)/\AV K ρ H a v
def SR.nZ(s:SR K ρ H τ σ)(e:Ext0 ρ ρ' H H'):SR K ρ' H' τ σ:=⟨s.len,λi a h=>by
 rcases s.at i a h with z|⟨v,h1,h2⟩
 ·exact .inl z
 ·exact .inr ⟨v,h1,AV.nZ e h2⟩⟩
def SR.ext(s:SR K ρ H τ σ)(e:Ext ρ ρ' H H'):SR K ρ' H' τ σ:=s.nZ e.toExt0
def Rel.out{D:ak}(R:Rel K ρ H S)(hD:H D=some (.lst vs))(hn:D∉ρ):Ext0 ρ ρ H (upd H D (.lst ws))/\Rel K ρ (upd H D (.lst ws)) S:=by
 have ex:Ext0 ρ ρ H (upd H D (.lst ws)):=⟨eN _,λb u i h=>by
  have:b≠D:=by
   intro z;subst z;rw[hD]at h;cases h;exact i
  rw[jH this];exact h⟩
 refine⟨ex,R.len,R.nd,λn a o h1 h2=>?_⟩;have na:a≠D:=λz=>hn (by rw[<- z];exact aW h1);have:=R.at n a o h1 h2
 cases o with
 | lst ys=>obtain⟨ws',e,q⟩:=this;exact⟨ws',by rw[jH na];exact e,AVs.nZ ex q⟩
 | dct _|pK _=>obtain⟨ws',e,q⟩:=this;exact⟨ws',by rw[jH na];exact e,q.nZ ex⟩
 | ins _ _=>obtain⟨oo,uu,e⟩:=this;exact⟨oo,uu,by rw[jH na];exact e⟩
def Rel.take{S:jz}{D:ak}(R:Rel K ρ H S)(hD:H D=some (.lst vs))(hn:D∉ρ)(r:AVs K ρ H xs vs):Rel K (ρ++[D]) H (S++[.lst xs])/\(ρ++[D])[S.length]?=some D:=by
 have ex:Ext0 ρ (ρ++[D]) H H:=⟨eV _ _,λ_ _ _ h=>h⟩;have last:(ρ++[D])[S.length]?=some D:=by rw[<- R.len];simp
 refine⟨⟨by simp[R.len],?_,λn a o h1 h2=>?_⟩,last⟩
 ·rw[eg];refine⟨R.nd,by simp,λa ha b hb e=>?_⟩;have:b=D:=by simpa using hb
  exact hn (by rw[<- this,<- e];exact ha)
 ·by_cases hs:n<S.length
  ·rw[bI (by rw[R.len];exact hs)]at h1;rw[bI hs]at h2;have:=R.at n a o h1 h2
   cases o with
   | lst ys=>obtain⟨ws,e,q⟩:=this;exact⟨ws,e,AVs.nZ ex q⟩
   | dct _|pK _=>obtain⟨ws,e,q⟩:=this;exact⟨ws,e,q.nZ ex⟩
   | ins _ _=>obtain⟨oo,uu,e⟩:=this;exact⟨oo,uu,e⟩
  ·have e:n=S.length:=by
    have:=(aL.mp h2).1;simp at this
    lia
   subst e;rw[last]at h1
   cases h1
   simp at h2;subst h2;exact⟨vs,hD,AVs.nZ ex r⟩
def SR.set{τ:ae}{σ:St}{a:A}{v:V}(s:SR K ρ H τ σ)(h:AV K ρ H a v):SR K ρ H (τ.set i a) (σ.set i (some v)):=by
 refine⟨by simp[s.len],λj b e=>?_⟩;by_cases hj:j=i
 ·subst hj;have hl:j<τ.length:=by
   have:=(aL.mp e).1;simpa using this
  rw[b_ hl]at e
  cases e
  exact .inr ⟨v,b_ (by rw[<- s.len];exact hl),h⟩
 ·rw[cJ (dw hj)]at e;rw[cJ (dw hj)];exact s.at j b e
end
end Am
namespace Am
open PySem PySem.Spec PyProof.Rows L2
abbrev XE (X:Cx)(ρ:bd)(H:Hp):Str->jz->Prop:=λc S'=>∀(C:ak) (ρ':bd) (H':Hp),ClN X.K c C->Ext ρ ρ' H H'->Rel X.K ρ' H' S'->EX X (.ref C) none H'
def XE.ext{X:Cx}{H H':Hp}{c:Str}(h:XE X ρ H c S)(e:Ext ρ ρ' H H'):XE X ρ' H' c S:=λC ρ2 H2 n e2=>h C ρ2 H2 n (e.trans e2)
abbrev Cu (X:Cx)(ρ:bd)(H:Hp)(Q:VK):A->jz->Prop:=λa S'=>∀ρ' H' v,Ext ρ ρ' H H'->Rel X.K ρ' H' S'->AV X.K ρ' H' a v->Q v H'
abbrev okB (X:Cx)(ρ:bd)(H:Hp)(Q:Bool->Hp->Prop):Bool->jz->Prop:=λb S'=>∀ρ' H',Ext ρ ρ' H H'->Rel X.K ρ' H' S'->Q b H'
abbrev okL (X:Cx)(ρ:bd)(H:Hp)(Q:List V->Hp->Prop):ae->jz->Prop:=λas S'=>∀ρ' H' vs,Ext ρ ρ' H H'->Rel X.K ρ' H' S'->AVs X.K ρ' H' as vs->Q vs H'
def Cu.ext{X:Cx}{H H':Hp}{Q:VK}{a:A}(h:Cu X ρ H Q a S)(e:Ext ρ ρ' H H'):Cu X ρ' H' Q a S:=λρ2 H2 v e2=>h ρ2 H2 v (e.trans e2)
def okB.ext{X:Cx}{H H':Hp}{Q:Bool->Hp->Prop}{a:Bool}(h:okB X ρ H Q a S)(e:Ext ρ ρ' H H'):okB X ρ' H' Q a S:=λρ2 H2 e2=>h ρ2 H2 (e.trans e2)
def jC{α:Type}{X:Cx}{H H':Hp}{r:R α}{P P':α->jz->Prop}(h:r.post P (XE X ρ H))(e:Ext ρ ρ' H H')(hp:∀a S,P a S->P' a S):r.post P' (XE X ρ' H'):=L8 h hp λ_ _ z=>z.ext e
abbrev tE (X:Cx)(c:Ex):TE:=λσ H Q=>∃ρ S τ,Rel X.K ρ H S/\SR X.K ρ H τ σ/\(c τ S).post (Cu X ρ H Q) (XE X ρ H)
abbrev tT (X:Cx)(c:Te):TT:=λσ H Q=>∃ρ S τ,Rel X.K ρ H S/\SR X.K ρ H τ σ/\(c τ S).post (okB X ρ H Q) (XE X ρ H)
abbrev tL (X:Cx)(c:sP):TA:=λσ H Q=>∃ρ S τ,Rel X.K ρ H S/\SR X.K ρ H τ σ/\(c τ S).post (okL X ρ H Q) (XE X ρ H)
abbrev AE (X:Cx)(e:aC)(c:Ex):Prop:=PE X e (tE X c)
abbrev AT (X:Cx)(e:aC)(c:Te):Prop:=PT X e (tT X c)
abbrev AW (X:Cx)(e:aC)(c:Te):Prop:=PW X e (tT X c)
abbrev AL (X:Cx)(es:List aC)(c:sP):Prop:=PA X es (tL X c)
def PE.imp{X:Cx}{e:aC}{t t':TE}(h:PE X e t)(i:∀σ H Q,t' σ H Q->t σ H Q):PE X e t':=λpins s σ H Q I q=>h pins s σ H Q I (i σ H Q q)
def PT.imp{X:Cx}{e:aC}{t t':TT}(h:PT X e t)(i:∀σ H Q,t' σ H Q->t σ H Q):PT X e t':=λpins s σ H Q I q=>h pins s σ H Q I (i σ H Q q)
def PW.imp{X:Cx}{e:aC}{t t':TT}(h:PW X e t)(i:∀σ H Q,t' σ H Q->t σ H Q):PW X e t':=λw pins s σ H Q I q=>h w pins s σ H Q I (i σ H Q q)
def PA.imp{X:Cx}{e:List aC}{t t':TA}(h:PA X e t)(i:∀σ H Q,t' σ H Q->t σ H Q):PA X e t':=λp pins s σ H Q I q=>h p pins s σ H Q I (i σ H Q q)
def AW.at{X:Cx}{e:aC}{c:Te}(h:AW X e c):AT X e c:=h _
abbrev A.rC:A->Bool
 | .unb=>true
 | _=>false
abbrev jt (i:Nat):Ex:=λτ S=>if (τ.getD i .unb).rC then .no else .ok (τ.getD i .unb) S
abbrev eC (a:A):Ex:=λ_ S=>.ok a S
section
variable {X:Cx}{pos:Pos}{a b:aC}
def jn(i:Nat){x:Str}(hN:X.N[i]?=some x:=by rfl)(hv:Zm X.env.scope x:=by first|exact Or.inl rfl|exact Or.inr (Or.inl rfl)|exact Or.inr (Or.inr rfl))(hd:(x == ("__debug__" : Str))=false:=by decide)
  (hcd:(x == ("__classdict__" : Str))=false:=by decide):AE X (.Name x pos) (jt i):=PE.imp (NU hN hv hd hcd) λσ H Q h9=>by
 room;unfold jt at h
 cases hi:τ[i]? with
 | none=>
  rw[aI,hi]at h;exact h.elim
 | some x=>
  rw[aI,hi]at h
  rcases r.at i x hi with z|⟨v,e,q⟩
  ·subst z;exact h.elim
  ·refine⟨v,e,?_⟩
   cases x<;>first|(exact h ρ H v .refl R q)|exact h.elim
def jv{i:Int}{j pos}:AE X (.Constant (.int i) j pos) (eC (.int i)):=PE.imp YB λσ H Q ⟨ρ,S,τ,R,r,h⟩=>h ρ H _ .refl R (.int i)
def uR{j pos}:AE X (.Constant (.bool i) j pos) (eC (.bl i)):=PE.imp Y3 λσ H Q ⟨ρ,S,τ,R,r,h⟩=>h ρ H _ .refl R (.bl i)
abbrev jA (f:A->A->jz->R A)(ca cb:Ex):Ex:=λτ S=>(ca τ S).bind λa S1=>(cb τ S1).bind λb S2=>f a b S2
abbrev r2 (X:Cx)(f:A->A->jz->R A):R2:=λx y H Q=>∃ρ S a b,Rel X.K ρ H S/\AV X.K ρ H a x/\AV X.K ρ H b y/\(f a b S).post (Cu X ρ H Q) (XE X ρ H)
abbrev r1 (X:Cx)(f:A->jz->R A):V->Hp->VK->Prop:=λx H Q=>∃ρ S a,Rel X.K ρ H S/\AV X.K ρ H a x/\(f a S).post (Cu X ρ H Q) (XE X ρ H)
abbrev rN (X:Cx)(f:ae->jz->R A):List V->Hp->VK->Prop:=λxs H Q=>∃ρ S as,Rel X.K ρ H S/\AVs X.K ρ H as xs/\(f as S).post (Cu X ρ H Q) (XE X ρ H)
def pT.imp{f:af->af->Sem af}{r r':R2}(h:pT X f r)(i:∀x y H Q,r' x y H Q->r x y H Q):pT X f r':=λpins s σ H x y v u Q I rx ry q=>h pins s σ H x y v u Q I rx ry (i _ _ _ _ q)
def j9.imp{f:af}{r r':List V->Hp->VK->Prop}(h:j9 X f r)(i:∀x H Q,r' x H Q->r x H Q):j9 X f r':=λpins s σ H x v Q I rx q=>h pins s σ H x v Q I rx (i _ _ _ q)
def wj{f:A->A->jz->R A}{ca cb:Ex}{H:Hp}{Q:VK}(h:tE X (jA f ca cb) σ H Q):Y5 (r2 X f) (tE X ca) (tE X cb) σ H Q:=by
 kst_p;refine⟨ρ,S,τ,R,r,jC (jD h) .refl λa S1 h1 ρ1 H1 x e1 R1 v1=>⟨ρ1,S1,τ,R1,r.ext e1,jC (jD h1) e1 λb S2 h2 ρ2 H2 y e2 R2 v2=>?_⟩⟩;exact⟨ρ2,S2,a,b,R2,v1.ext e2,v2,jC h2 (e1.trans e2) λc S3 h3=>h3.ext (e1.trans e2)⟩
def jJ{f:A->A->jz->R A}{ca cb:Ex}(ho:pT X (binaryOp op) (r2 X f))(ha:AE X a ca)(hb:AE X b cb):AE X (.BinOp a op b pos) (jA f ca cb):=
 PE.imp (Z_ ho ha hb) λσ H Q h=>wj h
def Dw{op:CmpOp}{f:A->A->jz->R A}{ca cb:Ex}(ho:pT X (compareOp op) (r2 X f))(ha:AE X a ca)(hb:AE X b cb)(hm:behindInMarks op b=false:=by first|exact Pd _|with_unfolding_all rfl):AE X (.Compare a [op] [b] pos) (jA f ca cb):=
 PE.imp (U0 ho ha hb hm) λσ H Q h=>wj h
abbrev A.Ws:A->jz->bn
 | .non,_=>some false
 | .bl b,_=>some b
 | .int i,_=>some (i != 0)
 | .str x,_=>if x.length<=sizeLine then some ((x.length:Int) != 0)else none
 | .tup xs,_=>some (!xs.isEmpty)
 | .frz xs,_=>some (!xs.isEmpty)
 | .ref n,S=>(ju S n).map λxs=>!xs.isEmpty
 | _,_=>none
abbrev uf (c:Ex):Te:=λτ S=>(c τ S).bind λa S1=>opt (a.Ws S1) λb=>.ok b S1
abbrev uG (c:Ex):Te:=λτ S=>(c τ S).bind λa S1=>match a with
 | .bl b=>.ok b S1
 | _=>.no
def FZ{K:au}{H:Hp}{b:Bool}{v:V}(h:AV K ρ H (.bl b) v):v=.bl b:=by cases h;rfl
def kH{op:CmpOp}{f:A->A->jz->R A}{ca cb:Ex}(ho:pT X (compareOp op) (r2 X f))(ha:AE X a ca)(hb:AE X b cb)(hm:behindInMarks op b=false:=by first|exact Pd _|with_unfolding_all rfl):AT X (.Compare a [op] [b] pos) (uG (jA f ca cb)):=
 PT.imp (Ue ho ha hb hm) λσ H Q h9=>by
  room;refine wj ⟨ρ,S,τ,R,r,jC (jD h) .refl λc S1 h1 ρ1 H1 x e1 R1 v1=>?_⟩
  cases c with
  | bl k=>cases FZ v1;exact⟨k,rfl,h1 ρ1 H1 e1 R1⟩
  | _=>exact h1.elim
def W5{K:au}{H:Hp}{x:A}{v:V}{b:Bool}(R:Rel K ρ H S)(h:AV K ρ H x v)(e:x.Ws S=some b):XA K v H b:=by
 have emp:∀{xs:ae} {vs:List V},AVs K ρ H xs vs->(!xs.isEmpty)=!vs.isEmpty:=λr=>by cases r<;>rfl
 cases h with
 | non=>exact(a_ e).symm
 | bl b=>exact(a_ e).symm
 | int i=>exact(a_ e).symm
 | str x=>
  by_cases hx:x.length<=sizeLine
  ·exact⟨hx,by have:=(aK hx).symm.trans e;exact(a_ this).symm⟩
  ·have:=(aJ hx).symm.trans e;cases this
 | tup h r=>exact .inr (.inl ⟨_,m_.of h,by rw[<- emp r];exact(a_ e).symm⟩)
 | frz h r=>exact .inl ⟨_,h.RZ,by rw[<- emp r];exact(a_ e).symm⟩
 | rng h=>cases e
 | ty n=>cases e
 | exn n h x=>cases e
 | ktu h r=>cases e
 | @ref a n h=>
  have e:(ju S n).map (λxs=>!xs.isEmpty)=some b:=e;obtain⟨xs,hn,e⟩:=aX.mp e;obtain⟨vs,h1,h2⟩:=R.lst h (jN hn);exact .inl ⟨vs,rG.of h1,by rw[<- emp h2];exact e.symm⟩
theorem nv{ca:Ex}(ha:AE X a ca)(he:∀whole,isTrue a X.env whole=(do let v <- whole;standAt a.pos;holding [v] (truthy v)):=by intro _;rfl):AT X a (uf ca):=
 PT.imp (NS ha he) λσ H Q ⟨ρ,S,τ,R,r,h⟩=>⟨ρ,S,τ,R,r,jC (jD h) .refl λc S1 h1 ρ1 H1 x e1 R1 v1=>by
  obtain⟨b,hb,h1⟩:=jF h1;exact⟨b,W5 R1 v1 hb,h1 ρ1 H1 e1 R1⟩⟩
abbrev zE (c:Te):Te:=λτ S=>(c τ S).bind λb S1=>.ok (!b) S1
abbrev TU (c d:Te):Te:=λτ S=>(c τ S).bind λb S1=>match b with|true=>d τ S1|false=>.ok false S1
abbrev MX (c d:Te):Te:=λτ S=>(c τ S).bind λb S1=>match b with|true=>.ok true S1|false=>d τ S1
def qL{c:Te}(h:AT X a c):AT X (.UnaryOp .Not a pos) (zE c):=PT.imp (W3 h) λσ H Q ⟨ρ,S,τ,R,r,h⟩=>⟨ρ,S,τ,R,r,jC (jD h) .refl λb S1 h1=>h1⟩
def and_imp{c d:Te}{H:Hp}{Q:Bool->Hp->Prop}(h:tT X (TU c d) σ H Q):Za (tT X c) (tT X d) σ H Q:=by
 kst_p;refine⟨ρ,S,τ,R,r,jC (jD h) .refl λb S1 h1 ρ1 H1 e1 R1=>?_⟩
 cases b with
 | true=>
  rw[aK rfl];exact⟨ρ1,S1,τ,R1,r.ext e1,jC h1 e1 λ_ _ z=>z.ext e1⟩
 | false=>
  rw[aJ bE];exact h1 ρ1 H1 e1 R1
def or_imp{c d:Te}{H:Hp}{Q:Bool->Hp->Prop}(h:tT X (MX c d) σ H Q):tOr (tT X c) (tT X d) σ H Q:=by
 kst_p;refine⟨ρ,S,τ,R,r,jC (jD h) .refl λb S1 h1 ρ1 H1 e1 R1=>?_⟩
 cases b with
 | false=>
  rw[aJ bE];exact⟨ρ1,S1,τ,R1,r.ext e1,jC h1 e1 λ_ _ z=>z.ext e1⟩
 | true=>
  rw[aK rfl];exact h1 ρ1 H1 e1 R1
variable {rest:List aC}
def SY{c:Te}(h:AT X a c):AW X (.BoolOp .And [a] pos) c:=Ud h
def BE{c:Te}(h:AT X a c):AW X (.BoolOp .Or [a] pos) c:=X9 h
def Xk{c d:Te}(h:AT X a c)(h2:AW X (.BoolOp .And (b::rest) pos) d):AW X (.BoolOp .And (a::b::rest) pos) (TU c d):=PW.imp (WZ h h2) λ_ _ _ q=>and_imp q
def yG{c d:Te}(h:AT X a c)(h2:AW X (.BoolOp .Or (b::rest) pos) d):AW X (.BoolOp .Or (a::b::rest) pos) (MX c d):=PW.imp (aae h h2) λ_ _ _ q=>or_imp q
abbrev NL (c d:Ex):Ex:=λτ S=>(c τ S).bind λa S1=>match a with | .bl true=>d τ S1 | .bl false=>.ok (.bl false) S1|_=>.no
abbrev eOr (c d:Ex):Ex:=λτ S=>(c τ S).bind λa S1=>match a with | .bl true=>.ok (.bl true) S1 | .bl false=>d τ S1|_=>.no
abbrev X_ (c:Ex):Ex:=λτ S=>(c τ S).bind λa S1=>match a with | .bl b=>.ok (.bl !b) S1|_=>.no
def M0{op}{c:Ex}(h:AE X a c):AE X (.BoolOp op [a] pos) c:=Xo h
def M8{c d:Ex}(h:AE X a c)(h2:AE X (.BoolOp .And (b::rest) pos) d):AE X (.BoolOp .And (a::b::rest) pos) (NL c d):=PE.imp (WM h h2) λσ H Q h9=>by
 room;refine⟨ρ,S,τ,R,r,jC (jD h) .refl λb S1 h1 ρ1 H1 x e1 R1 v1=>?_⟩
 cases b with
 | bl k=>
  cases FZ v1
  refine⟨k,rfl,?_⟩
  cases k with
  | true=>
   rw[aK rfl];exact⟨ρ1,S1,τ,R1,r.ext e1,jC h1 e1 λ_ _ z=>z.ext e1⟩
  | false=>
   rw[aJ bE];exact h1 ρ1 H1 _ e1 R1 (.bl false)
 | _=>exact h1.elim
def XS{c:Ex}(h:AE X a c):AE X (.UnaryOp .Not a pos) (X_ c):=PE.imp (Xn h) λσ H Q h9=>by
 room;refine⟨ρ,S,τ,R,r,jC (jD h) .refl λb S1 h1 ρ1 H1 x e1 R1 v1=>?_⟩
 cases b with
 | bl k=>
  cases FZ v1
  exact⟨k,rfl,h1 ρ1 H1 _ e1 R1 (.bl _)⟩
 | _=>exact h1.elim
abbrev eIf (t:Te)(c d:Ex):Ex:=λτ S=>(t τ S).bind λb S1=>match b with|true=>c τ S1|false=>d τ S1
abbrev jy:sP:=λ_ S=>.ok [] S
abbrev jo (c:Ex)(d:sP):sP:=λτ S=>(c τ S).bind λa S1=>(d τ S1).bind λas S2=>.ok (a::as) S2
def jw:AL X [] jy:=PA.imp Et λσ H Q ⟨ρ,S,τ,R,r,h⟩=>h ρ H _ .refl R .nil
def jq{e:aC}{c:Ex}{d:sP}(ha:AE X e c)(hr:AL X es d)(hs:starEach (e::es) X.env=(false,eval e X.env)::starEach es X.env:=by rfl):AL X (e::es) (jo c d):=
 PA.imp (xW ha hr hs) λσ H Q h9=>by
  room;refine⟨ρ,S,τ,R,r,jC (jD h) .refl λa S1 h1 ρ1 H1 x e1 R1 v1=>⟨ρ1,S1,τ,R1,r.ext e1,jC (jD h1) e1 λas S2 h2 ρ2 H2 xs e2 R2 v2=>?_⟩⟩;exact h2 ρ2 H2 _ (e1.trans e2) R2 (.cons (v1.ext e2) v2)
abbrev kO (d:sP):Ex:=λτ S=>(d τ S).bind λas S1=>gd (as.length<=sizeLine) (.ok (.tup as) S1)
abbrev newL (as:ae)(S:jz):R A:=gd (as.length<=sizeLine) (.ok (.ref S.length) (S++[.lst as]))
abbrev mQ (d:sP):Ex:=λτ S=>(d τ S).bind λas S1=>newL as S1
def wB{H H0:Hp}{Q:VK}(R:Rel X.K ρ H S)(r:AVs X.K ρ H as vs)(e:Ext ρ0 ρ H0 H)(h:Cu X ρ0 H0 Q (.tup as) S):∀p,H p=none->Q (.ref p) (upd H p (.tup vs)):=λp hp=>by
 obtain⟨ex,R'⟩:=R.im (u:=.tup vs) hp;exact h ρ _ _ (e.trans ex) R' (.tup kP (r.ext ex))
def nO{H H0:Hp}{S:jz}{Q:VK}(R:Rel X.K ρ H S)(r:AVs X.K ρ H as vs)(e:Ext ρ0 ρ H0 H)(h:Cu X ρ0 H0 Q (.ref S.length) (S++[.lst as])):∀p,H p=none->Q (.ref p) (upd H p (.lst vs)):=λp hp=>by
 obtain⟨ex,R',g⟩:=R.lay hp r;exact h _ _ _ (e.trans ex) R' (.ref g)
def Tu{H H0:Hp}{vs:List V}{Q:VK}(R:Rel X.K ρ H S)(r:AVs X.K ρ H as vs)(e:Ext ρ0 ρ H0 H)(h:(newL as S).post (Cu X ρ0 H0 Q) (XE X ρ0 H0)):vs.length<=sizeLine/\∀p,H p=none->Q (.ref p) (upd H p (.lst vs)):=by
 obtain⟨hl,h⟩:=jY h;exact⟨by rw[<- r.length];exact hl,nO R r e h⟩
def j_{d:sP}{x1}(h:AL X es d):AE X (.Tuple es x1 pos) (kO d):=PE.imp (Ys h) λσ H Q h9=>by
 room;refine⟨ρ,S,τ,R,r,jC (jD h) .refl λas S1 h1 ρ1 H1 xs e1 R1 v1=>?_⟩;obtain⟨hl,h1⟩:=jY h1;exact⟨by rw[<- v1.length];exact hl,wB R1 v1 e1 h1⟩
def kg{d:sP}(h:AL X es d):AE X (.List es pos) (mQ d):=PE.imp (X7 h) λσ H Q ⟨ρ,S,τ,R,r,h⟩=>
 ⟨ρ,S,τ,R,r,jC (jD h) .refl λas S1 h1 ρ1 H1 xs e1 R1 v1=>Tu R1 v1 e1 h1⟩
end
section
variable {X:Cx}{pos:Pos}{a b:aC}
abbrev aSub (a b:A)(S:jz):R A:=match a,b with
 | .int i,.int j=>.ok (.int (i-j)) S
 | _,_=>.no
def oA:pT X (binaryOp .Sub) (r2 X aSub):=pT.imp W7 λx y H Q h9=>by
 z_go
 cases va<;>first|exact h.elim|(cases vb<;>first|exact h.elim|exact⟨_,_,rfl,rfl,h _ _ _ .refl R (.int _)⟩)
abbrev Je (i j:Int):Bool:=(decide (-(2 ^ 64)<i) && decide (i<2 ^ 64)) || (decide (-(2 ^ 64)<j) && decide (j<2 ^ 64))
def mulOk_of{i j:Int}(h:Je i j=true):Sj i j:=by
 unfold Je at h;dsimp[Bool.or_eq_true,iA,decide_eq_true_eq]at h;exact h
abbrev Ew (a b:A)(S:jz):R A:=match a,b with
 | .int i,.int j=>gd (Je i j) (.ok (.int (i * j)) S)
 | .ref n,.int k=>opt (ju S n) λxs=>gd (-(2 ^ 63)<=k/\k<2 ^ 63/\xs.length * k.toNat<=sizeLine) (.ok (.ref S.length) (S++[.lst (List.replicate k.toNat xs).flatten]))
 | _,_=>.no
theorem AVs.rep{K:au}{H:Hp}(r:AVs K ρ H xs vs):∀k:Nat,AVs K ρ H (List.replicate k xs).flatten (List.replicate k vs).flatten
 | 0=>.nil
 | k+1=>by rw[di,di,d9,d9];exact r.append (AVs.rep r k)
def IZ:pT X (binaryOp .Mult) (r2 X Ew):=λpins s σ H x y v u Q I rx ry h9=>by
 z_go
 cases va with
 | int i=>
  cases vb with
  | int j=>
   obtain⟨hm,h⟩:=jY h;exact WO pins s σ H _ _ v u Q I rx ry ⟨i,j,rfl,rfl,mulOk_of hm,h _ _ _ .refl R (.int _)⟩
  | _=>exact h.elim
 | @ref p n hp=>
  cases vb with
  | int k=>
   gp_on;obtain⟨hc,h⟩:=jY h;obtain⟨vs,h1,h2⟩:=R.lst hp (jN hn);exact X0 pins s σ H _ _ v u Q I rx ry ⟨p,k,vs,rfl,rfl,h1,hc.1,hc.2.1,by rw[<- h2.length];exact hc.2.2,nO R (h2.rep _) .refl h⟩
  | _=>exact h.elim
 | _=>exact h.elim
abbrev I_ (a b:A)(S:jz):R A:=match a,b with
 | .int i,.int j=>gd (0<j/\j<18446744073709551616) (.ok (.int (i / j)) S)
 | _,_=>.no
def Of:pT X (binaryOp .FloorDiv) (r2 X I_):=pT.imp O7 λx y H Q h9=>by
 z_go
 cases va<;>first|exact h.elim|(cases vb<;>first|exact h.elim|exact⟨_,_,rfl,rfl,(jY h).1,(jY h).2 _ _ _ .refl R (.int _)⟩)
abbrev Er (a b:A)(S:jz):R A:=match a,b with
 | .int i,.int j=>gd (0<j) (.ok (.int (i % j)) S)
 | _,_=>.no
def Ft:pT X (binaryOp .Mod) (r2 X Er):=pT.imp WA λx y H Q h9=>by
 z_go
 cases va<;>first|exact h.elim|(cases vb<;>first|exact h.elim|exact⟨_,_,rfl,rfl,(jY h).1,(jY h).2 _ _ _ .refl R (.int _)⟩)
abbrev Iu (a b:A)(S:jz):R A:=match a,b with
 | .int i,.int j=>gd (0<=j/\j<=1000000/\i.natAbs<2 ^ 64) (.ok (.int (i ^ j.toNat)) S)
 | _,_=>.no
def VF:pT X (binaryOp .Pow) (r2 X Iu):=pT.imp WI λx y H Q h9=>by
 z_go
 cases va<;>first|exact h.elim|(cases vb<;>first|exact h.elim|exact⟨_,_,rfl,rfl,(jY h).1,(jY h).2 _ _ _ .refl R (.int _)⟩)
abbrev kj (a b:A)(S:jz):R A:=match a,b with
 | .int i,.int j=>.ok (.int (i+j)) S
 | .tup xs,.tup ys=>gd (xs.length+ys.length<=sizeLine) (.ok (.tup (xs++ys)) S)
 | .str x,.str y=>gd (x.length+y.length<=sizeLine) (.ok (.str (x++y)) S)
 | .ref n,.ref m=>opt (ju S n) λxs=>opt (ju S m) λys=>gd (xs.length+ys.length<=sizeLine) (.ok (.ref S.length) (S++[.lst (xs++ys)]))
 | _,_=>.no
def AVs.nil_inv{K:au}{H:Hp}(r:AVs K ρ H xs vs):xs=[] ↔ vs=[]:=by cases r<;>simp
def kK:pT X (binaryOp .Add) (r2 X kj):=λpins s σ H x y v u Q I rx ry h9=>by
 z_go
 cases va with
 | int i=>
  cases vb with
  | int j=>exact YC pins s σ H _ _ v u Q I rx ry ⟨i,j,rfl,rfl,h _ _ _ .refl R (.int _)⟩
  | _=>exact h.elim
 | str x=>
  cases vb with
  | str y=>
   obtain⟨hc,h⟩:=jY h;exact Hq pins s σ H _ _ v u Q I rx ry ⟨x,y,rfl,rfl,hc,h _ _ _ .refl R (.str _)⟩
  | _=>exact h.elim
 | @tup p xs vs h1 r1=>
  cases vb with
  | @tup q ys ws h2 r2=>
   obtain⟨hc,h⟩:=jY h;by_cases hv:vs=[]
   ·have hx:=r1.nil_inv.mpr hv;subst hv hx;exact Oj pins s σ H _ _ v u Q I rx ry ⟨p,q,ws,rfl,rfl,m_.of h1,m_.of h2,h _ _ _ .refl R (.tup h2 r2)⟩
   ·refine SG pins s σ H _ _ v u Q I rx ry ⟨p,q,vs,ws,rfl,rfl,m_.of h1,m_.of h2,hv,by rw[<- r1.length,<- r2.length];exact hc,λe=>?_,λ_=>wB R (r1.append r2) .refl h⟩;have hy:=r2.nil_inv.mpr e;subst hy;rw[cH]at h;exact h _ _ _ .refl R (.tup h1 r1)
  | _=>exact h.elim
 | @ref p n hp=>
  cases vb with
  | @ref q m hq=>
   gp_on;obtain⟨ys,hm,h⟩:=jF h;obtain⟨hc,h⟩:=jY h;obtain⟨vs,h1,h2⟩:=R.lst hp (jN hn);obtain⟨ws,h3,h4⟩:=R.lst hq (jN hm);exact Yh pins s σ H _ _ v u Q I rx ry ⟨p,q,vs,ws,rfl,rfl,h1,h3,by rw[<- h2.length,<- h4.length];exact hc,nO R (h2.append h4) .refl h⟩
  | _=>exact h.elim
 | _=>exact h.elim
abbrev A.ints:ae->Option (ag)
 | []=>some []
 | .int i::xs=>(A.ints xs).map (i::·)
 | _=>none
theorem Ag{K:au}{H:Hp}:∀{xs:ae}{vs:List V}{bs:ag},AVs K ρ H xs vs->A.ints xs=some bs->vs=bs.map V.int
 | _,_,_,.nil,e=>by cases e;rfl
 | _,_,_,.cons (x:=.int b) h t,e=>by
  obtain⟨cs,e1,rfl⟩:=aX.mp e
  cases h
  rw[Ag t e1];rfl
 | _,_,_,.cons (x:=.unb) h t,e=>nomatch e
 | _,_,_,.cons (x:=.non) h t,e=>nomatch e
 | _,_,_,.cons (x:=.bl _) h t,e=>nomatch e
 | _,_,_,.cons (x:=.str _) h t,e=>nomatch e
 | _,_,_,.cons (x:=.tup _) h t,e=>nomatch e
 | _,_,_,.cons (x:=.frz _) h t,e=>nomatch e
 | _,_,_,.cons (x:=.rng _ _) h t,e=>nomatch e
 | _,_,_,.cons (x:=.ref _) h t,e=>nomatch e
 | _,_,_,.cons (x:=.exn _) h t,e=>nomatch e
 | _,_,_,.cons (x:=.ty _) h t,e=>nomatch e
abbrev Wz (a b:A)(S:jz):R A:=match a,b with
 | .int i,.int j=>.ok (.bl (decide (i<j))) S
 | _,_=>.no
def Yy(hu:X.A.units+64<cLine):pT X (compareOp .Lt) (r2 X Wz):=λpins s σ H x y v u Q I rx ry h9=>by
 z_go
 cases va with
 | int i=>
  cases vb with
  | int j=>exact aaq pins s σ H _ _ v u Q I rx ry ⟨i,j,rfl,rfl,h _ _ _ .refl R (.bl _)⟩
  | _=>exact h.elim
 | _=>exact h.elim
abbrev aLe (a b:A)(S:jz):R A:=match a,b with
 | .int i,.int j=>.ok (.bl (decide (i<=j))) S
 | _,_=>.no
def abw:pT X (compareOp .LtE) (r2 X aLe):=pT.imp Z0 λx y H Q h9=>by
 z_go
 cases va<;>first|exact h.elim|(cases vb<;>first|exact h.elim|exact⟨_,_,rfl,rfl,h _ _ _ .refl R (.bl _)⟩)
abbrev Hx (a b:A)(S:jz):R A:=match a,b with
 | .int i,.int j=>.ok (.bl (decide (j<i))) S
 | _,_=>.no
def Gh(hu:X.A.units+64<cLine):pT X (compareOp .Gt) (r2 X Hx):=λpins s σ H x y v u Q I rx ry h9=>by
 z_go
 cases va with
 | int i=>
  cases vb with
  | int j=>exact aaa pins s σ H _ _ v u Q I rx ry ⟨i,j,rfl,rfl,h _ _ _ .refl R (.bl _)⟩
  | _=>exact h.elim
 | _=>exact h.elim
abbrev ZX (a b:A)(S:jz):R A:=match a,b with
 | .int i,.int j=>.ok (.bl (decide (j<=i))) S
 | _,_=>.no
def aaB:pT X (compareOp .GtE) (r2 X ZX):=pT.imp Z4 λx y H Q h9=>by
 z_go
 cases va<;>first|exact h.elim|(cases vb<;>first|exact h.elim|exact⟨_,_,rfl,rfl,h _ _ _ .refl R (.bl _)⟩)
abbrev VL (neg:Bool)(a b:A)(S:jz):R A:=match a,b with
 | .bl i,.bl j=>.ok (.bl (if neg then i != j else i == j)) S
 | .non,.non=>.ok (.bl (!neg)) S
 | .unb,.non=>.no
 | .exn _,.non=>.no
 | _,.non=>.ok (.bl neg) S
 | _,_=>.no
abbrev Mq (f:A->jz->R A)(c:Ex):Ex:=λτ S=>(c τ S).bind λa S1=>f a S1
abbrev yN (a:A)(S:jz):R A:=match a with
 | .int i=>.ok (.int (-i)) S
 | _=>.no
def Y8:UnR X (unaryOp .USub) (r1 X yN):=λpins s σ H x v Q I rx h9=>by
 obtain⟨ρ,S,a,R,va,h⟩:=h9
 cases va with
 | int i=>exact WL pins s σ H _ v Q I rx ⟨i,rfl,h _ _ _ .refl R (.int _)⟩
 | _=>exact h.elim
def Wo{f:A->jz->R A}{c:Ex}{H:Hp}{Q:VK}(h:tE X (Mq f c) σ H Q):tUn (r1 X f) (tE X c) σ H Q:=by
 kst_p;exact⟨ρ,S,τ,R,r,jC (jD h) .refl λa S1 h1 ρ1 H1 x e1 R1 v1=>⟨ρ1,S1,a,R1,v1,jC h1 e1 λc S3 h3=>h3.ext e1⟩⟩
def zh{c:Ex}(h:AE X a c):AE X (.UnaryOp .USub a pos) (Mq yN c):=PE.imp (aaC Y8 h) λ_ _ _ q=>Wo q
abbrev mJ (a b:A)(S:jz):R A:=match a,b with
 | .tup xs,.int i=>opt (pP xs i) λx=>.ok x S
 | .frz xs,.int i=>opt (pP xs i) λx=>.ok x S
 | .ref n,.int i=>opt (ju S n) λxs=>opt (pP xs i) λx=>.ok x S
 | .str z,.int i=>gd (z.length<=sizeLine) (opt (pP z.cps.toList i) λc=>.ok (.str ⟨#[c]⟩) S)
 | _,_=>.no
def AVs.pP{K:au}{H:Hp}{i:Int}{x:A}(r:AVs K ρ H xs vs)(h:L2.pP xs i=some x):∃v,L2.pP vs i=some v/\AV K ρ H x v:=by
 unfold L2.pP at h ⊢;rw[<- r.length]
 cases hj:Cq xs.length i with
 | none=>rw[hj]at h;cases h
 | some j=>
  rw[hj]at h;exact r.get h
def aam:Wi X (r2 X mJ):=λvalue slice pins s σ H x y v u Q I rx ry ⟨ρ,S,a,b,R,va,vb,h⟩ hs=>by
 cases va with
 | @tup p xs vs h1 r1=>
  cases vb with
  | int i=>
   obtain⟨x,hx,h⟩:=jF h;obtain⟨z,e,q⟩:=r1.pP hx;exact WD value slice pins s σ H _ _ v u Q I rx ry ⟨p,vs,i,z,rfl,rfl,m_.of h1,e,h _ _ _ .refl R q⟩ hs
  | _=>exact h.elim
 | @frz p xs vs h1 r1=>
  cases vb with
  | int i=>
   obtain⟨x,hx,h⟩:=jF h;obtain⟨z,e,q⟩:=r1.pP hx;exact Jz value slice pins s σ H _ _ v u Q I rx ry ⟨p,vs,i,z,rfl,rfl,h1.RZ,e,h _ _ _ .refl R q⟩ hs
  | _=>exact h.elim
 | @ref p n hp=>
  cases vb with
  | int i=>
   gp_on;obtain⟨x,hx,h⟩:=jF h;obtain⟨vs,h1,r1⟩:=R.lst hp (jN hn);obtain⟨z,e,q⟩:=r1.pP hx;exact Jz value slice pins s σ H _ _ v u Q I rx ry ⟨p,vs,i,z,rfl,rfl,rG.of h1,e,h _ _ _ .refl R q⟩ hs
  | _=>exact h.elim
 | str z=>
  cases vb with
  | int i=>
   obtain⟨hz,h⟩:=jY h;obtain⟨c,hc,h⟩:=jF h;exact Ye value slice pins s σ H _ _ v u Q I rx ry ⟨z,i,c,rfl,rfl,hz,hc,h _ _ _ .refl R (.str _)⟩ hs
  | _=>exact h.elim
 | _=>exact h.elim
def jZ{ca cb:Ex}(ha:AE X a ca)(hb:AE X b cb)(hs:AJ b:=by exact λ_ _=>rfl):AE X (.Subscript a b pos) (jA mJ ca cb):=PE.imp (OP aam ha hb hs) λσ H Q h=>wj h
end
abbrev su (f:A->A->bn):ae->ae->bn
 | [],[]=>some true
 | x::xs,y::ys=>(f x y).bind λp=>(su f xs ys).map λq=>p && q
 | _,_=>some false
inductive Sh
 | non
 | bl (b:Bool)
 | int (i:Int)
 | str (x:Str)
 | tup (xs:ae)
 | lst
abbrev Yk (S:jz):A->Option Sh
 | .non=>some .non
 | .bl b=>some (.bl b)
 | .int i=>some (.int i)
 | .str x=>some (.str x)
 | .tup xs=>some (.tup xs)
 | .ref i=>(ju S i).map λ_=>.lst
 | _=>none
abbrev SK (f:A->A->bn):Sh->Sh->bn
 | .non,.non=>some true
 | .bl x,.bl y=>some (x == y)
 | .bl x,.int y=>some ((if x then 1 else 0) == y)
 | .int x,.bl y=>some (x == (if y then 1 else 0))
 | .int x,.int y=>some (x == y)
 | .str x,.str y=>some (x == y)
 | .tup xs,.tup ys=>su f xs ys
 | .lst,.lst=>none
 | _,_=>some false
abbrev uP (S:jz):Nat->A->A->bn
 | 0,_,_=>none
 | n+1,a,b=>match a,b with
  | .ref i,.ref j=>(ju S i).bind λxs=>(ju S j).bind λys=>su (uP S n) xs ys
  | _,_=>(Yk S a).bind λx=>(Yk S b).bind λy=>SK (uP S n) x y
section
variable {X:Cx}{pins:bv}{σ:L2.St}{H:Hp}{s:aA}{ρ:bd}{S:jz}
inductive KdV (s:aA):Sh->af->Prop
 | non:KdV s .non .none
 | bl (b:Bool):KdV s (.bl b) (.bool b)
 | int (i:Int) (t:Tok):KdV s (.int i) (.int i t)
 | str (x:Str) (t:Tok):KdV s (.str x) (.str x t)
 | tup {p:ak} {us:ba} (xs:ae) (h:s.heap.IsTuple p us.toArray):KdV s (.tup xs) (.ref p)
 | lst {p:ak} {us:ba} (h:s.heap.IsList p us.toArray):KdV s .lst (.ref p)
def KH{p:ak}(h:s.heap.IsTuple p us)(h':s.heap.IsList p ws):False:=by
 obtain⟨o,e,c,_⟩:=h;obtain⟨o',e',c',_⟩:=h';rw[e]at e'
 cases e'
 exact absurd (c.symm.trans c') ⋯
theorem Li(I:Inv X pins σ H s)(R:Rel X.K ρ H S){a:A}{x:V}(ha:AV X.K ρ H a x)(r:RelV x u)(e:Yk S a=some h):KdV s h u:=by
 cases ha with
 | non=>cases e;cases(show u=Value.none from r);exact .non
 | bl b=>cases e;cases(show u=Value.bool b from r);exact .bl b
 | int i=>cases e;obtain⟨t,rfl⟩:∃t,u=Value.int i t:=r;exact .int i t
 | str i=>cases e;obtain⟨t,rfl⟩:∃t,u=Value.str i t:=r;exact .str i t
 | tup h1 r1=>cases e;cases(show u=Value.ref _ from r);obtain⟨us,_,p,_⟩:=I.tuple (m_.of h1);exact .tup _ p
 | ref h1=>
  obtain⟨xs,e1,rfl⟩:=aX.mp e
  cases(show u=Value.ref _ from r)
  obtain⟨vs,h3,r1⟩:=R.lst h1 (jN e1);obtain⟨us,_,p,_⟩:=I.list (rG.of h3);exact .lst p.isList
 | _=>cases e
abbrev Al (B:az)(s:aA)(u v:af)(k:Bool):Prop:=SeqAt.RcAt B s u v k/\SeqAt.EqAt B s u v k/\SeqAt.RcNeAt B s u v (!k)
def ZO{B:az}(hu:B.units<cLine){f:A->A->bn}{v:af}{k:Bool}(d:KdV s h u)(d':KdV s h' v)(nt:∀xs ys,h=.tup xs->h'≠.tup ys)(e:SK f h h'=some k):Al B s u v k:=by
 cases d with
 | non=>cases d' with
  | non=>cases e;exact⟨.none_none,.same _,.none_none⟩
  | bl b=>cases e;exact⟨.none_bool _,.none_bool _,.none_bool _⟩
  | int i t=>cases e;exact⟨.none_int _ _,.none_int _ _,.none_int _ _⟩
  | str x t=>cases e;exact⟨.none_str _ _,.none_str _ _,.none_str _ _⟩
  | tup xs p=>cases e;exact⟨.none_tuple p hu,.none_tuple p hu,.none_tuple p hu⟩
  | lst p=>cases e;exact⟨.none_list p hu,.none_list p hu,.none_list p hu⟩
 | bl c=>cases d' with
  | non=>cases e;exact⟨.bool_none _,.bool_none _,.bool_none _⟩
  | bl b=>cases e;exact⟨.bool_bool _ _,.bool_bool _ _,.bool_bool _ _⟩
  | int i t=>cases e;exact⟨.bool_int _ _ _,.bool_int _ _ _,.bool_int _ _ _⟩
  | str x t=>cases e;exact⟨.bool_str _ _ _,.bool_str _ _ _,.bool_str _ _ _⟩
  | tup xs p=>cases e;exact⟨.bool_tuple _ p hu,.bool_tuple _ p hu,.bool_tuple _ p hu⟩
  | lst p=>cases e;exact⟨.bool_list _ p hu,.bool_list _ p hu,.bool_list _ p hu⟩
 | int c t'=>cases d' with
  | non=>cases e;exact⟨.int_none _ _,.int_none _ _,.int_none _ _⟩
  | bl b=>cases e;exact⟨.int_bool _ _ _,.int_bool _ _ _,.int_bool _ _ _⟩
  | int i t=>cases e;exact⟨.int_int _ _ _ _,.int_int _ _ _ _,.int_int _ _ _ _⟩
  | str x t=>cases e;exact⟨.int_str _ _ _ _,.int_str _ _ _ _,.int_str _ _ _ _⟩
  | tup xs p=>cases e;exact⟨.int_tuple _ _ p hu,.int_tuple _ _ p hu,.int_tuple _ _ p hu⟩
  | lst p=>cases e;exact⟨.int_list _ _ p hu,.int_list _ _ p hu,.int_list _ _ p hu⟩
 | str c t'=>cases d' with
  | non=>cases e;exact⟨.str_none _ _,.str_none _ _,.str_none _ _⟩
  | bl b=>cases e;exact⟨.str_bool _ _ _,.str_bool _ _ _,.str_bool _ _ _⟩
  | int i t=>cases e;exact⟨.str_int _ _ _ _,.str_int _ _ _ _,.str_int _ _ _ _⟩
  | str x t=>cases e;exact⟨.str_str _ _ _ _,.str_str _ _ _ _,.str_str _ _ _ _⟩
  | tup xs p=>cases e;exact⟨.str_tuple _ _ p hu,.str_tuple _ _ p hu,.str_tuple _ _ p hu⟩
  | lst p=>cases e;exact⟨.str_list _ _ p hu,.str_list _ _ p hu,.str_list _ _ p hu⟩
 | tup zs p'=>cases d' with
  | non=>cases e;exact⟨.tuple_none p' hu,.tuple_none p' hu,.tuple_none p' hu⟩
  | bl b=>cases e;exact⟨.tuple_bool _ p' hu,.tuple_bool _ p' hu,.tuple_bool _ p' hu⟩
  | int i t=>cases e;exact⟨.tuple_int _ _ p' hu,.tuple_int _ _ p' hu,.tuple_int _ _ p' hu⟩
  | str x t=>cases e;exact⟨.tuple_str _ _ p' hu,.tuple_str _ _ p' hu,.tuple_str _ _ p' hu⟩
  | tup xs p=>exact absurd rfl (nt _ _ rfl)
  | lst p=>cases e;exact⟨.tuple_list p' p hu,.of_refs (λz=>by subst z;exact KH p' p) (.tuple_list p' p hu),.tuple_list p' p hu⟩
 | lst p'=>cases d' with
  | non=>cases e;exact⟨.list_none p' hu,.list_none p' hu,.list_none p' hu⟩
  | bl b=>cases e;exact⟨.list_bool _ p' hu,.list_bool _ p' hu,.list_bool _ p' hu⟩
  | int i t=>cases e;exact⟨.list_int _ _ p' hu,.list_int _ _ p' hu,.list_int _ _ p' hu⟩
  | str x t=>cases e;exact⟨.list_str _ _ p' hu,.list_str _ _ p' hu,.list_str _ _ p' hu⟩
  | tup xs p=>cases e;exact⟨.list_tuple p' p hu,.of_refs (λz=>by subst z;exact KH p p') (.list_tuple p' p hu),.list_tuple p' p hu⟩
  | lst p=>cases e
def ET{a:A}{x:V}(h:AV X.K ρ H a x)(e:Yk S a=some (.tup xs)):a=.tup xs/\∃p vs,x=.ref p/\H p=some (.tup vs)/\AVs X.K ρ H xs vs:=by
 cases h with
 | tup h r=>cases e;exact⟨rfl,_,_,rfl,h,r⟩
 | ref h=>obtain⟨_,_,z⟩:=aX.mp e;cases z
 | _=>cases e
def DP{i:Nat}{x:V}(h:AV X.K ρ H (.ref i) x):∃p,x=.ref p/\ρ[i]?=some p:=by
 cases h with
 | ref h=>exact⟨_,rfl,h⟩
def Q6{a:A}(e:Yk S a=some .lst):∃i,a=.ref i:=by
 cases a with
 | ref i=>exact⟨i,rfl⟩
 | _=>cases e
def Oc{n:Nat}{a:A}{k:Bool}(e:uP S (n+1) a b=some k):(∃i j xs ys,a=.ref i/\b=.ref j/\ju S i=some xs/\ju S j=some ys/\su (uP S n) xs ys=some k)\/(∃h h',Yk S a=some h/\Yk S b=some h'/\SK (uP S n) h h'=some k/\(h=.lst->h'≠.lst)):=by
 unfold uP at e;split at e
 ·obtain⟨xs,e1,e⟩:=cV.mp e;obtain⟨ys,e2,e⟩:=cV.mp e;exact .inl ⟨_,_,xs,ys,rfl,rfl,e1,e2,e⟩
 ·rename_i nr;obtain⟨h,e1,e⟩:=cV.mp e;obtain⟨h',e2,e⟩:=cV.mp e;refine .inr ⟨h,h',e1,e2,e,λz1 z2=>?_⟩;subst z1 z2;obtain⟨i,rfl⟩:=Q6 e1;obtain⟨j,rfl⟩:=Q6 e2;exact nr i j rfl rfl
def Uq{f:A->A->bn}{k:Bool}(d:KdV s h u)(d':KdV s h' u)(nt:∀xs ys,h=.tup xs->h'≠.tup ys)(e:SK f h h'=some k):k=true:=by
 cases d with
 | non=>cases d';exact(a_ e).symm
 | bl b=>cases d';exact(a_ e).symm.trans (bO b)
 | int b=>cases d';exact(a_ e).symm.trans (bO b)
 | str b=>cases d';exact(a_ e).symm.trans (bO b)
 | tup xs p=>cases d' with
  | tup=>exact absurd rfl (nt _ _ rfl)
  | lst q=>exact(KH p q).elim
 | lst p=>cases d' with
  | tup _ q=>exact(KH q p).elim
  | lst q=>cases e
def Gb{f:A->A->bn}(hf:∀a b x u k,AV X.K ρ H a x->AV X.K ρ H b x->RelV x u->f a b=some k->k=true):∀{xs ys:ae}{vs:List V}{us:ba}{k:Bool},AVs X.K ρ H xs vs->AVs X.K ρ H ys vs->Vals vs us->su f xs ys=some k->k=true:=by
 intro xs ys vs us k h1 h2 q e
 induction q generalizing xs ys k with
 | nil=>cases h1;cases h2;exact(a_ e).symm
 | cons rv _ ih=>
  cases h1 with
  | cons h t=>cases h2 with
   | cons h' t'=>
    obtain⟨p,e1,e⟩:=cV.mp e;obtain⟨q,e2,e3⟩:=aX.mp e;rw[<- e3,hf _ _ _ _ p h h' rv e1,ih t t' e2];rfl
def JM(h h':Sh):(∃xs ys,h=.tup xs/\h'=.tup ys)\/(∀xs ys,h=.tup xs->h'≠.tup ys):=by
 cases h with
 | tup xs=>cases h' with
  | tup ys=>exact .inl ⟨xs,ys,rfl,rfl⟩
  | _=>exact .inr λ_ _ _ z=>nomatch z
 | _=>exact .inr λ_ _ z=>nomatch z
theorem EO(I:Inv X pins σ H s)(R:Rel X.K ρ H S):∀(n:Nat) (a b:A) (x:V) (u:af) (k:Bool),AV X.K ρ H a x->AV X.K ρ H b x->RelV x u->uP S n a b=some k->k=true
 | 0,_,_,_,_,_,_,_,_,e=>nomatch e
 | n+1,a,b,x,u,k,ha,hb,ru,e=>by
  rcases Oc e with⟨i,j,xs,ys,rfl,rfl,e1,e2,e⟩|⟨h,h',e1,e2,e,_⟩
  ·obtain⟨p,rfl,h1⟩:=DP ha;obtain⟨q,z,h2⟩:=DP hb
   cases z
   obtain⟨vs,h3,r1⟩:=R.lst h1 (jN e1);obtain⟨ws,h4,r2⟩:=R.lst h2 (jN e2);rw[h3]at h4
   cases h4
   obtain⟨us,q,_⟩:=I.list (rG.of h3);exact Gb (λa b x u k=>EO I R n a b x u k) r1 r2 q e
  ·rcases JM h h' with⟨xs,ys,rfl,rfl⟩|nt
   ·obtain⟨rfl,p,vs,rfl,h3,r1⟩:=ET ha e1;obtain⟨rfl,q,ws,z,h4,r2⟩:=ET hb e2
    cases z
    have:=I.yR (m_.of h3) (m_.of h4);subst this;obtain⟨us,q,_⟩:=I.tuple (m_.of h3);exact Gb (λa b x u k=>EO I R n a b x u k) r1 r2 q e
   ·exact Uq (Li I R ha ru e1) (Li I R hb ru e2) nt e
abbrev Cg (f:A->A->bn)(xs ys:ae)(j:Nat):Bool:=match xs[j]?,ys[j]? with
 | some x,some y=>(f x y).getD true
 | _,_=>true
theorem AR{f:A->A->bn}:∀{xs ys:ae}{k:Bool},su f xs ys=some k->k=((List.range (min xs.length ys.length)).all (Cg f xs ys) && xs.length == ys.length)/\∀j x y,xs[j]?=some x->ys[j]?=some y->f x y=some (Cg f xs ys j)
 | [],[],k,e=>⟨(a_ e).symm,λj x y h=>by simp at h⟩
 | [],_::_,k,e=>⟨(a_ e).symm,λj x y h=>by simp at h⟩
 | _::_,[],k,e=>⟨(a_ e).symm,λj x y _ h=>by simp at h⟩
 | x::xs,y::ys,k,e=>by
  unfold su at e
  cases e1:f x y with
  | none=>rw[e1]at e;cases e
  | some p=>
   rw[e1]at e;obtain⟨q,e2,e3⟩:=aX.mp e;obtain⟨h1,h2⟩:=AR e2;have p0:Cg f (x::xs) (y::ys) 0=p:=by simp[Cg,e1]
   have ps:∀j,Cg f (x::xs) (y::ys) (j+1)=Cg f xs ys j:=λj=>by simp[Cg]
   refine⟨?_,λj a b ha hb=>?_⟩
   ·rw[<- e3,h1,bq,bq,Nat.succ_min_succ,gR,all_cons,gS,p0];have:(Cg f (x::xs) (y::ys) ∘ Nat.succ)=Cg f xs ys:=funext ps;rw[this,Bool.and_assoc];simp
   ·cases j with
    | zero=>
     simp at ha hb;subst ha hb;rw[p0];exact e1
    | succ j=>rw[ps];exact h2 j a b (by simpa using ha) (by simpa using hb)
def Ad{f:A->A->bn}{B:az}(hf:∀a b x y u v k,AV X.K ρ H a x->AV X.K ρ H b y->RelV x u->RelV y v->f a b=some k->SeqAt.EqAt B s u v k){us ts:ba}{k:Bool}
  (r1:AVs X.K ρ H xs vs) (r2:AVs X.K ρ H ys ws) (q1:Vals vs us) (q2:Vals ws ts) (e:su f xs ys=some k):∀j (h1:j<us.toArray.size) (h2:j<ts.toArray.size),SeqAt.EqAt B s us.toArray[j] ts.toArray[j] (Cg f xs ys j):=by
 intro j h1 h2;have l1:=r1.length;have l2:=r2.length;have l3:=q1.length;have l4:=q2.length;have hx:j<xs.length:=by simp at h1;lia
 have hy:j<ys.length:=by simp at h2;lia
 have e1:xs[j]?=some xs[j]:=aF hx;have e2:ys[j]?=some ys[j]:=aF hy;obtain⟨x,ex,ax⟩:=r1.get e1;obtain⟨y,ey,ay⟩:=r2.get e2;obtain⟨u,eu,ru⟩:=q1.get ex;obtain⟨t,et,rt⟩:=q2.get ey;have a1:us.toArray[j]=u:=by
  have:us[j]?=some us.toArray[j]:=by simp at h1;simp[h1]
  rw[eu]at this;exact(a_ this).symm
 have a2:ts.toArray[j]=t:=by
  have:ts[j]?=some ts.toArray[j]:=by simp at h2;simp[h2]
  rw[et]at this;exact(a_ this).symm
 rw[a1,a2];exact hf _ _ x y u t _ ax ay ru rt ((AR e).2 j _ _ e1 e2)
def in1_units(B:az):B.in1.units=B.units+1:=rfl
theorem Le(I:Inv X pins σ H s)(R:Rel X.K ρ H S):∀(n:Nat) (B:az) (a b:A) (x y:V) (u v:af) (k:Bool),B.units+n<cLine->AV X.K ρ H a x->AV X.K ρ H b y->RelV x u->RelV y v->uP S n a b=some k->Al B s u v k
 | 0,_,_,_,_,_,_,_,_,_,_,_,_,_,e=>nomatch e
 | n+1,B,a,b,x,y,u,v,k,hu,ha,hb,rx,ry,e=>by
  have hu0:B.units<cLine:=()
  have items:∀a b x y u v k,AV X.K ρ H a x->AV X.K ρ H b y->RelV x u->RelV y v->uP S n a b=some k->SeqAt.EqAt B.in1 s u v k:=λa b x y u v k h1 h2 h3 h4 h5=>(Le I R n B.in1 a b x y u v k (by rw[in1_units];lia) h1 h2 h3 h4 h5).2.1;have same:=λ(z:y=x)=>EO I R (n+1) a b x u k ha (z ▸ hb) rx e;have refs:∀{p q:ak},x=.ref p->y=.ref q->u=.ref p->v=.ref q->SeqAt.RcAt B s u v k->SeqAt.EqAt B s u v k:=λ{p q} z1 z2 z3 z4 h=>by
   subst z3 z4;by_cases hp:p=q
   ·subst hp;rw[same (z2.trans z1.symm)];exact .same _
   ·exact .of_refs hp h
  rcases Oc e with⟨i,j,xs,ys,rfl,rfl,e1,e2,e⟩|⟨h,h',e1,e2,e,_⟩
  ·obtain⟨p,rfl,h1⟩:=DP ha;obtain⟨q,rfl,h2⟩:=DP hb;obtain⟨vs,h3,r1⟩:=R.lst h1 (jN e1);obtain⟨ws,h4,r2⟩:=R.lst h2 (jN e2);obtain⟨us,q1,p1,_⟩:=I.list (rG.of h3);obtain⟨ts,q2,p2,_⟩:=I.list (rG.of h4);have ru:=refs rfl rfl rx ry
   cases(show u=Value.ref p from rx)
   cases(show v=Value.ref q from ry)
   have l1:=r1.length;have l2:=r2.length;have l3:=q1.length;have l4:=q2.length;have ek:=(AR e).1;by_cases hl:xs.length=ys.length
   ·rw[<- hl,Nat.min_self,bO,Bool.and_true]at ek;have eh:us.toArray.size=ts.toArray.size:=by simp;lia
    have z1:=SeqAt.RcAt.lists p1.isList p2.isList eh hu0 (Ad items r1 r2 q1 q2 e);have z2:=SeqAt.RcNeAt.lists p1.isList p2.isList eh hu0 (Ad items r1 r2 q1 q2 e);rw[aY,<- l3,<- l1,<- ek]at z1 z2;exact⟨z1,ru z1,z2⟩
   ·have:(xs.length == ys.length)=false:=by simpa using hl
    rw[this,jf]at ek;subst ek;have eh:(us.toArray.size != ts.toArray.size)=true:=by simp;lia
    have z1:=SeqAt.RcAt.lists_lengths p1.isList p2.isList eh hu0;exact⟨z1,ru z1,SeqAt.RcNeAt.lists_lengths p1.isList p2.isList eh hu0⟩
  ·rcases JM h h' with⟨xs,ys,rfl,rfl⟩|nt
   ·obtain⟨rfl,p,vs,rfl,h3,r1⟩:=ET ha e1;obtain⟨rfl,q,ws,rfl,h4,r2⟩:=ET hb e2;have ru:=refs rfl rfl rx ry
    cases(show u=Value.ref p from rx)
    cases(show v=Value.ref q from ry)
    obtain⟨us,q1,p1,_⟩:=I.tuple (m_.of h3);obtain⟨ts,q2,p2,_⟩:=I.tuple (m_.of h4);have ek:=(AR e).1;have z1:=SeqAt.RcAt.tuples p1 p2 hu0 (Ad items r1 r2 q1 q2 e);have z2:=SeqAt.RcNeAt.tuples p1 p2 hu0 (Ad items r1 r2 q1 q2 e);rw[aY,aY,<- q1.length,<- q2.length,<- r1.length,<- r2.length,<- ek]at z1 z2;exact⟨z1,ru z1,z2⟩
   ·exact ZO hu0 (Li I R ha rx e1) (Li I R hb ry e2) nt e
end
section
variable {X:Cx}
abbrev t8 (neg:Bool)(a b:A)(S:jz):R A:=opt (uP S 12 a b) λk=>.ok (.bl (if neg then !k else k)) S
def LP(hu:X.A.units+64<cLine):pT X (compareOp .Eq) (r2 X (t8 false)):=λpins s σ H x y v u Q I rx ry h9=>by
 z_go;obtain⟨k,e,h⟩:=jF h;exact(Le I R 12 X.A a b x y v u k (by omega) va vb rx ry e).1 _ _ _ _ ⟨.bl _,H,I,rfl,h _ _ _ .refl R (.bl _)⟩
def BZ(hu:X.A.units+64<cLine):pT X (compareOp .NotEq) (r2 X (t8 true)):=λpins s σ H x y v u Q I rx ry h9=>by
 z_go;obtain⟨k,e,h⟩:=jF h;exact(Le I R 12 X.A a b x y v u k () va vb rx ry e).2.2 _ _ _ _ ⟨.bl _,H,I,rfl,h _ _ _ .refl R (.bl _)⟩
end
section
variable {X:Cx}{pos:Pos}{a b:aC}
meta abbrev Pt:=ae->jz->R (bj)
abbrev Dg:Pt:=λ_ S=>.ok none S
abbrev C4 (c:Ex):Pt:=λτ S=>(c τ S).bind λa S1=>match a with
 | .int i=>.ok (some i) S1
 | _=>.no
abbrev tO (X:Cx)(c:Pt):TO:=λσ H Q=>∃ρ S τ,Rel X.K ρ H S/\SR X.K ρ H τ σ/\(c τ S).post (λo S'=>∀ρ' H',Ext ρ ρ' H H'->Rel X.K ρ' H' S'->Q o H') (XE X ρ H)
abbrev AO (X:Cx)(e:Option aC)(c:Pt):Prop:=PO X e (tO X c)
def Ai:AO X none Dg:=λpins s σ H Q I ⟨ρ,S,τ,R,r,h⟩=>T_ pins s σ H Q I (h ρ H .refl R)
def Aa{c:Ex}(ha:AE X a c):AO X (some a) (C4 c):=λpins s σ H Q I ⟨ρ,S,τ,R,r,h⟩=>SH ha pins s σ H Q I ⟨ρ,S,τ,R,r,jC (jD h) .refl λx S1 h1 ρ1 H1 v e1 R1 v1=>by
 cases v1<;>first|exact h1.elim|exact⟨_,rfl,h1 ρ1 H1 e1 R1⟩⟩
abbrev BC (xs:ae)(lo hi:bj):ae:=(xs.drop (HT.oh xs.length 0 lo)).take (HT.oh xs.length xs.length hi-HT.oh xs.length 0 lo)
def AVs.cut{K:au}{H:Hp}(r:AVs K ρ H xs vs)(lo hi:bj):AVs K ρ H (BC xs lo hi) (Gj vs lo hi):=by
 unfold BC Gj;rw[r.length];exact(r.drop _).take _
abbrev Mz (a:A)(lo hi:bj)(S:jz):R A:=match a with
 | .ref n=>opt (ju S n) λxs=>.ok (.ref S.length) (S++[.lst (BC xs lo hi)])
 | .frz xs=>.ok (.ref S.length) (S++[.lst (BC xs lo hi)])
 | .tup xs=>gd (¬(HT.oh xs.length 0 lo=0/\HT.oh xs.length xs.length hi=xs.length)) (.ok (.tup (BC xs lo hi)) S)
 | _=>.no
abbrev YU (c:Ex)(lo hi:Pt):Ex:=λτ S=>(c τ S).bind λa S1=>(lo τ S1).bind λl S2=>(hi τ S2).bind λu S3=>Mz a l u S3
abbrev rS (X:Cx):V->bj->bj->Hp->VK->Prop:=λx lo hi H Q=>∃ρ S a,Rel X.K ρ H S/\AV X.K ρ H a x/\(Mz a lo hi S).post (Cu X ρ H Q) (XE X ρ H)
def WW:SlR X (rS X):=λpins s σ H x v vl vu lo hi sl Q I rx hs pl pu h9=>by
 obtain⟨ρ,S,a,R,va,h⟩:=h9
 cases va with
 | @tup p xs vs h1 r1=>
  obtain⟨hc,h⟩:=jY h;exact WJ pins s σ H _ v vl vu lo hi sl Q I rx hs pl pu ⟨p,vs,rfl,(m_.of h1),by rw[<- r1.length];exact hc,wB R (r1.cut lo hi) .refl h⟩
 | @frz p xs vs h1 r1=>exact Kh pins s σ H _ v vl vu lo hi sl Q I rx hs pl pu ⟨p,vs,rfl,h1.RZ,nO R (r1.cut lo hi) .refl h⟩
 | @ref p n hp=>
  gp_on;obtain⟨vs,h1,r1⟩:=R.lst hp (jN hn);exact Kh pins s σ H _ v vl vu lo hi sl Q I rx hs pl pu ⟨p,vs,rfl,rG.of h1,nO R (r1.cut lo hi) .refl h⟩
 | _=>exact h.elim
def JD{e:aC}{lo:Option aC}{c:Ex}{cl ch:Pt}(he:AE X e c)(hl:AO X lo cl)(hh:AO X hi ch):AE X (.Subscript e (.Slice lo hi none p2) pos) (YU c cl ch):=PE.imp (Qp WW he hl hh) λσ H Q h9=>by
 room;refine⟨ρ,S,τ,R,r,jC (jD h) .refl λa S1 h1 ρ1 H1 x e1 R1 v1=>⟨ρ1,S1,τ,R1,r.ext e1,jC (jD h1) e1 λl S2 h2 ρ2 H2 e2 R2=>⟨ρ2,S2,τ,R2,r.ext (e1.trans e2),jC (jD h2) (e1.trans e2) λu S3 h3 ρ3 H3 e3 R3=>?_⟩⟩⟩;exact⟨ρ3,S3,a,R3,v1.ext (e2.trans e3),jC h3 (e1.trans (e2.trans e3)) λ_ _ z=>z.ext (e1.trans (e2.trans e3))⟩
abbrev aaF (a:A)(S:jz):R A:=match a with
 | .ref n=>opt (ju S n) λxs=>.ok (.ref S.length) (S++[.lst xs.reverse])
 | .tup xs=>.ok (.tup xs.reverse) S
 | _=>.no
abbrev jR (f:ae->jz->R A)(d:sP):Ex:=λτ S=>(d τ S).bind λas S1=>f as S1
def GR{f:ae->jz->R A}{d:sP}{H:Hp}{Q:VK}(h:tE X (jR f d) σ H Q):tCB (rN X f) (tL X d) σ H Q:=by
 kst_p;exact⟨ρ,S,τ,R,r,jC (jD h) .refl λas S1 h1 ρ1 H1 vs e1 R1 v1=>⟨ρ1,S1,as,R1,v1,jC h1 e1 λ_ _ z=>z.ext e1⟩⟩
variable {x:Str}{p:Pos}{e:aC}{es:List aC}{id T:String}{f:ae->jz->R A}{d:sP}
def jK(hc:j9 X (.builtin id) (rN X f))(hm:X.mg x=none)(hv:bootBuiltins x=some (.builtin id))(ha:AL X (e::es) d)(hg:Gl X x:=by rfl)(hn:x ≠ "__name__" := by decide)(hdb:(x == ("__debug__" : Str))=false:=by decide)
  (he:starEach (e::es) X.env=(false,eval e X.env)::starEach es X.env:=by rfl) (hpl:(backTo pos (starEach es X.env)).any (·.1)=false:=by rfl):AE X (.Call (.Name x p) (e::es) [] pos) (jR f d):=
 PE.imp (Nr hc hg hm hv ha hn hdb he hpl) λ_ _ _ h=>GR h
def mR(hc:j9 X (.type T) (rN X f))(hm:X.mg x=none)(hv:bootBuiltins x=some (.type T))(ha:AL X (e::es) d)(hg:Gl X x:=by rfl)(hn:x ≠ "__name__" := by decide)(hdb:(x == ("__debug__" : Str))=false:=by decide)
  (he:starEach (e::es) X.env=(false,eval e X.env)::starEach es X.env:=by rfl) (hpl:(backTo pos (starEach es X.env)).any (·.1)=false:=by rfl):AE X (.Call (.Name x p) (e::es) [] pos) (jR f d):=
 PE.imp (Ms hc hg hm hv ha hn hdb he hpl) λ_ _ _ h=>GR h
def xO(hm:X.mg x=none)(hv:bootBuiltins x=some (.type T))(hg:Gl X x:=by rfl)(hn:x ≠ "__name__" := by decide)(hdb:(x == ("__debug__" : Str))=false:=by decide):AE X (.Name x pos) (eC (.ty T)):=
 PE.imp (UR (v:=.ty T) hg hm hv rfl hn hdb) λσ H Q ⟨ρ,S,τ,R,r,h⟩=>h ρ H _ .refl R (.ty T)
abbrev A.seq (S:jz):A->Option (ae)
 | .tup xs=>some xs
 | .frz xs=>some xs
 | .ref n=>ju S n
 | _=>none
def WX{K:au}{H:Hp}{x:A}{v:V}(R:Rel K ρ H S)(h:AV K ρ H x v)(e:x.seq S=some xs):∃p vs,v=.ref p/\(rG K H p vs\/m_ K H p vs)/\AVs K ρ H xs vs:=by
 cases h with
 | tup h r=>cases a_ e;exact⟨_,_,rfl,.inr (m_.of h),r⟩
 | frz h r=>cases a_ e;exact⟨_,_,rfl,.inl h.RZ,r⟩
 | ref h=>
  obtain⟨vs,h1,r1⟩:=R.lst h (jN e);exact⟨_,vs,rfl,.inl (rG.of h1),r1⟩
 | _=>cases e
def Sq{K:au}{H:Hp}{x:A}(h:AVs K ρ H [x] vs):∃v,vs=[v]/\AV K ρ H x v:=by
 cases h with
 | cons h t=>cases t;exact⟨_,rfl,h⟩
def XF{K:au}{H:Hp}{x:A}(h:AVs K ρ H [x,y] vs):∃v w,vs=[v,w]/\AV K ρ H x v/\AV K ρ H y w:=by
 cases h with
 | cons h t=>obtain⟨w,rfl,h'⟩:=Sq t;exact⟨_,_,rfl,h,h'⟩
abbrev f1 (g:A->jz->R A):ae->jz->R A:=λas S=>match as with
 | [x]=>g x S
 | _=>.no
abbrev f2 (g:A->A->jz->R A):ae->jz->R A:=λas S=>match as with
 | [x,y]=>g x y S
 | _=>.no
def UQ{g:A->jz->R A}{P:A->jz->Prop}{E:Str->jz->Prop}(h:(f1 g as S).post P E):∃x,as=[x]/\(g x S).post P E:=by
 match as,h with
 | [],h=>exact h.elim
 | [x],h=>exact⟨x,rfl,h⟩
 | _::_::_,h=>exact h.elim
def UC{g:A->A->jz->R A}{P:A->jz->Prop}{E:Str->jz->Prop}(h:(f2 g as S).post P E):∃x y,as=[x,y]/\(g x y S).post P E:=by
 match as,h with
 | [],h=>exact h.elim
 | [_],h=>exact h.elim
 | [x,y],h=>exact⟨x,y,rfl,h⟩
 | _::_::_::_,h=>exact h.elim
def Ux{g:A->jz->R A}{H:Hp}{Q:VK}(h:rN X (f1 g) vs H Q):∃v,vs=[v]/\∃ρ S x,Rel X.K ρ H S/\AV X.K ρ H x v/\(g x S).post (Cu X ρ H Q) (XE X ρ H):=by
 obtain⟨ρ,S,as,R,v,h⟩:=h;obtain⟨x,rfl,h⟩:=UQ h;obtain⟨w,rfl,hv⟩:=Sq v;exact⟨w,rfl,ρ,S,x,R,hv,h⟩
def rn2{g:A->A->jz->R A}{H:Hp}{Q:VK}(h:rN X (f2 g) vs H Q):∃v w,vs=[v,w]/\∃ρ S x y,Rel X.K ρ H S/\AV X.K ρ H x v/\AV X.K ρ H y w/\(g x y S).post (Cu X ρ H Q) (XE X ρ H):=by
 obtain⟨ρ,S,as,R,v,h⟩:=h;obtain⟨x,y,rfl,h⟩:=UC h;obtain⟨w,w',rfl,hv,hv'⟩:=XF v;exact⟨w,w',rfl,ρ,S,x,y,R,hv,hv',h⟩
abbrev nV (x:A)(S:jz):R A:=match x with
 | .str x=>gd (x.length<=sizeLine) (.ok (.int x.length) S)
 | .tup xs=>.ok (.int xs.length) S
 | .frz xs=>.ok (.int xs.length) S
 | .ref n=>opt (ju S n) λxs=>.ok (.int xs.length) S
 | _=>.no
def nE:j9 X (.builtin "len") (rN X (f1 nV)):=j9.imp O_ λvs H Q h0=>by
 gn_on;clear h0
 cases hv with
 | str z=>
  obtain⟨hz,h⟩:=jY h;exact⟨_,_,rfl,⟨hz,rfl⟩,h _ _ _ .refl R (.int _)⟩
 | @tup p xs us h1 r=>exact⟨_,us.length,rfl,.inr ⟨us,(m_.of h1),rfl⟩,by rw[<- r.length];exact h _ _ _ .refl R (.int _)⟩
 | @frz p xs us h1 r=>exact⟨_,us.length,rfl,.inl ⟨us,h1.RZ,rfl⟩,by rw[<- r.length];exact h _ _ _ .refl R (.int _)⟩
 | ref hp=>
  gp_on;obtain⟨us,h1,r⟩:=R.lst hp (jN hn);exact⟨_,us.length,rfl,.inl ⟨us,rG.of h1,rfl⟩,by rw[<- r.length];exact h _ _ _ .refl R (.int _)⟩
 | _=>exact h.elim
abbrev abM (x:A)(S:jz):R A:=match x with
 | .int i=>.ok (.int (if i<0 then -i else i)) S
 | _=>.no
abbrev M3 (x y:A)(S:jz):R A:=match x,y with
 | .int i,.int j=>.ok (.int (if j>i then j else i)) S
 | _,_=>.no
def W2(hc:X.calm=true):j9 X (.builtin "max") (rN X (f2 M3)):=j9.imp (Ml hc) λvs H Q h0=>by
 obtain⟨w,w',rfl,ρ,S,x,y,R,hv,hv',h⟩:=rn2 h0;clear h0
 cases hv<;>first|exact h.elim|(cases hv'<;>first|exact h.elim|exact⟨_,_,rfl,h _ _ _ .refl R (.int _)⟩)
abbrev N4 (x y:A)(S:jz):R A:=match x,y with
 | .int i,.int j=>.ok (.int (if j<i then j else i)) S
 | _,_=>.no
def Wx(hc:X.calm=true):j9 X (.builtin "min") (rN X (f2 N4)):=j9.imp (LK hc) λvs H Q h0=>by
 obtain⟨w,w',rfl,ρ,S,x,y,R,hv,hv',h⟩:=rn2 h0;clear h0
 cases hv<;>first|exact h.elim|(cases hv'<;>first|exact h.elim|exact⟨_,_,rfl,h _ _ _ .refl R (.int _)⟩)
abbrev J5 (x:A)(S:jz):R A:=match x with
 | .int i=>.ok (.int i) S
 | .bl k=>.ok (.int (if k then 1 else 0)) S
 | .str y=>opt (PySem.intText? y) λn=>gd (y.length<=640) (.ok (.int n) S)
 | _=>.no
def Yr:j9 X (.type "int") (rN X (f1 J5)):=λpins s σ H xs us Q I rv h0=>by
 gn_on;clear h0
 cases hv with
 | int i=>exact CG pins s σ H _ us Q I rv (.inl ⟨i,rfl,h _ _ _ .refl R (.int _)⟩)
 | bl k=>exact CG pins s σ H _ us Q I rv (.inr ⟨k,rfl,h _ _ _ .refl R (.int _)⟩)
 | str y=>
  obtain⟨n,hn,h⟩:=jF h;obtain⟨hl,h⟩:=jY h;exact MB pins s σ H _ us Q I rv ⟨y,n,rfl,hl,hn,h _ _ _ .refl R (.int _)⟩
 | _=>exact h.elim
abbrev DQ (x y:A)(S:jz):R A:=match x,y with
 | .int i,.int j=>.ok (.rng i j) S
 | _,_=>.no
def NN:j9 X (.type "range") (rN X (f2 DQ)):=j9.imp DH λvs H Q h0=>by
 obtain⟨w,w',rfl,ρ,S,x,y,R,hv,hv',h⟩:=rn2 h0;clear h0
 cases hv with
 | int i=>
  cases hv' with
  | int j=>
   refine⟨i,j,rfl,λp hp=>?_⟩;obtain⟨ex,R'⟩:=R.im (u:=.rng i j) hp;exact h ρ _ _ ex R' (.rng kP)
  | _=>exact h.elim
 | _=>exact h.elim
abbrev De (i j:Int):Prop:=(-(2 ^ 62)<=i/\i<2 ^ 62/\-(2 ^ 62)<=j/\j<2 ^ 62)/\(j-i).toNat<=1000
instance (i j:Int):Decidable (De i j):=by unfold De;infer_instance
abbrev wQ (x:A)(S:jz):R A:=match x with
 | .rng i j=>gd (De i j) (.ok (.ref S.length) (S++[.lst ((j8 i j).map .int)]))
 | .tup xs=>.ok (.ref S.length) (S++[.lst xs])
 | .frz xs=>.ok (.ref S.length) (S++[.lst xs])
 | .ref n=>opt (ju S n) λxs=>.ok (.ref S.length) (S++[.lst xs])
 | _=>.no
def DF(hc:X.calm=true):j9 X (.type "list") (rN X (f1 wQ)):=λpins s σ H vs us Q I rx h0=>by
 gn_on;clear h0
 cases hv with
 | @rng p i j hp=>
  obtain⟨hc',h⟩:=jY h;exact Ct hc pins s σ H _ us Q I rx ⟨p,i,j,rfl,hp,hc'.1,hc'.2,nO R (tV _) .refl h⟩
 | @tup p xs vs h1 r=>exact ue pins s σ H _ us Q I rx ⟨p,vs,rfl,.inr (m_.of h1),nO R r .refl h⟩
 | @frz p xs vs h1 r=>exact ue pins s σ H _ us Q I rx ⟨p,vs,rfl,.inl h1.RZ,nO R r .refl h⟩
 | @ref p n hp=>
  gp_on;obtain⟨vs,h1,r⟩:=R.lst hp (jN hn);exact ue pins s σ H _ us Q I rx ⟨p,vs,rfl,.inl (rG.of h1),nO R r .refl h⟩
 | _=>exact h.elim
abbrev vF (x:A)(S:jz):R A:=match x with
 | .rng i j=>gd (De i j) (.ok (.tup ((j8 i j).map .int)) S)
 | .tup xs=>.ok (.tup xs) S
 | .frz xs=>.ok (.tup xs) S
 | .ref n=>opt (ju S n) λxs=>.ok (.tup xs) S
 | _=>.no
def Aj(hc:X.calm=true):j9 X (.type "tuple") (rN X (f1 vF)):=λpins s σ H vs us Q I rx h0=>by
 gn_on;clear h0
 cases hv with
 | @rng p i j hp=>
  obtain⟨hc',h⟩:=jY h;exact BS hc pins s σ H _ us Q I rx ⟨p,i,j,rfl,hp,hc'.1,hc'.2,wB R (tV _) .refl h⟩
 | @tup p xs vs h1 r=>exact sZ pins s σ H _ us Q I rx ⟨p,vs,rfl,.inr ⟨(m_.of h1),h _ _ _ .refl R (.tup h1 r)⟩⟩
 | @frz p xs vs h1 r=>exact sZ pins s σ H _ us Q I rx ⟨p,vs,rfl,.inl ⟨h1.RZ,wB R r .refl h⟩⟩
 | @ref p n hp=>
  gp_on;obtain⟨vs,h1,r⟩:=R.lst hp (jN hn);exact sZ pins s σ H _ us Q I rx ⟨p,vs,rfl,.inl ⟨rG.of h1,wB R r .refl h⟩⟩
 | _=>exact h.elim
abbrev A.R_:ae->Option (List Bool)
 | []=>some []
 | .bl b::xs=>(A.R_ xs).map (b::·)
 | _=>none
theorem OY{K:au}{H:Hp}:∀{xs:ae}{vs:List V}{bs:List Bool},AVs K ρ H xs vs->A.R_ xs=some bs->vs=bs.map V.bl
 | _,_,_,.nil,e=>by cases e;rfl
 | _,_,_,.cons (x:=.bl b) h t,e=>by
  obtain⟨cs,e1,rfl⟩:=aX.mp e
  cases h
  rw[OY t e1];rfl
 | _,_,_,.cons (x:=.unb) h t,e=>nomatch e
 | _,_,_,.cons (x:=.non) h t,e=>nomatch e
 | _,_,_,.cons (x:=.int _) h t,e=>nomatch e
 | _,_,_,.cons (x:=.str _) h t,e=>nomatch e
 | _,_,_,.cons (x:=.tup _) h t,e=>nomatch e
 | _,_,_,.cons (x:=.frz _) h t,e=>nomatch e
 | _,_,_,.cons (x:=.rng _ _) h t,e=>nomatch e
 | _,_,_,.cons (x:=.ref _) h t,e=>nomatch e
 | _,_,_,.cons (x:=.exn _) h t,e=>nomatch e
 | _,_,_,.cons (x:=.ty _) h t,e=>nomatch e
abbrev Nd (x:A)(S:jz):R A:=match x with
 | .ref n=>opt (ju S n) λxs=>opt (A.R_ xs) λbs=>.ok (.bl (bs.all λb=>b)) S
 | _=>.no
def VH(hc:X.calm=true):j9 X (.builtin "all") (rN X (f1 Nd)):=j9.imp (MQ hc) λvs H Q h0=>by
 gn_on;clear h0
 cases hv with
 | @ref p n hp=>
  gp_on;obtain⟨bs,hb,h⟩:=jF h;obtain⟨vs,h1,r⟩:=R.lst hp (jN hn);rw[OY r hb]at h1;exact⟨p,bs,rfl,rG.of h1,h _ _ _ .refl R (.bl _)⟩
 | _=>exact h.elim
abbrev insI (x:Int):ag->ag
 | []=>[x]
 | y::ys=>if x<=y then x::y::ys else y::insI x ys
abbrev sortI:ag->ag
 | []=>[]
 | x::xs=>insI x (sortI xs)
theorem insI_perm(x:Int):∀ys:ag,(insI x ys).Perm (x::ys)
 | []=>eW _
 | y::ys=>by
  unfold insI;by_cases h:x<=y
  ·rw[aK h]
  ·rw[aJ h];exact((insI_perm x ys).cons y).trans (List.Perm.swap x y ys)
theorem sortI_perm:∀xs:ag,(sortI xs).Perm xs
 | []=>eW _
 | x::xs=>(insI_perm x (sortI xs)).trans ((sortI_perm xs).cons x)
theorem Jx(x:Int):∀ys:ag,ys.Pairwise (·<=·)->(insI x ys).Pairwise (·<=·)
 | [],_=>cj _ _
 | y::ys,h=>by
  unfold insI;obtain⟨h1,h2⟩:=bW.mp h;by_cases hx:x<=y
  ·rw[aK hx];exact bW.mpr ⟨λz hz=>(bF.mp hz).elim (λe=>e ▸ hx) λhz=>Int.le_trans hx (h1 z hz),h⟩
  ·rw[aJ hx];refine bW.mpr ⟨λz hz=>?_,Jx x ys h2⟩
   rcases bF.mp ((insI_perm x ys).mem_iff.mp hz)with e|hz
   ·subst e;lia
   ·exact h1 z hz
theorem Ba:∀xs:ag,(sortI xs).Pairwise (·<=·)
 | []=>List.Pairwise.nil
 | x::xs=>Jx x _ (Ba xs)
abbrev A.kd:A->jz->Option Kd
 | .non,_=>some .non
 | .bl _,_=>some .bl
 | .int _,_=>some .int
 | .str _,_=>some .str
 | .tup _,_=>some .tup
 | .ref n,S=>(ju S n).map λ_=>.lst
 | _,_=>none
def UT{K:au}(k:Kd):PySem.W.kitOne K k.ty (.type "str")=some (decide (k=.str)):=by cases k<;>rfl
abbrev zV (k:Kd)(c:String):bn:=if c = "int" then some (decide (k=.int\/k=.bl))else if c = "bool" then some (decide (k=.bl))else if c = "tuple" then some (decide (k=.tup))else if c = "list" then some (decide (k=.lst))else if c = "str" then some (decide (k=.str))else none
def Lh{K:au}{k:Kd}{c:String}{b:Bool}(h:zV k c=some b):PySem.W.kitOne K k.ty (.type c)=some b:=by
 unfold zV at h;split at h
 ·rename_i e;subst e;rw[<- h];exact Sf k
 ·split at h
  ·rename_i e;subst e;rw[<- h];exact RV k
  ·split at h
   ·rename_i e;subst e;rw[<- h];exact kit_tuple k
   ·split at h
    ·rename_i e;subst e;rw[<- h];exact QB k
    ·split at h
     ·rename_i e;subst e;rw[<- h];exact UT k
     ·cases h
abbrev BB (x y:A)(S:jz):R A:=match y with
 | .ty c=>opt (x.kd S) λk=>opt (zV k c) λb=>.ok (.bl b) S
 | _=>.no
def aau{K:au}{H:Hp}{x:A}{v:V}{k:Kd}(R:Rel K ρ H S)(h:AV K ρ H x v)(e:x.kd S=some k):(∃p vs,v=.ref p/\m_ K H p vs/\k=.tup)\/Yv H v k:=by
 cases h with
 | non=>cases e;exact .inr rfl
 | bl b=>cases e;exact .inr ⟨b,rfl⟩
 | int i=>cases e;exact .inr ⟨i,rfl⟩
 | str i=>cases e;exact .inr ⟨i,rfl⟩
 | tup h r=>cases e;exact .inl ⟨_,_,rfl,(m_.of h),rfl⟩
 | ref h=>
  obtain⟨xs,e1,e2⟩:=aX.mp e;obtain⟨vs,h1,_⟩:=R.lst h (jN e1)
  cases e2
  exact .inr ⟨_,vs,rfl,h1⟩
 | _=>cases e
def yC:j9 X (.builtin "isinstance") (rN X (f2 BB)):=λpins s σ H vs us Q I rx h0=>by
 obtain⟨w,w',rfl,ρ,S,x,y,R,hv,hv',h⟩:=rn2 h0;clear h0
 cases hv' with
 | ty c=>
  obtain⟨k,hk,h⟩:=jF h;obtain⟨b,hb,hq⟩:=jF h;have hq:Cu X ρ H Q (.bl b) S:=hq;clear h
  rcases aau R hv hk with⟨p,vs,rfl,ht,rfl⟩|hd
  ·obtain⟨u1,u2,rfl,r1,r2⟩:=vals2 rx;obtain⟨its,q,⟨o,h1,h2,_⟩,_⟩:=I.tuple ht
   cases(show _=Value.ref p from r1)
   cases(show _=Value.type c from r2)
   exact c6 PySem.W.kitx_tuple I.E6 ⟨o,h1,h2⟩ (Lh hb) (λz=>nomatch z) λtk=>⟨.bl b,H,I.tok _,rfl,hq _ _ _ .refl R (.bl _)⟩
  ·exact Gv (c:=c) pins s σ H _ us Q I rx ⟨w,_,b,rfl,hd.ab0,Lh hb,hq _ _ _ .refl R (.bl _)⟩
 | _=>exact h.elim
end
abbrev Ez (x:ag):List (ag)->List (ag)
 | []=>[x]
 | y::ys=>if HT.lexLt y x=true then y::Ez x ys else x::y::ys
abbrev mE:List (ag)->List (ag)
 | []=>[]
 | x::xs=>Ez x (mE xs)
abbrev EU (a b:ag):Prop:=HT.lexLt b a=false
def EU.trans{a c:ag}(h1:EU a b)(h2:EU b c):EU a c:=by
 unfold EU at *
 cases e:HT.lexLt c a with
 | false=>rfl
 | true=>
  rcases Sx.IU (b:=b) e with z|z
  ·rw[h2]at z;cases z
  ·rw[h1]at z;cases z
theorem zB(x:ag):∀ys:List (ag),(Ez x ys).Perm (x::ys)
 | []=>eW _
 | y::ys=>by
  unfold Ez;by_cases h:HT.lexLt y x=true
  ·rw[aK h];exact((zB x ys).cons y).trans (List.Perm.swap x y ys)
  ·rw[aJ h]
theorem jW:∀xs:List (ag),(mE xs).Perm xs
 | []=>eW _
 | x::xs=>(zB x (mE xs)).trans ((jW xs).cons x)
theorem KN(x:ag):∀ys:List (ag),ys.Pairwise EU->(Ez x ys).Pairwise EU
 | [],_=>cj _ _
 | y::ys,h=>by
  unfold Ez;obtain⟨h1,h2⟩:=bW.mp h;by_cases hx:HT.lexLt y x=true
  ·rw[aK hx];refine bW.mpr ⟨λz hz=>?_,KN x ys h2⟩
   rcases bF.mp ((zB x ys).mem_iff.mp hz)with e|hz
   ·subst e;unfold EU
    cases e:HT.lexLt z y with
    | false=>rfl
    | true=>have:=Sx.EG hx e;rw[Sx.Av]at this;cases this
   ·exact h1 z hz
  ·rw[aJ hx];have hx':EU x y:=by unfold EU;simpa using hx
   exact bW.mpr ⟨λz hz=>(bF.mp hz).elim (λe=>e ▸ hx') λhz=>hx'.trans (h1 z hz),h⟩
theorem tM:∀xs:List (ag),(mE xs).Pairwise EU
 | []=>List.Pairwise.nil
 | x::xs=>KN x _ (tM xs)
def IJ{xs:List (ag)}(p:xs.Perm ys)(h:xs.Pairwise EU):xs=mE ys:=
 dW (λa b _ _ h1 h2=>(Sx.ya h1 h2).symm) h (tM ys) (p.trans (jW ys).symm)
theorem pig:∀(N:Nat) (l:am),l.Nodup->(∀x∈l,x<N)->l.length<=N
 | 0,l,_,h=>by
  cases l with
  | nil=>exact aR _
  | cons a l=>exact absurd (h a (aM ..)) (fV _)
 | N+1,l,nd,h=>by
  have h1:=pig N (l.erase N) (nd.erase N) λx hx=>by
   have:=h x (List.mem_of_mem_erase hx);have:x≠N:=λz=>by
    subst z;exact(List.Nodup.not_mem_erase nd) hx
   lia
  have:=List.le_length_erase (l:=l) (a:=N)
  lia
def uD{N:Nat}{g:Nat->Nat}(h:∀i,i<N->g i<N)(inj:∀i j,i<j->j<N->g i≠g j):((List.range N).map g).Perm (List.range N):=by
 have nd:((List.range N).map g).Nodup:=by
  unfold List.Nodup;rw[cG];intro i j hi hj hij;rw[aH,cF]at hi hj;rw[dh,dh,eX,eX];exact inj i j hij hj
 have lt:∀x∈(List.range N).map g,x<N:=λx hx=>by
  obtain⟨i,hi,rfl⟩:=bu.mp hx;exact h i (cU.mp hi)
 refine(iR nd List.nodup_range).mpr λa=>⟨λha=>cU.mpr (lt a ha),λha=>?_⟩;refine Classical.byContradiction λhn=>?_;have:=pig N (a::(List.range N).map g) (cR.mpr ⟨hn,nd⟩) λx hx=>by
  rcases bF.mp hx with rfl|hx
  ·exact cU.mp ha
  ·exact lt x hx
 rw[bq,aH,cF]at this
 lia
def range_getD{α:Type}(l:List α)(d:α):(List.range l.length).map (λi=>l.getD i d)=l:=by
 apply cL;intro i;rw[aO];by_cases c:i<l.length
 ·rw[dQ c];show some (l.getD i d)=_;rw[aI,aF c];rfl
 ·rw[bQ (by rw[cF];lia),bQ ()];rfl
def Ou{kss:List (ag)}{g:Nat->Nat}(c:Sx.Cl g 0 kss.length)(so:Sx.So (Sx.Cm kss) g 0 kss.length):(List.range kss.length).map (λi=>kss.getD (g i) [])=mE kss:=by
 refine IJ ?_ ?_
 ·have p:=uD (N:=kss.length) (g:=g) (λi hi=>(c i (bL _) hi).2) λi j hij hj z=>by
   have:=so i j (bL _) hij hj;rw[z]at this;exact this.MV
  have:=p.map λi=>kss.getD i [];rw[bh,range_getD]at this;exact this
 ·rw[cG];intro i j hi hj hij;rw[aH,cF]at hi hj;rw[dh,dh,eX,eX];exact(so i j (bL _) hij hj).ge
theorem DT{K:au}{H:Hp}{α:Type}{f:α->A}{h:α->V}:∀{l:List α},(∀a∈l,AV K ρ H (f a) (h a))->AVs K ρ H (l.map f) (l.map h)
 | [],_=>.nil
 | a::l,e=>.cons (e a (aM ..)) (DT λb hb=>e b (aN _ hb))
abbrev RS.post (r:RS)(N:ae->jz->Prop)(T:A->jz->Prop)(B C:ae->jz->Prop)(E:Str->jz->Prop):Prop:=match r with
 | .nx τ S=>N τ S
 | .rt a S=>T a S
 | .bk τ S=>B τ S
 | .ct τ S=>C τ S
 | .ex c S=>E c S
 | .no=>False
abbrev RS.of {α:Type}(r:R α)(f:α->jz->RS):RS:=match r with
 | .ok a S=>f a S
 | .ex c S=>.ex c S
 | .no=>.no
def of_post{α:Type}{r:R α}{f:α->jz->RS}{N B C:ae->jz->Prop}{T:A->jz->Prop}{E:Str->jz->Prop}(h:(RS.of r f).post N T B C E):r.post (λa S=>(f a S).post N T B C E) E:=by
 cases r<;>exact h
def RS.mono{r:RS}{N B C N' B' C':ae->jz->Prop}{T T':A->jz->Prop}{E E':Str->jz->Prop}(h:r.post N T B C E)(hn:∀τ S,N τ S->N' τ S)(ht:∀a S,T a S->T' a S)(hb:∀τ S,B τ S->B' τ S)(hc:∀τ S,C τ S->C' τ S)(he:∀c S,E c S->E' c S):r.post N' T' B' C' E':=by
 cases r with
 | nx τ S=>exact hn _ _ h
 | rt a S=>exact ht _ _ h
 | bk τ S=>exact hb _ _ h
 | ct τ S=>exact hc _ _ h
 | ex c S=>exact he _ _ h
 | no=>exact h.elim
abbrev OC (X:Cx)(ρ:bd)(H:Hp)(N:L2.St->Hp->Prop):ae->jz->Prop:=λτ' S'=>∀ρ' H' σ',Ext ρ ρ' H H'->Rel X.K ρ' H' S'->SR X.K ρ' H' τ' σ'->N σ' H'
def OC.ext{X:Cx}{H H':Hp}{N:L2.St->Hp->Prop}(h:OC X ρ H N τ S)(e:Ext ρ ρ' H H'):OC X ρ' H' N τ S:=λρ2 H2 σ2 e2=>h ρ2 H2 σ2 (e.trans e2)
abbrev Eb (X:Cx)(ρ:bd)(H:Hp)(D:Ends)(r:RS):Prop:=r.post (OC X ρ H D.nx) (Cu X ρ H D.rt) (OC X ρ H D.bk) (OC X ρ H D.ct) (XE X ρ H)
def Eb.ext{X:Cx}{H H':Hp}{D:Ends}{r:RS}(h:Eb X ρ H D r)(e:Ext ρ ρ' H H'):Eb X ρ' H' D r:=RS.mono h (λ_ _ z=>z.ext e) (λ_ _ z=>z.ext e) (λ_ _ z=>z.ext e) (λ_ _ z=>z.ext e) λ_ _ z=>z.ext e
abbrev tS (X:Cx)(c:Sm):TS:=λD σ H=>∃ρ S τ,Rel X.K ρ H S/\SR X.K ρ H τ σ/\Eb X ρ H D (c τ S)
abbrev AS (X:Cx)(st:aE)(c:Sm):Prop:=PS X st (tS X c)
abbrev U8 (X:Cx)(sts:List aE)(c:Sm):Prop:=DR X sts (tS X c)
abbrev tG (X:Cx)(g:Tg):TG:=λv σ H Q=>∃ρ S τ a,Rel X.K ρ H S/\SR X.K ρ H τ σ/\AV X.K ρ H a v/\(g a τ S).post (OC X ρ H Q) (XE X ρ H)
abbrev AG (X:Cx)(e:aC)(g:Tg):Prop:=PG X e (tG X g)
meta abbrev Sd:=ae->ae->jz->R (ae)
abbrev tGs (X:Cx)(g:Sd):Wc:=λvs σ H Q=>∃ρ S τ as,Rel X.K ρ H S/\SR X.K ρ H τ σ/\AVs X.K ρ H as vs/\(g as τ S).post (OC X ρ H Q) (XE X ρ H)
abbrev AGs (X:Cx)(es:List aC)(g:Sd):Prop:=PGs X es (tGs X g)
section
variable {X:Cx}{pos:Pos}{a b e:aC}{st:aE}{rest:List aE}{c d:Sm}
def PS.imp{t t':TS}(h:PS X st t)(i:∀D σ H,t' D σ H->t D σ H):PS X st t':=λpins s σ H D I q=>h pins s σ H D I (i D σ H q)
def DR.imp{t t':TS}(h:DR X rest t)(i:∀D σ H,t' D σ H->t D σ H):DR X rest t':=λpins s σ H D I q=>h pins s σ H D I (i D σ H q)
def PG.imp{t t':TG}(h:PG X e t)(i:∀v σ H Q,t' v σ H Q->t v σ H Q):PG X e t':=λpins s σ H v u Q I r q=>h pins s σ H v u Q I r (i _ _ _ _ q)
abbrev j4 (i:Nat):Tg:=λa τ S=>.ok (τ.set i a) S
def jG{i:Nat}{x:Str}(hN:X.N.Nodup)(hi:X.N[i]?=some x:=by rfl)(hx:Loc X.env.scope x:=by first|exact Or.inl rfl|exact Or.inr rfl)(hf:X.fn x=true\/X.env.scope.names.lookup x=some .local:=by first|exact .inl rfl|exact .inr rfl|assumption):AG X (.Name x pos) (j4 i):=
 PG.imp (Kg hN hi hx hf) λv σ H Q ⟨ρ,S,τ,a,R,r,va,h⟩=>h ρ H _ .refl R (r.set va)
abbrev wV:Sd:=λas τ S=>match as with
 | []=>.ok τ S
 | _=>.no
abbrev ow (g:Tg)(gs:Sd):Sd:=λas τ S=>match as with
 | a::as=>(g a τ S).bind λτ1 S1=>gs as τ1 S1
 | []=>.no
def kR:AGs X [] wV:=λpins s σ H vs us Q I r ⟨ρ,S,τ,as,R,sr,va,h⟩=>Uv pins s σ H vs us Q I r (by
 cases va with
 | nil=>exact⟨rfl,h ρ H σ .refl R sr⟩
 | cons _ _=>exact h.elim)
def jL{g:Tg}{gs:Sd}(h1:AG X e g)(h2:AGs X es gs)(hs:(assignEach (e::es) X.env).map (·.2)=assign e X.env::(assignEach es X.env).map (·.2):=by rfl):AGs X (e::es) (ow g gs):=
 λpins s σ H vs us Q I r ⟨ρ,S,τ,as,R,sr,va,h⟩=>Nb h1 h2 hs pins s σ H vs us Q I r (by
  cases va with
  | nil=>exact h.elim
  | cons ha hr=>exact⟨_,_,rfl,ρ,S,τ,_,R,sr,ha,jC (jD h) .refl λτ1 S1 h1 ρ1 H1 σ1 e1 R1 sr1=>⟨ρ1,S1,τ1,_,R1,sr1,hr.ext e1,jC h1 e1 λ_ _ z=>z.ext e1⟩⟩)
abbrev xm (n:Nat)(gs:Sd):Tg:=λa τ S=>match a with
 | .tup xs | .ktu xs=>gd (xs.length=n) (gs xs τ S)
 | _=>.no
def mz{k n:Nat}{gs:Sd}(hc:X.calm=true)(h:AGs X es gs)(hn:(assignEach es X.env).length=n:=by rfl)(hst:(assignEach es X.env).findIdx? (·.1)=none:=by rfl):AG X (.Tuple es k pos) (xm n gs):=
 PG.imp (Yw hc h hn hst) λv σ H Q h9=>by
  obtain⟨ρ,S,τ,a,R,r,va,h⟩:=h9
  cases va with
  | tup h1 r1=>
   obtain⟨hl,h⟩:=jY h;exact⟨_,_,rfl,m_.of h1,by rw[<- r1.length];exact hl,ρ,S,τ,_,R,r,r1,h⟩
  | ktu h1 r1=>
   obtain⟨hl,h⟩:=jY h;exact⟨_,_,rfl,.inr h1,by rw[<- r1.length];exact hl,ρ,S,τ,_,R,r,r1,h⟩
  | _=>exact h.elim
abbrev E_ (o i v:A)(S:jz):R Unit:=match o,i with
 | .ref n,.int k=>opt (ju S n) λxs=>opt (Cq xs.length k) λj=>.ok Unit.unit (S.set n (.lst (xs.set j v)))
 | _,_=>.no
abbrev rSt (X:Cx):MJ:=λo i v H Q=>∃ρ S ao ai av,Rel X.K ρ H S/\AV X.K ρ H ao o/\AV X.K ρ H ai i/\AV X.K ρ H av v/\(E_ ao ai av S).post (λ_ S'=>∀ρ' H',Ext ρ ρ' H H'->Rel X.K ρ' H' S'->Q H') (XE X ρ H)
def Sk:Mw X (rSt X):=λpins s σ H o i v ov iv u Q I ro ri rv h9=>by
 obtain⟨ρ,S,ao,ai,av,R,h1,h2,h3,h⟩:=h9
 cases h1 with
 | @ref p n hp=>
  cases h2 with
  | int k=>
   gp_on;obtain⟨j,hj,h⟩:=jF h;obtain⟨vs,e,r⟩:=R.lst hp (jN hn);obtain⟨ex,R'⟩:=R.put hp (jN hn) (r.set h3 j);exact set_list pins s σ H _ _ v ov iv u Q I ro ri rv ⟨p,vs,k,j,rfl,rfl,e,by rw[<- r.length];exact hj,h _ _ ex R'⟩
  | _=>exact h.elim
 | _=>exact h.elim
abbrev Wt (co ci:Ex):Tg:=λa τ S=>(co τ S).bind λo S1=>(ci τ S1).bind λi S2=>(E_ o i a S2).bind λ_ S3=>.ok τ S3
def BP{co ci:Ex}(ho:AE X o co)(hi:AE X i ci)
  (ha:∀v,assign (.Subscript o i pos) X.env v=(do
   let ov <- holding [v] (eval o X.env)
   let iv <- holding [v,ov] (eval i X.env)
   standAt pos
   holding [v,ov,iv] (setItem ov iv v)
   release [v,ov,iv] []):=by intro _;rfl):AG X (.Subscript o i pos) (Wt co ci):=PG.imp (IP ho hi Sk ha) λv σ H Q h9=>by
 obtain⟨ρ,S,τ,a,R,r,va,h⟩:=h9;kd_p;kpc_g;exact h3 ρ3 H3 σ ((e1.trans e2).trans e3) R3 (r.ext ((e1.trans e2).trans e3))
abbrev pN:Sm:=λτ S=>.nx τ S
abbrev jU (c d:Sm):Sm:=λτ S=>match c τ S with
 | .nx τ' S'=>d τ' S'
 | r=>r
def ku:U8 X [] pN:=DR.imp TQ λD σ H ⟨ρ,S,τ,R,r,h⟩=>h ρ H σ .refl R r
def U_{D:Ends}{H:Hp}(h:tS X (jU c d) D σ H):aav (tS X c) (tS X d) D σ H:=by
 kst_p;refine⟨ρ,S,τ,R,r,?_⟩;unfold jU at h
 cases hc:c τ S with
 | nx τ1 S1=>
  rw[hc]at h;exact λρ1 H1 σ1 e1 R1 r1=>⟨ρ1,S1,τ1,R1,r1,Eb.ext h e1⟩
 | rt a S1=>rw[hc]at h;exact h
 | bk τ1 S1=>rw[hc]at h;exact h
 | ct τ1 S1=>rw[hc]at h;exact h
 | ex x S1=>rw[hc]at h;exact h
 | no=>rw[hc]at h;exact h
def jx(h1:AS X st c)(h2:U8 X rest d):U8 X (st::rest) (jU c d):=DR.imp (OU h1 h2) λD σ H h=>U_ h
def jB(h1:AS X st c):U8 X [st] c:=Ub h1
abbrev XZ:Sm:=λτ S=>.bk τ S
abbrev Zh:Sm:=λτ S=>.ct τ S
abbrev oW (e:Ex):Sm:=λτ S=>.of (e τ S) λ_ S1=>.nx τ S1
def nc{f:Ex}(he:AE X e f)(hs:swapsWith e none pos.line X.env=pure false:=by rfl):AS X (.Expr e pos) (oW f):=PS.imp (UB he hs) λD σ H ⟨ρ,S,τ,R,r,h⟩=>
 ⟨ρ,S,τ,R,r,jC (of_post h) .refl λa S1 h1 ρ1 H1 x e1 R1 v1=>h1 ρ1 H1 σ e1 R1 (r.ext e1)⟩
abbrev kF (e:Ex):Sm:=λτ S=>.of (e τ S) λa S1=>.rt a S1
def jQ{f:Ex}(he:AE X e f):AS X (.Return (some e) pos) (kF f):=PS.imp (Yn he) λD σ H ⟨ρ,S,τ,R,r,h⟩=>⟨ρ,S,τ,R,r,jC (of_post h) .refl λa S1 h1=>h1⟩
abbrev Zs:Sm:=λτ S=>.rt .non S
abbrev zH (t:Te)(c d:Sm):Sm:=λτ S=>.of (t τ S) λb S1=>match b with|true=>c τ S1|false=>d τ S1
def m8{t:Te}(ht:AT X e t)(ha:U8 X ca c)(hb:U8 X cb d):AS X (.If e ca cb pos) (zH t c d):=PS.imp (ZH ht ha hb) λD σ H h9=>by
 room;refine⟨ρ,S,τ,R,r,jC (of_post h) .refl λb S1 h1 ρ1 H1 e1 R1=>?_⟩
 cases b with
 | true=>rw[aK rfl];exact⟨ρ1,S1,τ,R1,r.ext e1,Eb.ext h1 e1⟩
 | false=>rw[aJ bE];exact⟨ρ1,S1,τ,R1,r.ext e1,Eb.ext h1 e1⟩
abbrev j5 (e:Ex)(g:Tg):Sm:=λτ S=>.of (e τ S) λa S1=>.of (g a τ S1) λτ' S2=>.nx τ' S2
def S_{f:Ex}{g:Tg}{D:Ends}{H:Hp}(h:tS X (j5 f g) D σ H):UA (tE X f) (tG X g) D σ H:=by
 kst_p;exact⟨ρ,S,τ,R,r,jC (of_post h) .refl λa S1 h1 ρ1 H1 x e1 R1 v1=>⟨ρ1,S1,τ,a,R1,r.ext e1,v1,jC (of_post h1) e1 λτ2 S2 h2=>OC.ext h2 e1⟩⟩
def oX{tg:aC}{f:Ex}{g:Tg}(he:AE X e f)(hg:AG X tg g)(hs:swapsWithSole [tg] e pos.line X.env=pure false:=by rfl)(hw:swappedStores [tg] e X.env=pure none:=by rfl)
  (h1:(assignEach [tg] X.env).map (·.2)=[assign tg X.env]:=by rfl):AS X (.Assign [tg] e pos) (j5 f g):=PS.imp (YI he hg hs hw h1) λD σ H h=>S_ h
def jS{i:Nat}{x:Str}{f:Ex}(hN:X.N.Nodup)(he:AE X e f)(hi:X.N[i]?=some x:=by rfl)(hx:Loc X.env.scope x:=by first|exact Or.inl rfl|exact Or.inr rfl)(hs:swapsWith e (some (.Name x pos')) pos.line X.env=pure false:=by rfl)(hf:X.fn x=true\/X.env.scope.names.lookup x=some .local:=by first|exact .inl rfl|exact .inr rfl|assumption) :
  AS X (.Assign [.Name x pos'] e pos) (j5 f (j4 i)):=PS.imp (Xm hN hi hx he hs hf) λD σ H ⟨ρ,S,τ,R,r,h⟩=>
 ⟨ρ,S,τ,R,r,jC (of_post h) .refl λa S1 h1 ρ1 H1 x e1 R1 v1=>h1 ρ1 H1 _ e1 R1 ((r.ext e1).set v1)⟩
abbrev abJ (i j:Nat)(c:sP):Sm:=λτ S=>.of (c τ S) λas S1=>match as with
 | [a,b]=>.nx ((τ.set i a).set j b) S1
 | _=>.no
abbrev abB (a b:A)(S:jz):R A:=match a,b with
 | .int i,.int j=>.ok (.int (i+j)) S
 | _,_=>.no
abbrev Zx (i:Nat)(f:A->A->jz->R A)(e:Ex):Sm:=λτ S=>if (τ.getD i .unb).rC then .no else .of (e τ S) λb S1=>.of (f (τ.getD i .unb) b S1) λc S2=>.nx (τ.set i c) S2
abbrev U9 (a b:A)(S:jz):R A:=match a,b with
 | .ref n,.int i=>opt (ju S n) λxs=>gd (0<=i) (opt (xs[i.toNat]?) λx=>.ok x S)
 | _,_=>.no
abbrev ZV (co ci ce:Ex)(f:A->A->jz->R A):Sm:=λτ S=>.of (co τ S) λo S1=>.of (ci τ S1) λi S2=>.of (U9 o i S2) λx S3=>.of (ce τ S3) λy S4=>.of (f x y S4) λz S5=>.of (E_ o i z S5) λ_ S6=>.nx τ S6
abbrev nY (t:Te)(c:Sm):Nat->Sm
 | 0=>λ_ _=>.no
 | n+1=>λτ S=>.of (t τ S) λb S1=>match b with
  | false=>.nx τ S1
  | true=>match c τ S1 with
   | .nx τ' S'=>nY t c n τ' S'
   | .ct τ' S'=>nY t c n τ' S'
   | .bk τ' S'=>.nx τ' S'
   | r=>r
def FG(n:Nat){t:Te}(hp:PassesOwn (model X.prog X.w) X.A X.env X.xe)(ht:AT X e t)(hb:U8 X body c):AS X (.While e body [] pos) (nY t c n):=PS.imp (N2 hp ht hb) λD σ H h9=>by
 room;refine⟨λm σ' H'=>∃ρ' S' τ',Ext ρ ρ' H H'/\Rel X.K ρ' H' S'/\SR X.K ρ' H' τ' σ'/\Eb X ρ' H' D (nY t c m τ' S'),⟨n,ρ,S,τ,.refl,R,r,h⟩,?_⟩;rintro m σ1 H1 ⟨ρ1,S1,τ1,e1,R1,r1,h1⟩
 cases m with
 | zero=>exact h1.elim
 | succ m=>
  refine⟨ρ1,S1,τ1,R1,r1,jC (of_post h1) .refl λb S2 h2 ρ2 H2 e2 R2=>?_⟩
  cases b with
  | false=>rw[aJ bE];exact h2 ρ2 H2 σ1 e2 R2 (r1.ext e2)
  | true=>
   rw[aK rfl];refine⟨λσ' H'=>∃ρ' S' τ',Ext ρ ρ' H H'/\Rel X.K ρ' H' S'/\SR X.K ρ' H' τ' σ'/\Eb X ρ' H' D (nY t c m τ' S'),λσ' H' z=>⟨m,c8 _,z⟩,ρ2,S2,τ1,R2,r1.ext e2,?_⟩;have h2:Eb X ρ1 H1 D (match c τ1 S2 with
    | .nx τ' S'=>nY t c m τ' S'
    | .ct τ' S'=>nY t c m τ' S'
    | .bk τ' S'=>.nx τ' S'
    | r=>r):=h2
   cases hc:c τ1 S2 with
   | nx τ3 S3=>rw[hc]at h2;exact λρ3 H3 σ3 e3 R3 r3=>⟨ρ3,S3,τ3,(e1.trans e2).trans e3,R3,r3,Eb.ext h2 (e2.trans e3)⟩
   | ct τ3 S3=>rw[hc]at h2;exact λρ3 H3 σ3 e3 R3 r3=>⟨ρ3,S3,τ3,(e1.trans e2).trans e3,R3,r3,Eb.ext h2 (e2.trans e3)⟩
   | bk τ3 S3=>rw[hc]at h2;exact OC.ext h2 e2
   | rt a S3=>rw[hc]at h2;exact Cu.ext h2 e2
   | ex x S3=>rw[hc]at h2;exact XE.ext h2 e2
   | no=>rw[hc]at h2;exact h2
end
structure Src where
 k:Nat
 get:Nat->jz->Option A
 fin:jz->Bool
structure JR (K:au)(s:Src)(J:It)(ρ0:bd)(H0:Hp):Prop where
 go:∀(i:Nat) (S:jz) (H:Hp) (ρ:bd) (x:A),Ext0 ρ0 ρ H0 H->Rel K ρ H S->s.get i S=some x->J.go i H/\∀v H',J.yld i H v H'->Ext ρ ρ H H'/\Rel K ρ H' S/\AV K ρ H' x v
 stop:∀(S:jz) (H:Hp) (ρ:bd),Ext0 ρ0 ρ H0 H->Rel K ρ H S->s.fin S=true->J.stop s.k H
meta abbrev Ic:=ae->jz->R Src
abbrev tI (X:Cx)(c:Ic):TI:=λσ H Q=>∃ρ S τ,Rel X.K ρ H S/\SR X.K ρ H τ σ/\(c τ S).post (λs S'=>∀ρ' H' J,Ext ρ ρ' H H'->Rel X.K ρ' H' S'->JR X.K s J ρ' H'->Q J H') (XE X ρ H)
abbrev AI (X:Cx)(tg iter:aC)(c:Ic):Prop:=PI X tg iter (tI X c)
abbrev rz (xs:ae):Src:=⟨xs.length,λi _=>xs[i]?,λ_=>true⟩
abbrev kC (n k:Nat):Src:=⟨k,λi S=>(ju S n).bind (·[i]?),λS=>match ju S n with
 | some ys=>decide (ys.length<=k)
 | none=>false⟩
abbrev mL (lo hi:Int):Src:=⟨(hi-lo).toNat,λi _=>if i<(hi-lo).toNat then some (.int (lo+i))else none,λ_=>true⟩
abbrev lg (c:Ex):Ic:=λτ S=>(c τ S).bind λa S1=>match a with
 | .tup xs=>.ok (rz xs) S1
 | .frz xs=>.ok (rz xs) S1
 | .ref n=>opt (ju S1 n) λxs=>.ok (kC n xs.length) S1
 | .str x=>gd (x.cps.all (· < 128)=true) (.ok (rz (x.cps.toList.map λc=>.str ⟨#[c]⟩)) S1)
 | _=>.no
section
variable {X:Cx}{pos:Pos}{tg e a b:aC}
def YH{K:au}{H0:Hp}{p:ak}(h:m_ K H0 p vs)(r:AVs K ρ0 H0 xs vs):JR K (rz xs) (YT K p) ρ0 H0 where
 go:=λi S H ρ x e R g=>by
  obtain⟨v,ev,av⟩:=(AVs.nZ e r).get g;have hs:=e.sqT h;refine⟨⟨vs,v,hs,ev⟩,λw H' ⟨e1,y⟩=>?_⟩;subst e1;have:=y vs hs;rw[ev]at this
  cases this
  exact⟨.refl,R,av⟩
 stop:=λS H ρ e R _=>⟨vs,e.sqT h,by rw[<- r.length];exact aR _⟩
def XU{K:au}{H0:Hp}{p:ak}(h:Fz K H0 p vs)(r:AVs K ρ0 H0 xs vs):JR K (rz xs) (Itl K p) ρ0 H0 where
 go:=λi S H ρ x e R g=>by
  obtain⟨v,ev,av⟩:=(AVs.nZ e r).get g;have hs:=(e.fz h).RZ;refine⟨⟨vs,v,hs,ev⟩,λw H' ⟨e1,y⟩=>?_⟩;subst e1;have:=y vs hs;rw[ev]at this
  cases this
  exact⟨.refl,R,av⟩
 stop:=λS H ρ e R _=>⟨vs,(e.fz h).RZ,by rw[<- r.length];exact aR _⟩
def Yp{K:au}{ρ0:bd}{H0:Hp}{p:ak}{n k:Nat}(h:ρ0[n]?=some p):JR K (kC n k) (Itl K p) ρ0 H0 where
 go:=λi S H ρ x e R g=>by
  obtain⟨ys,hn,hx⟩:=cV.mp (show(ju S n).bind (·[i]?)=some x from g);obtain⟨vs,h1,r⟩:=R.lst (e.get h) (jN hn);obtain⟨v,ev,av⟩:=r.get hx;refine⟨⟨vs,v,rG.of h1,ev⟩,λw H' ⟨e1,y⟩=>?_⟩;subst e1;have:=y vs (rG.of h1);rw[ev]at this
  cases this
  exact⟨.refl,R,av⟩
 stop:=λS H ρ e R g=>by
  have g:(match ju S n with
   | some ys=>decide (ys.length<=k)
   | none=>false)=true:=g
  cases hn:ju S n with
  | none=>rw[hn]at g;cases g
  | some ys=>
   rw[hn]at g;obtain⟨vs,h1,r⟩:=R.lst (e.get h) (jN hn);exact⟨vs,rG.of h1,by rw[<- r.length];exact bX g⟩
def OS{K:au}{H0:Hp}{lo hi:Int}:JR K (mL lo hi) (Zn lo (hi-lo).toNat) ρ0 H0 where
 go:=λi S H ρ x e R g=>by
  have g:(if i<(hi-lo).toNat then some (A.int (lo+i))else none)=some x:=g;by_cases hi':i<(hi-lo).toNat
  ·rw[aK hi']at g
   cases g
   refine⟨hi',λw H' ⟨e1,y⟩=>?_⟩;subst e1 y;exact⟨.refl,R,.int _⟩
  ·rw[aJ hi']at g;cases g
 stop:=λS H ρ e R _=>aR _
def XG{K:au}{H0:Hp}{x:Str}:JR K (rz (x.cps.toList.map λc=>A.str ⟨#[c]⟩)) (Its x) ρ0 H0 where
 go:=λi S H ρ y e R g=>by
  have g:(x.cps.toList.map λc=>A.str ⟨#[c]⟩)[i]?=some y:=g;rw[aO]at g;obtain⟨c,hc,rfl⟩:=aX.mp g;rw[eY]at hc;refine⟨(Array.getElem?_eq_some_iff.mp hc).1,λw H' ⟨e1,c',hc',y'⟩=>?_⟩;rw[hc]at hc'
  cases hc'
  subst e1 y';exact⟨.refl,R,.str _⟩
 stop:=λS H ρ e R _=>by
  show(x.cps.toList.map λc=>A.str ⟨#[c]⟩).length=x.cps.size;rw[aH,dP]
def kD{c:Ex}(he:AE X e c):AI X tg e (lg c):=λpins s σ H Q I h9=>by
 room;have hb:=jD h
 cases hc:c τ S with
 | no=>rw[hc]at hb;exact hb.elim
 | ex x S1=>
  rw[hc]at hb;exact OA he pins s σ H Q I ⟨ρ,S,τ,R,r,by rw[hc];exact hb⟩
 | ok a S1=>
  rw[hc]at hb
  cases a with
  | tup xs=>
   refine OA he pins s σ H Q I ⟨ρ,S,τ,R,r,?_⟩;rw[hc];intro ρ1 H1 x e1 R1 v1
   cases v1 with
   | tup h1 r1=>exact⟨_,rfl,⟨_,(m_.of h1)⟩,hb ρ1 H1 _ e1 R1 (YH (m_.of h1) r1)⟩
  | frz xs=>
   refine Jb he pins s σ H Q I ⟨ρ,S,τ,R,r,?_⟩;rw[hc];intro ρ1 H1 x e1 R1 v1
   cases v1 with
   | frz h1 r1=>exact⟨_,rfl,⟨_,h1.RZ⟩,hb ρ1 H1 _ e1 R1 (XU h1 r1)⟩
  | ref n=>
   obtain⟨xs,hn,hb⟩:=jF hb;refine Jb he pins s σ H Q I ⟨ρ,S,τ,R,r,?_⟩;rw[hc];intro ρ1 H1 x e1 R1 v1
   cases v1 with
   | ref hp=>
    obtain⟨vs,h1,r1⟩:=R1.lst hp (jN hn);exact⟨_,rfl,⟨_,rG.of h1⟩,hb ρ1 H1 _ e1 R1 (Yp hp)⟩
  | str x=>
   obtain⟨ha,hb⟩:=jY hb;refine Xv he pins s σ H Q I ⟨ρ,S,τ,R,r,?_⟩;rw[hc];intro ρ1 H1 v e1 R1 v1
   cases v1 with
   | str=>exact⟨x,rfl,ha,hb ρ1 H1 _ e1 R1 XG⟩
  | _=>exact hb.elim
abbrev bnd (i:Int):Prop:=-(2 ^ 62)<=i/\i<2 ^ 62
instance (i:Int):Decidable (bnd i):=by unfold bnd;infer_instance
abbrev t6 (c:Ex):Ic:=λτ S=>(c τ S).bind λa S1=>match a with
 | .int j=>gd (bnd j) (.ok (mL 0 j) S1)
 | _=>.no
abbrev qt (c d:Ex):Ic:=λτ S=>(c τ S).bind λa S1=>(d τ S1).bind λb S2=>match a,b with
 | .int i,.int j=>gd (bnd i/\bnd j) (.ok (mL i j) S2)
 | _,_=>.no
def qC{p:Pos}{c:Ex}(hm:X.mg "range" = none)(ha:AE X a c)(hg:Gl X "range" := by rfl)(hs:starEach [a] X.env=[(false,eval a X.env)]:=by rfl):AI X tg (.Call (.Name "range" p) [a] [] pos) (t6 c):=λpins s σ H Q I h9=>by
 room;refine LN hg hm (xW ha Et hs) hs pins s σ H Q I ⟨ρ,S,τ,R,r,jC (jD h) .refl λx S1 h1 ρ1 H1 v e1 R1 v1=>?_⟩
 cases v1 with
 | int j=>
  obtain⟨hb,h1⟩:=jY h1;exact⟨_,rfl,hb.1,hb.2,by have:=h1 ρ1 H1 _ e1 R1 OS;rwa [Int.sub_zero]at this⟩
 | _=>exact h1.elim
def t9{p:Pos}{c d:Ex}(hm:X.mg "range" = none)(ha:AE X a c)(hb:AE X b d)(hg:Gl X "range" := by rfl)(hs:starEach [a,b] X.env=[(false,eval a X.env),(false,eval b X.env)]:=by rfl)(hs2:starEach [b] X.env=[(false,eval b X.env)]:=by rfl):AI X tg (.Call (.Name "range" p) [a,b] [] pos) (qt c d):=λpins s σ H Q I h9=>by
 room;refine MM hg hm (xW ha (xW hb Et hs2) (by rw[hs,hs2])) hs hs2 pins s σ H Q I ⟨ρ,S,τ,R,r,jC (jD h) .refl λx S1 h1 ρ1 H1 v e1 R1 v1=>⟨ρ1,S1,τ,R1,r.ext e1,jC (jD h1) e1 λy S2 h2 ρ2 H2 w e2 R2 v2=>?_⟩⟩
 cases v1 with
 | int i=>
  cases v2 with
  | int j=>
   obtain⟨hb,h2⟩:=jY h2;exact⟨_,_,rfl,⟨hb.1.1,hb.1.2,hb.2.1,hb.2.2⟩,h2 ρ2 H2 _ (e1.trans e2) R2 OS⟩
  | _=>exact h2.elim
 | _=>exact h2.elim
abbrev Fq (xs:ae):Src:=⟨xs.length,λi _=>(xs[i]?).map λx=>.tup [.int i,x],λ_=>true⟩
abbrev Tf (c:Ex):Ic:=λτ S=>(c τ S).bind λa S1=>match a with
 | .tup xs=>.ok (Fq xs) S1
 | _=>.no
def WU{K:au}{H0:Hp}{p:ak}(h:m_ K H0 p vs)(r:AVs K ρ0 H0 xs vs):JR K (Fq xs) (Ite K p) ρ0 H0 where
 go:=λi S H ρ x e R g=>by
  obtain⟨y,hy,rfl⟩:=aX.mp (show(xs[i]?).map (λx=>A.tup [.int i,x])=some x from g);obtain⟨v,ev,av⟩:=(AVs.nZ e r).get hy;have hs:=e.sqT h;refine⟨⟨vs,v,hs,ev⟩,λw H' q=>?_⟩;obtain⟨pp,hp,rfl,hz⟩:=q;have hz':=hz vs v hs ev;subst hz';obtain⟨ex,R'⟩:=R.im (u:=.tup [.int i,v]) hp;exact⟨ex,R',.tup kP (.cons (.int _) (.cons (av.ext ex) .nil))⟩
 stop:=λS H ρ e R _=>⟨vs,e.sqT h,by rw[<- r.length];rfl⟩
def XD{p:Pos}{c:Ex}(hm:X.mg "enumerate" = none)(ha:AE X a c)(hg:Gl X "enumerate" := by rfl)(hs:starEach [a] X.env=[(false,eval a X.env)]:=by rfl):AI X (.Tuple elts x1 tpos) (.Call (.Name "enumerate" p) [a] [] pos) (Tf c):=λpins s σ H Q I h9=>by
 room;refine Rx hg hm (xW ha Et hs) hs pins s σ H Q I ⟨ρ,S,τ,R,r,jC (jD h) .refl λx S1 h1 ρ1 H1 v e1 R1 v1=>?_⟩
 cases v1 with
 | tup h2 r2=>exact⟨_,_,rfl,(m_.of h2),h1 ρ1 H1 _ e1 R1 (WU (m_.of h2) r2)⟩
 | _=>exact h1.elim
abbrev rR (s:Src)(g:Tg)(c:Sm):Nat->Nat->Sm
 | 0,_=>λτ S=>if s.fin S then .nx τ S else .no
 | k+1,i=>λτ S=>match s.get i S with
  | none=>.no
  | some x=>.of (g x τ S) λτ1 S1=>match c τ1 S1 with
   | .nx τ' S'=>rR s g c k (i+1) τ' S'
   | .ct τ' S'=>rR s g c k (i+1) τ' S'
   | .bk τ' S'=>.nx τ' S'
   | r=>r
abbrev lC (src:Ic)(g:Tg)(c:Sm):Sm:=λτ S=>.of (src τ S) λs S1=>rR s g c s.k 0 τ S1
def lU{iter:aC}{src:Ic}{g:Tg}{c:Sm}(hp:PassesOwn (model X.prog X.w) X.A X.env X.xe)(hc:X.calm=true)(hi:AI X tg iter src)(hg:AG X tg g)(hb:U8 X body c)
  (hs:∀x,foldedSetIterable iter X.env x=pure x:=by intro _;rfl):AS X (.For tg iter body [] pos) (lC src g c):=PS.imp (WQ hp hc hi hg hb hs) λD σ H h9=>by
 room;refine⟨ρ,S,τ,R,r,jC (of_post h) .refl λs S1 h1 ρ1 H1 J e1 R1 jr=>?_⟩;refine⟨λi m σ' H'=>m+i=s.k/\∃ρ' S' τ',Ext ρ1 ρ' H1 H'/\Rel X.K ρ' H' S'/\SR X.K ρ' H' τ' σ'/\Eb X ρ' H' D (rR s g c m i τ' S'),⟨s.k,rfl,ρ1,S1,τ,.refl,R1,r.ext e1,Eb.ext h1 e1⟩,?_⟩;rintro i m σ2 H2 ⟨hm,ρ2,S2,τ2,e2,R2,r2,h2⟩
 cases m with
 | zero=>
  left;have h2:Eb X ρ2 H2 D (if s.fin S2 then .nx τ2 S2 else .no):=h2
  cases hf:s.fin S2 with
  | false=>rw[hf]at h2;exact h2.elim
  | true=>
   rw[hf]at h2;refine⟨by rw[show i=s.k by lia];exact jr.stop S2 H2 ρ2 e2.toExt0 R2 hf,h2 ρ2 H2 σ2 .refl R2 r2⟩
 | succ m=>
  right;have h2:Eb X ρ2 H2 D (match s.get i S2 with
   | none=>.no
   | some x=>.of (g x τ2 S2) λτ1 S1=>match c τ1 S1 with
    | .nx τ' S'=>rR s g c m (i+1) τ' S'
    | .ct τ' S'=>rR s g c m (i+1) τ' S'
    | .bk τ' S'=>.nx τ' S'
    | r=>r):=h2
  cases hx:s.get i S2 with
  | none=>rw[hx]at h2;exact h2.elim
  | some x=>
   rw[hx]at h2;obtain⟨hgo,hy⟩:=jr.go i S2 H2 ρ2 x e2.toExt0 R2 hx;refine⟨hgo,λσ' H'=>m+(i+1)=s.k/\∃ρ' S' τ',Ext ρ1 ρ' H1 H'/\Rel X.K ρ' H' S'/\SR X.K ρ' H' τ' σ'/\Eb X ρ' H' D (rR s g c m (i+1) τ' S'),λσ' H' z=>⟨m,c8 _,z⟩,λv H3 y=>?_⟩;obtain⟨e3,R3,v3⟩:=hy v H3 y;refine⟨ρ2,S2,τ2,x,R3,r2.ext e3,v3,jC (of_post h2) e3 λτ4 S4 h4 ρ4 H4 σ4 e4 R4 r4=>⟨ρ4,S4,τ4,R4,r4,?_⟩⟩;have e24:=e3.trans e4
   cases hcc:c τ4 S4 with
   | nx τ5 S5=>rw[hcc]at h4;exact λρ5 H5 σ5 e5 R5 r5=>⟨(),ρ5,S5,τ5,(e2.trans e24).trans e5,R5,r5,Eb.ext h4 (e24.trans e5)⟩
   | ct τ5 S5=>rw[hcc]at h4;exact λρ5 H5 σ5 e5 R5 r5=>⟨(),ρ5,S5,τ5,(e2.trans e24).trans e5,R5,r5,Eb.ext h4 (e24.trans e5)⟩
   | bk τ5 S5=>rw[hcc]at h4;exact OC.ext h4 e24
   | rt x5 S5=>rw[hcc]at h4;exact Cu.ext h4 e24
   | ex x5 S5=>rw[hcc]at h4;exact XE.ext h4 e24
   | no=>rw[hcc]at h4;exact h4
end
abbrev R.mU {α β:Type}(r:R α)(f:α->jz->R β):R β:=match r with
 | .ok a S=>f a S
 | _=>.no
def lZ{α β:Type}{r:R α}{f:α->jz->R β}{b:β}(h:r.mU f=.ok b S2):∃a S,r=.ok a S/\f a S=.ok b S2:=by
 cases r with
 | ok a S=>exact⟨a,S,rfl,h⟩
 | ex _ _=>cases h
 | no=>cases h
def BO{α β:Type}{r:R α}{f:α->jz->R β}{P:β->jz->Prop}{E:Str->jz->Prop}(h:(r.mU f).post P E):∃a S,r=.ok a S/\(f a S).post P E:=by
 cases r with
 | ok a S=>exact⟨a,S,rfl,h⟩
 | ex _ _=>exact h.elim
 | no=>exact h.elim
def Ij{α β:Type}{o:Option β}{f:β->R α}{a:α}(h:opt o f=.ok a S):∃b,o=some b/\f b=.ok a S:=by
 cases o with
 | none=>cases h
 | some b=>exact⟨b,rfl,h⟩
abbrev mW (s:Src)(g:Tg)(t:Te)(e:Ex):Nat->Nat->ae->jz->R (ae)
 | 0,_=>λ_ S=>if s.fin S then .ok [] S else .no
 | k+1,i=>λτ S=>opt (s.get i S) λx=>(g x τ S).mU λτ1 S1=>(t τ1 S1).mU λb S2=>match b with
  | true=>(e τ1 S2).mU λy S3=>(mW s g t e k (i+1) τ1 S3).mU λys S4=>.ok (y::ys) S4
  | false=>mW s g t e k (i+1) τ1 S2
abbrev kN (cap:List (bp))(τ:ae):ae:=cap.map λo=>match o with
 | some j=>τ.getD j .unb
 | none=>.unb
abbrev j6 (cap:List (bp))(src:Ic)(g:Tg)(t:Te)(e:Ex):Ex:=λτ S=>(src τ S).bind λs S1=>(mW s g t e s.k 0 (kN cap τ) S1).mU λys S2=>newL ys S2
abbrev oV:Te:=λ_ S=>.ok true S
def G7{s:Src}{g:Tg}{t:Te}{e:Ex}{k:Nat}(h:mW s g t e (k+1) i τ S=.ok zs S') :
  ∃x τ1 S1 b S2,s.get i S=some x/\g x τ S=.ok τ1 S1/\t τ1 S1=.ok b S2/\(b=true->∃y S3 ws,e τ1 S2=.ok y S3/\mW s g t e k (i+1) τ1 S3=.ok ws S'/\zs=y::ws)/\(b=false->mW s g t e k (i+1) τ1 S2=.ok zs S'):=by
 obtain⟨x,hx,h⟩:=Ij h;obtain⟨τ1,S1,h1,h⟩:=lZ h;obtain⟨b,S2,h2,h⟩:=lZ h;refine⟨x,τ1,S1,b,S2,hx,h1,h2,λhb=>?_,λhb=>?_⟩
 ·subst hb;obtain⟨y,S3,h3,h⟩:=lZ h;obtain⟨ws,S4,h4,h⟩:=lZ h
  cases h
  exact⟨y,S3,ws,h3,h4,rfl⟩
 ·subst hb;exact h
abbrev ZY (K:au)(c:Ex):TE:=λσ H Q=>∃ρ S τ a S',Rel K ρ H S/\SR K ρ H τ σ/\c τ S=.ok a S'/\∀ρ' H' v,Ext ρ ρ' H H'->Rel K ρ' H' S'->AV K ρ' H' a v->Q v H'
abbrev WB (K:au)(c:Te):TT:=λσ H Q=>∃ρ S τ a S',Rel K ρ H S/\SR K ρ H τ σ/\c τ S=.ok a S'/\∀ρ' H',Ext ρ ρ' H H'->Rel K ρ' H' S'->Q a H'
abbrev YW (K:au)(g:Tg):TG:=λv σ H Q=>∃ρ S τ a τ' S',Rel K ρ H S/\SR K ρ H τ σ/\AV K ρ H a v/\g a τ S=.ok τ' S'/\∀ρ' H' σ',Ext ρ ρ' H H'->Rel K ρ' H' S'->SR K ρ' H' τ' σ'->Q σ' H'
section
variable {X:Cx}{pos:Pos}{tg iter elt e:aC}{ifs:List aC}{scope:Scope}{N:ar}{cap:List (bp)}{src:Ic}{g:Tg}{t:Te}{c:Ex}
def AE.e0{K:au}(hK:X.K=K)(h:AE X e c):PE X e (ZY K c):=PE.imp h λσ H Q ⟨ρ,S,τ,a,S',R,r,hc,q⟩=>⟨ρ,S,τ,by rw[hK];exact R,by rw[hK];exact r,by rw[hc];exact λρ' H' v e R' v'=>q ρ' H' v e (by rw[<- hK];exact R') (by rw[<- hK];exact v')⟩
def AT.t0{K:au}(hK:X.K=K)(h:AT X e t):PT X e (WB K t):=PT.imp h λσ H Q ⟨ρ,S,τ,a,S',R,r,hc,q⟩=>⟨ρ,S,τ,by rw[hK];exact R,by rw[hK];exact r,by rw[hc];exact λρ' H' e R'=>q ρ' H' e (by rw[<- hK];exact R')⟩
def AG.g0{K:au}(hK:X.K=K)(h:AG X e g):PG X e (YW K g):=PG.imp h λv σ H Q ⟨ρ,S,τ,a,τ',S',R,r,va,hc,q⟩=>⟨ρ,S,τ,a,by rw[hK];exact R,by rw[hK];exact r,by rw[hK];exact va,by rw[hc];exact λρ' H' v e R' v'=>q ρ' H' v e (by rw[<- hK];exact R') (by rw[<- hK];exact v')⟩
abbrev YS (X:Cx)(ifs:List aC)(t:Te):Prop:=Sa X ifs (WB X.K t)
def pC:YS X [] oV:=λpins s σ H Q I ⟨ρ,S,τ,a,S',R,r,hc,q⟩=>Tn pins s σ H Q I (by cases hc;exact q ρ H .refl R)
def rL(h:AT X e t):YS X [e] t:=Tp (h.t0 rfl)
def VT{K:au}{H:Hp}(r:SR K ρ H τ σ)(cap:List (bp)):SR K ρ H (kN cap τ) (cap.map (Ti σ)):=by
 refine⟨by simp[kN],λi a h=>?_⟩;unfold kN at h;rw[aO]at h;obtain⟨o,ho,e⟩:=aX.mp h
 cases o with
 | none=>exact .inl e.symm
 | some j=>
  have e:τ.getD j .unb=a:=e
  cases hj:τ[j]? with
  | none=>rw[aI,hj]at e;exact .inl e.symm
  | some b=>
   rw[aI,hj]at e;have e:b=a:=e;subst e
   rcases r.at j b hj with z|⟨v,h1,h2⟩
   ·exact .inl z
   ·exact .inr ⟨v,by rw[aO,ho];show some ((σ[j]?).getD none)=_;rw[h1];rfl,h2⟩
def Rel.LB{K:au}{H:Hp}{p:ak}(R:Rel K ρ H S)(hp:H p=none):p∉ρ:=λhm=>by
 obtain⟨n,hn,e⟩:=List.mem_iff_getElem.mp hm;have hl:n<S.length:=by rw[<- R.len];exact hn
 have:=R.at n p S[n] (by rw[aF hn,e]) (aF hl)
 cases ho:S[n]with
 | lst xs=>rw[ho]at this;obtain⟨vs,h,_⟩:=this;rw[hp]at h;cases h
 | dct _|pK _=>rw[ho]at this;obtain⟨vs,h,_⟩:=this;rw[hp]at h;cases h
 | ins _ _=>rw[ho]at this;obtain⟨_,_,h⟩:=this;rw[hp]at h;cases h
def GI(σ:L2.St)(H:Hp)(Q:VK)(h:tE X (j6 cap src g t c) σ H Q):tLC cap (tI X src) (YW X.K g) (WB X.K t) (ZY X.K c) σ H Q:=by
 kst_p;refine⟨ρ,S,τ,R,r,jC (jD h) .refl λs S1 h1 ρ1 H1 J e1 R1 jr D hD=>?_⟩;obtain⟨ys,S2,hcg,h1⟩:=BO h1;obtain⟨hlen,h1⟩:=jY h1;have h1:Cu X ρ H Q (.ref S2.length) (S2++[.lst ys]):=h1;obtain⟨eD,RD⟩:=R1.im (u:=.lst []) hD;have nD:=R1.LB hD;refine⟨λi m σ' H'=>m+i=s.k/\∃ρ' S' τ' acc zs accV,Ext0 ρ1 ρ' H1 H'/\(∀a u,a≠D->H1 a=some u->a∉ρ1->H' a=some u)/\(∀a∈ρ',a∈ρ1\/H1 a=none)/\D∉ρ'/\H' D=some (.lst accV)/\Rel X.K ρ' H' S'/\SR X.K ρ' H' τ' σ'/\AVs X.K ρ' H' acc accV/\mW s g t c m i τ' S'=.ok zs S2/\acc++zs=ys,
  ⟨s.k,rfl,ρ1,S1,kN cap τ,[],ys,[],eD.toExt0,λa u na hu _=>by rw[jH na];exact hu,λa ha=>.inl ha,nD,kP,RD,(VT ((r.ext e1).ext eD) cap),.nil,hcg,rfl⟩,?_⟩
 rintro i m σ3 H3 ⟨hm,ρ3,S3,τ3,acc,zs,accV,e3,fr3,nw3,nD3,hD3,R3,r3,ac3,cg3,eys⟩
 cases m with
 | zero=>
  left;have cg3:(if s.fin S3 then Am.R.ok [] S3 else .no)=.ok zs S2:=cg3
  cases hf:s.fin S3 with
  | false=>rw[hf]at cg3;cases cg3
  | true=>
   rw[hf]at cg3
   cases cg3
   rw[cH]at eys;subst eys;refine⟨by rw[show i=s.k by lia];exact jr.stop _ H3 ρ3 e3 R3 hf,?_⟩;obtain⟨RT,gt⟩:=R3.take hD3 nD3 ac3;refine h1 (ρ3++[D]) H3 _ (e1.trans ⟨⟨e3.pre.trans (eV _ _),e3.im⟩,λa u hu na=>fr3 a u (jP hu hD) hu na,λa ha=>?_⟩) RT (.ref gt)
   rcases bH.mp ha with z|z
   ·exact nw3 a z
   ·have:a=D:=by simpa using z
    rw[this];exact .inr hD
 | succ m=>
  right;obtain⟨x,τ4,S4,b,S5,hx,hg4,ht5,hT,hF⟩:=G7 cg3;obtain⟨hgo,hy⟩:=jr.go i S3 H3 ρ3 x e3 R3 hx;refine⟨hgo,λv H4 y=>?_⟩;obtain⟨e4,R4,v4⟩:=hy v H4 y;refine⟨ρ3,S3,τ3,x,τ4,S4,R4,r3.ext e4,v4,hg4,λρ5 H5 σ5 e5 R5 r5=>?_⟩;refine⟨ρ5,S4,τ4,b,S5,R5,r5,ht5,λρ6 H6 e6 R6=>?_⟩;have e36:=(e4.trans e5).trans e6;have stay:∀{ρ7:bd} {H7:Hp},Ext ρ3 ρ7 H3 H7->Ext0 ρ1 ρ7 H1 H7/\(∀a u,a≠D->H1 a=some u->a∉ρ1->H7 a=some u)/\(∀a∈ρ7,a∈ρ1\/H1 a=none)/\D∉ρ7/\H7 D=some (.lst accV):=λ{ρ7 H7} e7=>by
   refine⟨⟨e3.pre.trans e7.pre,λa u i h=>e7.im a u i (e3.im a u i h)⟩,λa u na hu nr=>e7.fr a u (fr3 a u na hu nr) λz=>(nw3 a z).elim nr λz=>by(rw[z]at hu;cases hu),λa ha=>?_,λz=>(e7.nw D z).elim nD3 λz=>by(rw[hD3]at z;cases z),e7.fr D _ hD3 nD3⟩;by_cases hr:a∈ρ1
   ·exact .inl hr
   ·right
    cases q:H1 a with
    | none=>rfl
    | some u=>
     have aD:a≠D:=jP q hD
     rcases e7.nw a ha with z|z
     ·exact((nw3 a z).elim hr λz=>by(rw[z]at q;cases q)).elim
     ·rw[fr3 a u aD q hr]at z;cases z
  cases b with
  | false=>
   dsimp only;rw[aJ bE];obtain⟨g1,g2,g3,g4,g5⟩:=stay e36;exact⟨m,c8 _,(),ρ6,S5,τ4,acc,zs,accV,g1,g2,g3,g4,g5,R6,r5.ext e6,ac3.ext e36,hF rfl,eys⟩
  | true=>
   dsimp only;rw[aK rfl];obtain⟨y,S6,ws,he6,cg6,ezs⟩:=hT rfl;refine⟨ρ6,S5,τ4,y,S6,R6,r5.ext e6,he6,λρ7 H7 w e7 R7 v7=>?_⟩;obtain⟨g1,g2,g3,g4,g5⟩:=stay (e36.trans e7);obtain⟨ex8,R8⟩:=R7.out (ws:=accV++[w]) g5 g4;have l1:=ac3.length;refine⟨accV,g5,?_,m,c8 _,(),ρ7,S6,τ4,acc++[y],ws,accV++[w],?_,λa u na hu nr=>by rw[jH na];exact g2 a u na hu nr,g3,g4,kP,R8,(r5.ext (e6.trans e7)).nZ ex8,(AVs.nZ ex8 ((ac3.ext (e36.trans e7)).append (.one v7))),cg6,?_⟩
   ·have:(acc++zs).length<=sizeLine:=by rw[eys];exact hlen
    rw[ezs,aQ,bq]at this
    lia
   ·exact⟨g1.pre,λa u i h=>ex8.im a u i (g1.im a u i h)⟩
   ·rw[bY,<- eys,ezs];rfl
def mO(hc:X.calm=true)(Sc:CpScope X scope N cap)(hi:AI X tg iter src)(hg:∀C s₀ H₀ ex,AG (lz X scope N C s₀ H₀ ex) tg g)(ht:∀C s₀ H₀ ex,YS (lz X scope N C s₀ H₀ ex) ifs t)(he:∀C s₀ H₀ ex,AE (lz X scope N C s₀ H₀ ex) elt c)
  (hs:∀x,foldedSetIterable iter X.env x=pure x:=by intro _;rfl):AE X (.ListComp elt [⟨tg,iter,ifs,0⟩] scope pos) (j6 cap src g t c):=
 PE.imp (aal hc Sc hi (g:=YW X.K g) (tc:=WB X.K t) (te:=ZY X.K c) (λC s₀ H₀ ex=>(hg C s₀ H₀ ex).g0 rfl) (λC s₀ H₀ ex=>ht C s₀ H₀ ex) (λC s₀ H₀ ex=>(he C s₀ H₀ ex).e0 rfl) hs) GI
def Jm{i:Nat}{x:Str}{spos:Pos}(hN:X.N.Nodup)(hc:X.calm=true)(Sc:CpScope X scope N cap)(hi:AI X tg iter src)(hg:∀C s₀ H₀ ex,AG (lz X scope N C s₀ H₀ ex) tg g)(ht:∀C s₀ H₀ ex,YS (lz X scope N C s₀ H₀ ex) ifs t)(he:∀C s₀ H₀ ex,AE (lz X scope N C s₀ H₀ ex) elt c)
  (hi':X.N[i]?=some x:=by rfl) (hx:Loc X.env.scope x:=by first|exact Or.inl rfl|exact Or.inr rfl)
  (hsw:swapsWith (.ListComp elt [⟨tg,iter,ifs,0⟩] scope pos) (some (.Name x pos')) spos.line X.env=pure true:=by rfl) (hf:X.fn x=true\/X.env.scope.names.lookup x=some .local:=by first|exact .inl rfl|exact .inr rfl|assumption)
  (hs:∀x,foldedSetIterable iter X.env x=pure x:=by intro _;rfl):AS X (.Assign [.Name x pos'] (.ListComp elt [⟨tg,iter,ifs,0⟩] scope pos) spos) (j5 (j6 cap src g t c) (j4 i)):=
 PS.imp (Np hN hi' hx hc Sc hi (g:=YW X.K g) (tc:=WB X.K t) (te:=ZY X.K c) (λC s₀ H₀ ex=>(hg C s₀ H₀ ex).g0 rfl) (λC s₀ H₀ ex=>ht C s₀ H₀ ex) (λC s₀ H₀ ex=>(he C s₀ H₀ ex).e0 rfl) hsw hf hs) λD σ H ⟨ρ,S,τ,R,r,h⟩=>
  GI σ H _ ⟨ρ,S,τ,R,r,jC (of_post h) .refl λa S1 h1 ρ1 H1 x e1 R1 v1=>h1 ρ1 H1 _ e1 R1 ((r.ext e1).set v1)⟩
end
abbrev A.lst? (S:jz):A->Option (ae)
 | .ref n=>ju S n
 | _=>none
abbrev V7 (f:A->ae->jz->R A)(co:Ex)(d:sP):Ex:=λτ S=>(co τ S).bind λo S1=>opt (o.lst? S1) λ_=>(d τ S1).bind λas S2=>f o as S2
abbrev abg (f:A->ae->jz->R A)(co:Ex):Ex:=λτ S=>(co τ S).bind λo S1=>opt (o.lst? S1) λ_=>f o [] S1
abbrev rM (X:Cx)(f:A->ae->jz->R A):V->List V->Hp->VK->Prop:=λx vs H Q=>∃ρ S o as,Rel X.K ρ H S/\AV X.K ρ H o x/\AVs X.K ρ H as vs/\(f o as S).post (Cu X ρ H Q) (XE X ρ H)
section
variable {X:Cx}{apos cpos:Pos}{o e:aC}{es:List aC}{name:Str}{id:String}{f:A->ae->jz->R A}{co:Ex}{d:sP}
def lst?_ty{K:au}{H:Hp}{x:A}{v:V}(R:Rel K ρ H S)(h:AV K ρ H x v)(e:x.lst? S=some xs):tyV K "list" v H:=by
 cases h with
 | ref h=>
  obtain⟨vs,h1,_⟩:=R.lst h (jN e);exact .inl ⟨rfl,vs,rG.of h1⟩
 | _=>cases e
def FP(slot:Slot "list" name id)(hty:typeOf (.builtin id)=pure (.type "method_descriptor"))(hm:Vw X id (rM X f))(ho:AE X o co)(ha:AL X (e::es) d)
  (hbase:attributeBase o name X.env (eval o X.env)=eval o X.env:=by rfl)
  (hfew:((backTo cpos (starEach (e::es) X.env)).all (λx=>!x.1) && (backToKw cpos (keywordEach [] X.env)).all (λx=>x.1.isSome)
   && decide ((e::es).length+([]:List Keyword).length+(if ([]:List Keyword).isEmpty then 0 else 1)<30))=true:=by rfl)
  (hline:(apos.endLine == cpos.line)=true:=by rfl) (hs:starEach (e::es) X.env=(false,eval e X.env)::starEach es X.env:=by rfl) (hplain:(backTo cpos (starEach es X.env)).any (·.1)=false:=by rfl) :
  AE X (.Call (.Attribute o name apos) (e::es) [] cpos) (V7 f co d):=PE.imp (NQ PySem.F.plainAttrs_list slot hty hm ho ha hbase hfew hline hs hplain) λσ H Q h9=>by
 room;refine⟨ρ,S,τ,R,r,jC (jD h) .refl λx S1 h1 ρ1 H1 v e1 R1 v1=>?_⟩;obtain⟨xs,hx,h1⟩:=jF h1;refine⟨lst?_ty R1 v1 hx,ρ1,S1,τ,R1,r.ext e1,jC (jD h1) e1 λas S2 h2 ρ2 H2 vs e2 R2 v2=>?_⟩;exact⟨ρ2,S2,x,as,R2,v1.ext e2,v2,jC h2 (e1.trans e2) λ_ _ z=>z.ext (e1.trans e2)⟩
abbrev um (o:A)(as:ae)(S:jz):R A:=match o,as with
 | .ref n,[x]=>opt (ju S n) λxs=>gd (xs.length<sizeLine) (.ok .non (S.set n (.lst (xs++[x]))))
 | _,_=>.no
def yc:Vw X "list.append" (rM X um):=λpins s σ H x vs v us Q I rx rv h9=>by
 obtain⟨ρ,S,o,as,R,vo,va,h⟩:=h9
 cases vo with
 | @ref p n hp=>
  match as,va,h with
  | [],_,h=>exact h.elim
  | _::_::_,_,h=>exact h.elim
  | [y],va,h=>
   obtain⟨w,rfl,hw⟩:=Sq va;gp_on;obtain⟨hl,h⟩:=jY h;obtain⟨ws,h1,r⟩:=R.lst hp (jN hn);obtain⟨ex,R'⟩:=R.put hp (jN hn) (r.append (.one hw));exact zz pins s σ H _ _ v us Q I rx rv ⟨p,ws,w,rfl,rfl,h1,by rw[<- r.length];exact hl,h _ _ _ ex R' .non⟩
 | _=>exact h.elim
abbrev Ig (o:A)(as:ae)(S:jz):R A:=match o,as with
 | .ref n,[.int i]=>opt (ju S n) λxs=>gd (-(2 ^ 63)<=i/\i<2 ^ 63) (opt (seqIndex? i xs.length) λk=>opt (xs[k]?) λx=>.ok x (S.set n (.lst (xs.eraseIdx k))))
 | _,_=>.no
def U4:Vw X "list.pop" (rM X Ig):=λpins s σ H x vs v us Q I rx rv h9=>by
 obtain⟨ρ,S,o,as,R,vo,va,h⟩:=h9
 cases vo with
 | @ref p n hp=>
  match as,va,h with
  | [],_,h=>exact h.elim
  | y::_::_,_,h=>exact(by cases y<;>exact h.elim)
  | [y],va,h=>
   obtain⟨w,rfl,hw⟩:=Sq va
   cases hw with
   | int i=>
    gp_on;obtain⟨hi,h⟩:=jY h;obtain⟨k,hk,h⟩:=jF h;obtain⟨y,hy,h⟩:=jF h;obtain⟨ws,h1,r⟩:=R.lst hp (jN hn);obtain⟨w,hw,vw⟩:=r.get hy;obtain⟨ex,R'⟩:=R.put hp (jN hn) (r.eraseIdx k);exact OO pins s σ H _ _ v us Q I rx rv ⟨p,ws,i,k,w,rfl,rfl,h1,hi.1,hi.2,by rw[<- r.length];exact hk,hw,h _ _ _ ex R' (vw.ext ex)⟩
   | _=>exact h.elim
 | _=>exact h.elim
end
abbrev kQ (N:ar)(m:Sm)(as:ae)(S:jz):R A:=match m (as++List.replicate (N.length-as.length) .unb) S with
 | .rt a S'=>.ok a S'
 | .nx _ S'=>.ok .non S'
 | .ex c S'=>.ex c S'
 | _=>.no
abbrev pR (K:au)(n:Nat)(F:ae->jz->R A):Sp:=λvs H Q _=>vs.length=n/\∃ρ S as a S',Rel K ρ H S/\AVs K ρ H as vs/\F as S=.ok a S'/\∀ρ' H' v,Ext ρ ρ' H H'->Rel K ρ' H' S'->AV K ρ' H' a v->Q v H'
def Tq{K:au}{H:Hp}{as:ae}(r:AVs K ρ H as vs)(N:ar):SR K ρ H (as++List.replicate (N.length-as.length) .unb) (L2.start N vs):=by
 have hl:=r.length;refine⟨by unfold L2.start;simp[hl],λi a h=>?_⟩;by_cases hi:i<as.length
 ·rw[bI hi]at h;obtain⟨v,hv,av⟩:=r.get h;exact .inr ⟨v,by unfold L2.start;rw[bI (by simp;lia),aO,hv];rfl,av⟩
 ·rw[dJ (),List.getElem?_replicate]at h;split at h
  ·exact .inl (a_ h).symm
  ·cases h
section
variable {P:aj}{w:ah}{K:au}{mg:Str->bi}{base:aq}
def sN{x:Str}{st:aE}{f:ak}{N ps:ar}{k:Nat}{m:Sm}(F:Fun K x qual st f fd)(Sc:FnScope N ps (jE st))
  (body:∀(cdv:af) (A:az) (outer:List Env) (s:aA) (H:Hp) (E:XK),Room k (A.deeper (envOfC qual (jE st) s.heap.objs.size f cdv))->U8 (IG oU P w K mg base N qual (jE st) f cdv A outer s H E).nox (rP st) m) :
  FnOk P w K mg base oU (k+1) f fd ps (pR K ps.length (kQ N m)):=by
 refine F.ok Sc (λvs H Q E h=>h.1) λcdv B outer s H vs Q E hr ⟨hl,ρ,S,as,a,S',R,va,hF,q⟩=>⟨_,body cdv B outer s H E hr,ρ,S,_,R,Tq va N,?_⟩;unfold kQ at hF
 cases hm:m (as++List.replicate (N.length-as.length) .unb) S with
 | rt b S2=>rw[hm]at hF;cases hF;exact q
 | nx τ S2=>rw[hm]at hF;cases hF;exact λρ' H' σ' e R' _=>q ρ' H' _ e R' .non
 | bk τ S2=>rw[hm]at hF;cases hF
 | ct τ S2=>rw[hm]at hF;cases hF
 | ex c S2=>rw[hm]at hF;cases hF
 | no=>rw[hm]at hF;cases hF
end
meta abbrev nA (P:aj)(w:ah)(K:au)(mg:Str->bi)(base:aq)(k:Nat)(x:Str)(ps:ar)(F:ae->jz->R A):Prop:=Kn P w K mg base k x ps (pR K ps.length F)
abbrev eFn (F:ae->jz->R A)(d:sP):Ex:=λτ S=>(d τ S).bind λas S1=>match F as S1 with
 | .ok a S2=>.ok a S2
 | _=>.no
section
variable {X:Cx}{pos p:Pos}{e:aC}{es:List aC}{x:Str}{ps:ar}{k:Nat}{F:ae->jz->R A}{d:sP}
def B3(G:nA X.prog X.w X.K X.mg X.base k x ps F)(hr:Room k X.A)(ha:AL X (e::es) d)(hl:∀τ S as S',d τ S=.ok as S'->as.length=ps.length)(hg:Gl X x:=by rfl)(hdb:(x == ("__debug__" : Str))=false:=by decide)
  (hs:starEach (e::es) X.env=(false,eval e X.env)::starEach es X.env:=by rfl) (hplain:(backTo pos (starEach es X.env)).any (·.1)=false:=by rfl):AE X (.Call (.Name x p) (e::es) [] pos) (eFn F d):=
 PE.imp (Z7 G hr ha hg hdb hs hplain) λσ H Q h9=>by
  room;refine⟨ρ,S,τ,R,r,?_⟩;have hb:=jD h
  cases hd:d τ S with
  | no=>rw[hd]at hb;exact hb
  | ex c S1=>rw[hd]at hb;exact hb
  | ok as S1=>
   rw[hd]at hb;intro ρ1 H1 vs e1 R1 v1;rw[cH];refine⟨by rw[<- v1.length];exact hl τ S as S1 hd,ρ1,S1,as,?_⟩;have hb:Am.R.post (match F as S1 with
    | .ok a S2=>.ok a S2
    | _=>.no) (Cu X ρ H Q) (XE X ρ H):=hb
   cases hF:F as S1 with
   | ok a S2=>rw[hF]at hb;exact⟨a,S2,R1,v1,rfl,λρ2 H2 v e2=>hb ρ2 H2 v (e1.trans e2)⟩
   | ex c S2=>rw[hF]at hb;exact hb.elim
   | no=>rw[hF]at hb;exact hb.elim
def uh:∀τ S as S',jy τ S=.ok as S'->as.length=0:=λτ S as S' h=>by cases h;rfl
def lJ{c:Ex}{d:sP}{n:Nat}(h:∀τ S as S',d τ S=.ok as S'->as.length=n):∀τ S as S',jo c d τ S=.ok as S'->as.length=n+1:=λτ S as S' e=>by
 unfold jo at e
 cases hc:c τ S with
 | ok a S1=>
  rw[hc]at e
  cases hd:d τ S1 with
  | ok bs S2=>
   have e:R.bind (d τ S1) (λas S2=>.ok (a::as) S2)=.ok as S':=e;rw[hd]at e;cases e;rw[bq,h τ S1 bs _ hd]
  | ex _ _=>
   have e:R.bind (d τ S1) (λas S2=>.ok (a::as) S2)=.ok as S':=e;rw[hd]at e;cases e
  | no=>
   have e:R.bind (d τ S1) (λas S2=>.ok (a::as) S2)=.ok as S':=e;rw[hd]at e;cases e
 | ex _ _=>rw[hc]at e;cases e
 | no=>rw[hc]at e;cases e
end
section
variable {X:Cx}{pos:Pos}{a b c:aC}
abbrev kCh (f':A->A->jz->R A)(cc:Ex)(τ:ae)(b k:A)(S:jz):R A:=match k with
 | .bl true=>(cc τ S).bind λc S4=>f' b c S4
 | .bl false=>.ok (.bl false) S
 | _=>.no
abbrev Y0 (f f':A->A->jz->R A)(ca cb cc:Ex):Ex:=λτ S=>(ca τ S).bind λa S1=>(cb τ S1).bind λb S2=>(f a b S2).bind λk S3=>kCh f' cc τ b k S3
def YA{f f':A->A->jz->R A}{ca cb cc:Ex}{H:Hp}{Q:VK}(h:tE X (Y0 f f' ca cb cc) σ H Q):Pf (r2 X f) (r2 X f') (tE X ca) (tE X cb) (tE X cc) σ H Q:=by
 kst_p;refine⟨ρ,S,τ,R,r,jC (jD h) .refl λa S1 h1 ρ1 H1 x e1 R1 v1=>⟨ρ1,S1,τ,R1,r.ext e1,jC (jD h1) e1 λb S2 h2 ρ2 H2 y e2 R2 v2=>?_⟩⟩;have e12:=e1.trans e2;refine⟨ρ2,S2,a,b,R2,v1.ext e2,v2,jC (jD h2) e12 λk S3 h3 ρ3 H3 z e3 R3 v3=>?_⟩;have e13:=e12.trans e3
 cases k with
 | bl k=>
  cases FZ v3
  refine⟨k,rfl,?_⟩
  cases k with
  | true=>
   rw[aK rfl];exact⟨ρ3,S3,τ,R3,r.ext e13,jC (jD h3) e13 λc S4 h4 ρ4 H4 w e4 R4 v4=>⟨ρ4,S4,b,c,R4,v2.ext (e3.trans e4),v4,jC h4 (e13.trans e4) λ_ _ q=>q.ext (e13.trans e4)⟩⟩
  | false=>
   rw[aJ bE];exact h3 ρ3 H3 _ e13 R3 (.bl false)
 | _=>exact h3.elim
def Y9{f f':A->A->jz->R A}{ca cb cc:Ex}(ho:pT X (compareOp op) (r2 X f))(ho':pT X (compareOp op') (r2 X f'))(ha:AE X a ca)(hb:AE X b cb)(hc:AE X c cc)(hm:lastMarks [op,op'] [b,c]=false:=by with_unfolding_all rfl) :
  AE X (.Compare a [op,op'] [b,c] pos) (Y0 f f' ca cb cc):=PE.imp (Qq ho ho' ha hb hc hm) λ_ _ _ h=>YA h
abbrev Zz (S:jz)(x:A):ae->bn
 | []=>some false
 | z::zs=>(uP S 12 z x).bind λp=>(Zz S x zs).map λq=>p || q
abbrev aIn (neg:Bool)(x y:A)(S:jz):R A:=opt (y.seq S) λys=>opt (Zz S x ys) λb=>.ok (.bl (if neg then !b else b)) S
theorem DZ{H:Hp}{x:A}{v:af}(I:Inv X pins σ H s)(R:Rel X.K ρ H S)(hu:X.A.units+64<cLine)(hx:AV X.K ρ H x vx)(rx:RelV vx v) :
  ∀{ys:ae} {us:List V} {its:ba} {b:Bool},AVs X.K ρ H ys us->Vals us its->Zz S x ys=some b->∃e:af->Bool,(∀w∈its,SeqAt.EqAt X.A.in1 s w v (e w))/\its.any e=b
 | _,_,_,b,.nil,.nil,h=>⟨λ_=>false,(λw hw=>by cases hw),a_ h⟩
 | z::zs,u::us,w0::its,b,.cons hz hzs,.cons r rs,h=>by
  classical
  obtain⟨p,hp,h⟩:=cV.mp h;obtain⟨q,hq,h⟩:=aX.mp h;obtain⟨e,he,ha⟩:=DZ I R hu hx rx hzs rs hq;have h0:=(Le I R 12 X.A.in1 z x u vx w0 v p (by rw[in1_units];omega) hz hx r rx hp).2.1;subst h
  cases p with
  | true=>
   refine⟨λw=>if w=w0 then true else e w,λw hw=>?_,?_⟩
   ·by_cases hww:w=w0
    ·dsimp[hww,cZ];exact h0
    ·dsimp[hww,cg]
     rcases bF.mp hw with z|z
     ·exact absurd z hww
     ·exact he w z
   ·simp
  | false=>
   by_cases hm:w0∈its
   ·refine⟨e,λw hw=>?_,?_⟩
    ·rcases bF.mp hw with z|z
     ·rw[z];exact he w0 hm
     ·exact he w z
    ·rw[fX,ha,gz]
     cases q with
     | true=>simp
     | false=>
      have:=List.any_eq_false.mp ha w0 hm;simpa using this
   ·refine⟨λw=>if w=w0 then false else e w,λw hw=>?_,?_⟩
    ·by_cases hww:w=w0
     ·dsimp[hww,cZ];exact h0
     ·dsimp[hww,cg]
      rcases bF.mp hw with z|z
      ·exact absurd z hww
      ·exact he w z
    ·rw[fX,<- ha];dsimp[cZ,gz];have:∀l:ba,(∀w∈l,w≠w0)->l.any (λw=>if w=w0 then false else e w)=l.any e:=λl hl=>by
      induction l with
      | nil=>rfl
      | cons c l ih=>rw[fX,fX,ih λw hw=>hl w (aN _ hw),aJ (hl c (aM ..))]
     exact this its λw hw z=>hm (z ▸ hw)
def abH(hu:X.A.units+64<cLine):pT X (compareOp .In) (r2 X (aIn false)):=λpins s σ H x y v u Q I rx ry h9=>by
 z_go;obtain⟨ys,hy,h⟩:=jF h;obtain⟨k,hk,h⟩:=jF h;obtain⟨p,us,rfl,hs,r⟩:=WX R vb hy
 cases ry
 rcases hs with hs|hs
 ·obtain⟨its,rv,pl,hz⟩:=I.list hs;obtain⟨e,he,ha⟩:=DZ I R hu va rx r rv hk;refine SeqAt.in_listAt e pl.isList (λw hw=>he w (by simpa using hw)) ⟨.bl _,H,I,rfl,?_⟩;rw[show its.toArray.any e=its.any e by simp,ha];exact h _ _ _ .refl R (.bl _)
 ·obtain⟨its,rv,pl,hz⟩:=I.tuple hs;obtain⟨e,he,ha⟩:=DZ I R hu va rx r rv hk;refine SeqAt.in_tupleAt e pl (λw hw=>he w (by simpa using hw)) ⟨.bl _,H,I,rfl,?_⟩;rw[show its.toArray.any e=its.any e by simp,ha];exact h _ _ _ .refl R (.bl _)
end
abbrev jV (S:jz)(n:Nat):Option (List (ag×A)):=match S[n]? with
 | some (.dct xs)=>some xs
 | _=>none
def oK{n:Nat}(h:jV S n=some xs):S[n]?=some (.dct xs):=by
 unfold jV at h;split at h
 ·rename_i e;cases h;exact e
 ·cases h
def xT{S:jz}{n:Nat}(h:S[n]?=some (.dct xs)):jV S n=some xs:=by
 unfold jV;rw[h]
abbrev lV (kvs:List (ag×A))(k:ag):Option A:=(kvs.find? λkv=>decide (kv.1=k)).map (·.2)
abbrev putD (kvs:List (ag×A))(k:ag)(v:A):List (ag×A):=
 if (lV kvs k).isSome=true then kvs.map (λkv=>if kv.1=k then(kv.1,v)else kv)else kvs++[(k,v)]
theorem Ec:∀{a b:ag},a.map (Sum.inl:Int->Key)=b.map Sum.inl->a=b
 | [],[],_=>rfl
 | [],_::_,e=>by simp at e
 | _::_,[],e=>by simp at e
 | x::xs,y::ys,e=>by
  rw[bB,bB]at e
  injection e with e1 e2
  injection e1 with e1
  rw[e1,Ec e2]
def Ju(ns:ag):(ns.map (Sum.inl:Int->Key)).map kV=ns.map V.int:=by rw[bh];rfl
section
variable {K:au}{ρ:bd}{H:Hp}
def MN{p:ag×A}{r:List (ag×A)}{k:ag}(e:p.1=k):lV (p::r) k=some p.2:=by simp[lV,cT,e]
def LY{p:ag×A}{r:List (ag×A)}{k:ag}(e:¬p.1=k):lV (p::r) k=lV r k:=by simp[lV,cT,e]
theorem DV.look:∀{kvs:List (ag×A)}{ks:List (List Key×V)}(k:ag),DV K ρ H kvs ks->(lV kvs k).isSome=(qE ks (k.map Sum.inl)).isSome/\∀x,lV kvs k=some x->∃v,qE ks (k.map Sum.inl)=some v/\AV K ρ H x v
 | [],[],k,_=>⟨rfl,λx h=>nomatch h⟩
 | p::r,q::r',k,⟨⟨e,a⟩,t⟩=>by
  by_cases c:p.1=k
  ·have c':q.1=k.map Sum.inl:=by rw[e,c]
   rw[MN c,vG c'];exact⟨rfl,λx h=>by cases h;exact⟨_,rfl,a⟩⟩
  ·have c':¬q.1=k.map Sum.inl:=λz=>c (Ec (e.symm.trans z));rw[LY c,ve c'];exact DV.look k t
theorem DV.repl{x:A}{v:V}(h:AV K ρ H x v)(k:ag):∀{kvs:List (ag×A)}{ks:List (List Key×V)},DV K ρ H kvs ks->DV K ρ H (kvs.map λkv=>if kv.1=k then(kv.1,x)else kv) (ks.map λkv=>if kv.1=k.map Sum.inl then(kv.1,v)else kv)
 | [],[],_=>trivial
 | p::r,q::r',⟨⟨e,a⟩,t⟩=>by
  refine⟨?_,DV.repl h k t⟩;dsimp only;by_cases c:p.1=k
  ·rw[aK c,aK (by rw[e,c])];exact⟨e,h⟩
  ·rw[aJ c,aJ (λz=>c (Ec (e.symm.trans z)))];exact⟨e,a⟩
theorem DV.snoc{x:A}{v:V}(h:AV K ρ H x v)(k:ag):∀{kvs:List (ag×A)}{ks:List (List Key×V)},DV K ρ H kvs ks->DV K ρ H (kvs++[(k,x)]) (ks++[(k.map Sum.inl,v)])
 | [],[],_=>⟨⟨rfl,h⟩,trivial⟩
 | p::r,q::r',⟨a,t⟩=>⟨a,DV.snoc h k t⟩
def DV.put{x:A}{v:V}(h:AV K ρ H x v)(k:ag)(d:DV K ρ H kvs ks):DV K ρ H (putD kvs k x) (putK ks (k.map Sum.inl) v):=by
 unfold putD putK;rw[yl,<- (d.look k).1];by_cases c:(lV kvs k).isSome=true
 ·rw[aK c,aK c];exact DV.repl h k d
 ·rw[aJ c,aJ c];exact DV.snoc h k d
def DV.length:∀{kvs:List (ag×A)}{ks:List (List Key×V)},DV K ρ H kvs ks->kvs.length=ks.length
 | [],[],_=>rfl
 | _::_,_::_,⟨_,t⟩=>dj (·+1) t.length
def Rel.dct{n:Nat}{a:ak}(R:Rel K ρ H S)(ha:ρ[n]?=some a)(hS:S[n]?=some (.dct xs)):∃vs,H a=some (.dT vs)/\DV K ρ H xs vs:=R.at n a _ ha hS
def Rel.aa8{S:jz}{p:ak}(R:Rel K ρ H S)(hp:H p=none)(r:DV K ρ H xs vs):Ext ρ (ρ++[p]) H (upd H p (.dT vs))/\Rel K (ρ++[p]) (upd H p (.dT vs)) (S++[.dct xs])/\(ρ++[p])[S.length]?=some p:=by
 have ex:Ext ρ (ρ++[p]) H (upd H p (.dT vs)):=⟨⟨eV _ _,λa u _ h=>by rw[jH (jP h hp)];exact h⟩,λa u h _=>by rw[jH (jP h hp)];exact h,λa h=>by
  rcases bH.mp h with z|z
  ·exact .inl z
  ·have e:a=p:=by simpa using z
   rw[e];exact .inr hp⟩
 have np:p∉ρ:=R.LB hp;have last:(ρ++[p])[S.length]?=some p:=by rw[<- R.len];simp
 refine⟨ex,⟨by simp[R.len],?_,?_⟩,last⟩
 ·rw[eg];refine⟨R.nd,by simp,λa ha b hb e=>?_⟩;have:b=p:=by simpa using hb
  exact np (by rw[<- this,<- e];exact ha)
 ·intro n a o h1 h2;by_cases hn:n<S.length
  ·rw[bI (by rw[R.len];exact hn)]at h1;rw[bI hn]at h2;have na:a≠p:=λz=>np (by rw[<- z];exact aW h1);have:=R.at n a o h1 h2
   cases o with
   | lst ys=>obtain⟨ws,e,q⟩:=this;exact⟨ws,by rw[jH na];exact e,q.ext ex⟩
   | dct _|pK _=>obtain⟨ws,e,q⟩:=this;exact⟨ws,by rw[jH na];exact e,q.ext ex⟩
   | ins _ _=>obtain⟨oo,uu,e⟩:=this;exact⟨oo,uu,by rw[jH na];exact e⟩
  ·have e:n=S.length:=by
    have:=(aL.mp h2).1;simp at this;omega
   subst e;rw[last]at h1
   cases h1
   simp at h2;subst h2;exact⟨vs,kP,r.ext ex⟩
def Rel.putD{S:jz}{n:Nat}{a:ak}(R:Rel K ρ H S)(ha:ρ[n]?=some a)(hS:S[n]?=some (.dct xs))(r:DV K ρ H ys ws):Ext ρ ρ H (upd H a (.dT ws))/\Rel K ρ (upd H a (.dT ws)) (S.set n (.dct ys)):=by
 obtain⟨vs,e,_⟩:=R.at n a _ ha hS;have ex:Ext ρ ρ H (upd H a (.dT ws)):=⟨⟨eN _,λb u i h=>by
  have:b≠a:=by
   intro z;subst z;rw[e]at h;cases h;exact i
  rw[jH this];exact h⟩,λb u h n=>by
  rw[jH (λz=>n (by rw[z];exact aW ha))];exact h,λ_ h=>.inl h⟩
 refine⟨ex,by rw[cE];exact R.len,R.nd,λm b o h1 h2=>?_⟩;by_cases hm:m=n
 ·subst hm;rw[ha]at h1;cases h1;rw[b_ (aL.mp hS).1]at h2
  cases h2
  exact⟨ws,kP,r.ext ex⟩
 ·rw[cJ (dw hm)]at h2;have nb:b≠a:=λz=>by
   subst z;obtain⟨l1,e1⟩:=aL.mp ha;obtain⟨l2,e2⟩:=aL.mp h1;exact hm ((dF R.nd).mp (e2.trans e1.symm))
  have:=R.at m b o h1 h2
  cases o with
  | lst ys=>obtain⟨ws',e',q⟩:=this;exact⟨ws',by rw[jH nb];exact e',q.ext ex⟩
  | dct _|pK _=>obtain⟨ws',e',q⟩:=this;exact⟨ws',by rw[jH nb];exact e',q.ext ex⟩
  | ins _ _=>obtain⟨oo,uu,e'⟩:=this;exact⟨oo,uu,by rw[jH nb];exact e'⟩
end
section
variable {X:Cx}{pos:Pos}{a b:aC}
def D6{H:Hp}{p q:ak}{n:Nat}{ns:ag}(R:Rel X.K ρ H S)(hp:ρ[n]?=some p)(hn:jV S n=some kvs)(hq:H q=some (.tup vs))(r:AVs X.K ρ H xs vs)(hi:A.ints xs=some ns) :
  ∃ks,H p=some (.dT ks)/\DV X.K ρ H kvs ks/\H q=some (.tup ((ns.map (Sum.inl:Int->Key)).map kV))/\xq H p (.ref q) (qE ks (ns.map Sum.inl)):=by
 obtain⟨ks,e,d⟩:=R.dct hp (oK hn);have z:=Ag r hi;subst z;rw[<- Ju]at hq;exact⟨ks,e,d,hq,xq.t e hq⟩
abbrev wC (x y:A)(S:jz):R A:=match x,y with
 | .ref n,.tup xs=>opt (jV S n) λkvs=>opt (A.ints xs) λns=>opt (lV kvs ns) λv=>.ok v S
 | _,_=>.no
def aaz(hu:X.A.units+64<cLine):Wi X (r2 X wC):=λvalue slice pins s σ H x y v u Q I rx ry ⟨ρ,S,a,b,R,va,vb,h⟩ hs=>by
 cases va with
 | @ref p n hp=>
  cases vb with
  | @tup q xs vs hq r=>
   obtain⟨kvs,hn,h⟩:=jF h;obtain⟨ns,hi,h⟩:=jF h;obtain⟨z,hz,h⟩:=jF h;obtain⟨ks,e,d,hq',g⟩:=D6 R hp hn hq r hi;obtain⟨w,hw,aw⟩:=(d.look ns).2 z hz;rw[hw]at g;exact Lj () value slice pins s σ H _ _ v u Q I rx ry ⟨p,w,rfl,g,h _ _ _ .refl R aw⟩ hs
  | _=>exact h.elim
 | _=>exact h.elim
def zG(hu:X.A.units+64<cLine){ca cb:Ex}(ha:AE X a ca)(hb:AE X b cb)(hs:AJ b:=by exact λ_ _=>rfl):AE X (.Subscript a b pos) (jA wC ca cb):=PE.imp (OP (aaz hu) ha hb hs) λσ H Q h=>wj h
abbrev TX (neg:Bool)(x y:A)(S:jz):R A:=match x,y with
 | .tup xs,.ref n=>opt (jV S n) λkvs=>opt (A.ints xs) λns=>.ok (.bl (if neg then !(lV kvs ns).isSome else(lV kvs ns).isSome)) S
 | _,_=>.no
def Qj(hu:X.A.units+64<cLine):pT X (compareOp .NotIn) (r2 X (TX true)):=λpins s σ H x y v u Q I rx ry h9=>by
 z_go
 cases va with
 | @tup q xs vs hq r=>
  cases vb with
  | @ref p n hp=>
   obtain⟨kvs,hn,h⟩:=jF h;obtain⟨ns,hi,h⟩:=jF h;obtain⟨ks,e,d,hq',g⟩:=D6 R hp hn hq r hi;exact Mr (by omega) pins s σ H _ _ v u Q I rx ry ⟨p,_,rfl,g,by rw[<- (d.look ns).1];exact h _ _ _ .refl R (.bl _)⟩
  | _=>exact h.elim
 | _=>exact h.elim
abbrev GS (o i v:A)(S:jz):R Unit:=match o,i with
 | .ref n,.tup xs=>opt (jV S n) λkvs=>opt (A.ints xs) λns=>gd (kvs.length<sizeLine) (.ok Unit.unit (S.set n (.dct (putD kvs ns v))))
 | _,_=>.no
abbrev abe (X:Cx):MJ:=λo i v H Q=>∃ρ S ao ai av,Rel X.K ρ H S/\AV X.K ρ H ao o/\AV X.K ρ H ai i/\AV X.K ρ H av v/\(GS ao ai av S).post (λ_ S'=>∀ρ' H',Ext ρ ρ' H H'->Rel X.K ρ' H' S'->Q H') (XE X ρ H)
def TH(hu:X.A.units+64<cLine):Mw X (abe X):=λpins s σ H o i v ov iv u Q I ro ri rv h9=>by
 obtain⟨ρ,S,ao,ai,av,R,h1,h2,h3,h⟩:=h9
 cases h1 with
 | @ref p n hp=>
  cases h2 with
  | @tup q xs vs hq r=>
   obtain⟨kvs,hn,h⟩:=jF h;obtain⟨ns,hi,h⟩:=jF h;obtain⟨hl,h⟩:=jY h;obtain⟨ks,e,d,hq',g⟩:=D6 R hp hn hq r hi;obtain⟨ex,R'⟩:=R.putD hp (oK hn) (d.put h3 ns);exact set_dict () pins s σ H _ _ v ov iv u Q I ro ri rv ⟨p,_,rfl,Gy.t e hq' (by rw[<- d.length];exact hl),h _ _ ex R'⟩
  | _=>exact h.elim
 | _=>exact h.elim
abbrev FF (co ci:Ex):Tg:=λa τ S=>(co τ S).bind λo S1=>(ci τ S1).bind λi S2=>(GS o i a S2).bind λ_ S3=>.ok τ S3
def xR(hu:X.A.units+64<cLine){co ci:Ex}(ho:AE X o co)(hi:AE X i ci)
  (ha:∀v,assign (.Subscript o i pos) X.env v=(do
   let ov <- holding [v] (eval o X.env)
   let iv <- holding [v,ov] (eval i X.env)
   standAt pos
   holding [v,ov,iv] (setItem ov iv v)
   release [v,ov,iv] []):=by intro _;rfl):AG X (.Subscript o i pos) (FF co ci):=PG.imp (IP ho hi (TH hu) ha) λv σ H Q h9=>by
 obtain⟨ρ,S,τ,a,R,r,va,h⟩:=h9;kd_p;kpc_g;exact h3 ρ3 H3 σ ((e1.trans e2).trans e3) R3 (r.ext ((e1.trans e2).trans e3))
abbrev zQ:Ex:=λ_ S=>.ok (.ref S.length) (S++[.dct []])
def vY:AE X (.Dict [] [] pos) zQ:=PE.imp OW λσ H Q ⟨ρ,S,τ,R,r,h⟩ p hp=>by
 obtain⟨ex,R',hl⟩:=R.aa8 (xs:=[]) (vs:=[]) hp trivial;exact h _ _ _ ex R' (.ref hl)
abbrev dct? (a:A)(S:jz):Option Unit:=match a with
 | .ref n=>(jV S n).map λ_=>Unit.unit
 | _=>none
abbrev Uc (f:A->ae->jz->R A)(co:Ex)(d:sP):Ex:=λτ S=>(co τ S).bind λx S1=>opt (dct? x S1) λ_=>(d τ S1).bind λas S2=>f x as S2
def dct?_ty{K:au}{H:Hp}{x:A}{v:V}(R:Rel K ρ H S)(a:AV K ρ H x v)(e:dct? x S=some u):tyV K "dict" v H:=by
 cases a with
 | @ref p n h=>
  obtain⟨xs,hx,_⟩:=aX.mp e;obtain⟨vs,h1,_⟩:=R.dct h (oK hx);exact .inr (.inr (.inl ⟨rfl,.inr ⟨vs,h1⟩⟩))
 | _=>cases e
def OT{e:aC}{id:String}{apos cpos:Pos}{f:A->ae->jz->R A}{co:Ex}{d:sP}(slot:Slot "dict" name id)(hty:typeOf (.builtin id)=pure (.type "method_descriptor"))(hm:Vw X id (rM X f))(ho:AE X o co)(ha:AL X (e::es) d)
  (hbase:attributeBase o name X.env (eval o X.env)=eval o X.env:=by rfl)
  (hfew:((backTo cpos (starEach (e::es) X.env)).all (λx=>!x.1) && (backToKw cpos (keywordEach [] X.env)).all (λx=>x.1.isSome)
   && decide ((e::es).length+([]:List Keyword).length+(if ([]:List Keyword).isEmpty then 0 else 1)<30))=true:=by rfl)
  (hline:(apos.endLine == cpos.line)=true:=by rfl) (hs:starEach (e::es) X.env=(false,eval e X.env)::starEach es X.env:=by rfl) (hplain:(backTo cpos (starEach es X.env)).any (·.1)=false:=by rfl) :
  AE X (.Call (.Attribute o name apos) (e::es) [] cpos) (Uc f co d):=PE.imp (NQ PySem.F.plainAttrs_dict slot hty hm ho ha hbase hfew hline hs hplain) λσ H Q h9=>by
 room;refine⟨ρ,S,τ,R,r,jC (jD h) .refl λx S1 h1 ρ1 H1 v e1 R1 v1=>?_⟩;obtain⟨xs,hx,h1⟩:=jF h1;refine⟨dct?_ty R1 v1 hx,ρ1,S1,τ,R1,r.ext e1,jC (jD h1) e1 λas S2 h2 ρ2 H2 vs e2 R2 v2=>?_⟩;exact⟨ρ2,S2,x,as,R2,v1.ext e2,v2,jC h2 (e1.trans e2) λ_ _ z=>z.ext (e1.trans e2)⟩
abbrev Tc (o:A)(as:ae)(S:jz):R A:=match o,as with
 | .ref n,[.tup xs,y]=>opt (jV S n) λkvs=>opt (A.ints xs) λk=>.ok ((lV kvs k).getD y) S
 | _,_=>.no
def VM(hu:X.A.units+64<cLine):Vw X "dict.get" (rM X Tc):=λpins s σ H x vs v us Q I rx rv h9=>by
 obtain⟨ρ,S,o,as,R,vo,va,h⟩:=h9
 cases vo with
 | @ref p n hp=>
  match as,va,h with
  | [],_,h=>exact h.elim
  | [z],_,h=>exact(by cases z<;>exact h.elim)
  | z::_::_::_,_,h=>exact(by cases z<;>exact h.elim)
  | [z,y],va,h=>
   obtain⟨w1,w2,rfl,hz,hy⟩:=XF va
   cases hz with
   | @tup q xs ws hq rr=>
    obtain⟨kvs,hn,h⟩:=jF h;obtain⟨ns,hi,h⟩:=jF h;have z:=Ag rr hi;subst z;obtain⟨ks,h1,dv⟩:=R.dct hp (oK hn);refine Ur (by omega) pins s σ H _ _ v us Q I rx rv ⟨p,q,ns.map Sum.inl,ks,w2,rfl,rfl,h1,by rw[Ju];exact hq,h _ _ _ .refl R ?_⟩;obtain⟨l1,l2⟩:=dv.look ns
    cases e1:lV kvs ns with
    | none=>
     rw[e1]at l1
     cases e2:qE ks (ns.map Sum.inl)with
     | none=>exact hy
     | some _=>rw[e2]at l1;cases l1
    | some x1=>
     obtain⟨v1,e2,a1⟩:=l2 x1 e1;rw[e2];exact a1
   | _=>exact h.elim
 | _=>exact h.elim
end
abbrev sU (s:Src)(g:Tg)(t:Te)(e:Ex):Nat->Nat->ae->jz->R (ae×ae)
 | 0,_=>λτ S=>if s.fin S then .ok ([],τ) S else .no
 | k+1,i=>λτ S=>opt (s.get i S) λx=>(g x τ S).mU λτ1 S1=>(t τ1 S1).mU λb S2=>match b with
  | true=>(e τ1 S2).mU λy S3=>(sU s g t e k (i+1) τ1 S3).mU λp S4=>.ok (y::p.1,p.2) S4
  | false=>sU s g t e k (i+1) τ1 S2
abbrev qA (s:Src)(g:Tg)(t:Te)(src2:Ic)(g2:Tg)(t2:Te)(e:Ex):Nat->Nat->ae->jz->R (ae)
 | 0,_=>λ_ S=>if s.fin S then .ok [] S else .no
 | k+1,i=>λτ S=>opt (s.get i S) λx=>(g x τ S).mU λτ1 S1=>(t τ1 S1).mU λb S2=>match b with
  | true=>(src2 τ1 S2).mU λs2 S3=>(sU s2 g2 t2 e s2.k 0 τ1 S3).mU λp S4=>(qA s g t src2 g2 t2 e k (i+1) p.2 S4).mU λys S5=>.ok (p.1++ys) S5
  | false=>qA s g t src2 g2 t2 e k (i+1) τ1 S2
abbrev ID (cap:List (bp))(src:Ic)(g:Tg)(t:Te)(src2:Ic)(g2:Tg)(t2:Te)(e:Ex):Ex:=λτ S=>(src τ S).bind λs S1=>(qA s g t src2 g2 t2 e s.k 0 (kN cap τ) S1).mU λys S2=>newL ys S2
def FE{s:Src}{g:Tg}{t:Te}{e:Ex}{k:Nat}(h:sU s g t e (k+1) i τ S=.ok (zs,τ') S') :
  ∃x τ1 S1 b S2,s.get i S=some x/\g x τ S=.ok τ1 S1/\t τ1 S1=.ok b S2/\(b=true->∃y S3 ws,e τ1 S2=.ok y S3/\sU s g t e k (i+1) τ1 S3=.ok (ws,τ') S'/\zs=y::ws)/\(b=false->sU s g t e k (i+1) τ1 S2=.ok (zs,τ') S'):=by
 obtain⟨x,hx,h⟩:=Ij h;obtain⟨τ1,S1,h1,h⟩:=lZ h;obtain⟨b,S2,h2,h⟩:=lZ h;refine⟨x,τ1,S1,b,S2,hx,h1,h2,λhb=>?_,λhb=>?_⟩
 ·subst hb;obtain⟨y,S3,h3,h⟩:=lZ h;obtain⟨⟨ws,τ2⟩,S4,h4,h⟩:=lZ h
  cases h
  exact⟨y,S3,ws,h3,h4,rfl⟩
 ·subst hb;exact h
def Dv{s:Src}{g:Tg}{t:Te}{src2:Ic}{g2:Tg}{t2:Te}{e:Ex}{k:Nat}(h:qA s g t src2 g2 t2 e (k+1) i τ S=.ok zs S') :
  ∃x τ1 S1 b S2,s.get i S=some x/\g x τ S=.ok τ1 S1/\t τ1 S1=.ok b S2/\(b=true->∃s2 S3 ps τ2 S4 ws,src2 τ1 S2=.ok s2 S3/\sU s2 g2 t2 e s2.k 0 τ1 S3=.ok (ps,τ2) S4/\qA s g t src2 g2 t2 e k (i+1) τ2 S4=.ok ws S'/\zs=ps++ws)/\(b=false->qA s g t src2 g2 t2 e k (i+1) τ1 S2=.ok zs S'):=by
 obtain⟨x,hx,h⟩:=Ij h;obtain⟨τ1,S1,h1,h⟩:=lZ h;obtain⟨b,S2,h2,h⟩:=lZ h;refine⟨x,τ1,S1,b,S2,hx,h1,h2,λhb=>?_,λhb=>?_⟩
 ·subst hb;obtain⟨s2,S3,h3,h⟩:=lZ h;obtain⟨⟨ps,τ2⟩,S4,h4,h⟩:=lZ h;obtain⟨ws,S5,h5,h⟩:=lZ h
  cases h
  exact⟨s2,S3,ps,τ2,S4,ws,h3,h4,h5,rfl⟩
 ·subst hb;exact h
abbrev tI0 (K:au)(c:Ic):TI:=λσ H Q=>∃ρ S τ s S',Rel K ρ H S/\SR K ρ H τ σ/\c τ S=.ok s S'/\∀ρ' H' J,Ext ρ ρ' H H'->Rel K ρ' H' S'->JR K s J ρ' H'->Q J H'
structure Out (ρ1:bd)(H1:Hp)(D:ak)(accV:List V)(ρ:bd)(H:Hp):Prop where
 e0:Ext0 ρ1 ρ H1 H
 fr:∀a u,a≠D->H1 a=some u->a∉ρ1->H a=some u
 nw:∀a∈ρ,a∈ρ1\/H1 a=none
 nD:D∉ρ
 hD:H D=some (.lst accV)
def Out.stay{H1 H3 H7:Hp}{D:ak}(o:Out ρ1 H1 D accV ρ3 H3)(hD1:H1 D=none)(e7:Ext ρ3 ρ7 H3 H7):Out ρ1 H1 D accV ρ7 H7:=by
 refine⟨⟨o.e0.pre.trans e7.pre,λa u i h=>e7.im a u i (o.e0.im a u i h)⟩,λa u na hu nr=>e7.fr a u (o.fr a u na hu nr) λz=>(o.nw a z).elim nr λz=>by(rw[z]at hu;cases hu),λa ha=>?_,λz=>(e7.nw D z).elim o.nD λz=>by(rw[o.hD]at z;cases z),e7.fr D _ o.hD o.nD⟩;by_cases hr:a∈ρ1
 ·exact .inl hr
 ·right
  cases q:H1 a with
  | none=>rfl
  | some u=>
   have aD:a≠D:=jP q hD1
   rcases e7.nw a ha with z|z
   ·exact((o.nw a z).elim hr λz=>by(rw[z]at q;cases q)).elim
   ·rw[o.fr a u aD q hr]at z;cases z
section
variable {X:Cx}{pos:Pos}{tg iter tg2 iter2 elt e:aC}{ifs ifs2:List aC}{scope:Scope}{N:ar}{cap:List (bp)}{src src2:Ic}{g g2:Tg}{t t2:Te}{c:Ex}
def AI.i0{K:au}(hK:X.K=K)(h:AI X tg e src):PI X tg e (tI0 K src):=λpins s σ H Q I ⟨ρ,S,τ,a,S',R,r,hc,q⟩=>h pins s σ H Q I ⟨ρ,S,τ,by rw[hK];exact R,by rw[hK];exact r,by rw[hc];exact λρ' H' J e R' v'=>q ρ' H' J e (by rw[<- hK];exact R') (by rw[<- hK];exact v')⟩
def Ro(hc:X.calm=true)(Sc:CpScope X scope N cap)(hi:AI X tg iter src)(hg:∀C s₀ H₀ ex,AG (lz X scope N C s₀ H₀ ex) tg g)(ht:∀C s₀ H₀ ex,YS (lz X scope N C s₀ H₀ ex) ifs t)(hi2:∀C s₀ H₀ ex,AI (lz X scope N C s₀ H₀ ex) tg2 iter2 src2)
  (hg2:∀C s₀ H₀ ex,AG (lz X scope N C s₀ H₀ ex) tg2 g2) (ht2:∀C s₀ H₀ ex,YS (lz X scope N C s₀ H₀ ex) ifs2 t2) (he:∀C s₀ H₀ ex,AE (lz X scope N C s₀ H₀ ex) elt c)
  (hs:∀x,foldedSetIterable iter X.env x=pure x:=by intro _;rfl) (hs2:∀env x,foldedSetIterable iter2 env x=pure x:=by intro _ _;rfl):AE X (.ListComp elt [⟨tg,iter,ifs,0⟩,⟨tg2,iter2,ifs2,0⟩] scope pos) (ID cap src g t src2 g2 t2 c):=by
 refine PE.imp (YK hc Sc hi (g:=YW X.K g) (tc:=WB X.K t) (wi2:=tI0 X.K src2) (g2:=YW X.K g2) (tc2:=WB X.K t2) (te:=ZY X.K c) (λC s₀ H₀ ex=>(hg C s₀ H₀ ex).g0 rfl) (λC s₀ H₀ ex=>ht C s₀ H₀ ex) (λC s₀ H₀ ex=>(hi2 C s₀ H₀ ex).i0 rfl) (λC s₀ H₀ ex=>(hg2 C s₀ H₀ ex).g0 rfl) (λC s₀ H₀ ex=>ht2 C s₀ H₀ ex) (λC s₀ H₀ ex=>(he C s₀ H₀ ex).e0 rfl) hs hs2) λσ H Q h9=>?_;room;refine⟨ρ,S,τ,R,r,jC (jD h) .refl λs S1 h1 ρ1 H1 J e1 R1 jr D hD=>?_⟩;obtain⟨ys,S2,hcg,h1⟩:=BO h1;obtain⟨hlen,h1⟩:=jY h1;have h1:Cu X ρ H Q (.ref S2.length) (S2++[.lst ys]):=h1;obtain⟨eD,RD⟩:=R1.im (u:=.lst []) hD;have nD:=R1.LB hD;refine⟨λi m σ' H'=>m+i=s.k/\∃ρ' S' τ' acc zs accV,Out ρ1 H1 D accV ρ' H'/\Rel X.K ρ' H' S'/\SR X.K ρ' H' τ' σ'/\AVs X.K ρ' H' acc accV/\qA s g t src2 g2 t2 c m i τ' S'=.ok zs S2/\acc++zs=ys,
  ⟨s.k,rfl,ρ1,S1,kN cap τ,[],ys,[],⟨eD.toExt0,λa u na hu _=>by rw[jH na];exact hu,λa ha=>.inl ha,nD,kP⟩,RD,(VT ((r.ext e1).ext eD) cap),.nil,hcg,rfl⟩,?_⟩
 rintro i m σ3 H3 ⟨hm,ρ3,S3,τ3,acc,zs,accV,o3,R3,r3,ac3,cg3,eys⟩
 cases m with
 | zero=>
  left;have cg3:(if s.fin S3 then Am.R.ok [] S3 else .no)=.ok zs S2:=cg3
  cases hf:s.fin S3 with
  | false=>rw[hf]at cg3;cases cg3
  | true=>
   rw[hf]at cg3
   cases cg3
   rw[cH]at eys;subst eys;refine⟨by rw[show i=s.k by lia];exact jr.stop _ H3 ρ3 o3.e0 R3 hf,?_⟩;obtain⟨RT,gt⟩:=R3.take o3.hD o3.nD ac3;refine h1 (ρ3++[D]) H3 _ (e1.trans ⟨⟨o3.e0.pre.trans (eV _ _),o3.e0.im⟩,λa u hu na=>o3.fr a u (jP hu hD) hu na,λa ha=>?_⟩) RT (.ref gt)
   rcases bH.mp ha with z|z
   ·exact o3.nw a z
   ·have:a=D:=by simpa using z
    rw[this];exact .inr hD
 | succ m=>
  right;obtain⟨x,τ4,S4,b,S5,hx,hg4,ht5,hT,hF⟩:=Dv cg3;obtain⟨hgo,hy⟩:=jr.go i S3 H3 ρ3 x o3.e0 R3 hx;refine⟨hgo,λv H4 y=>?_⟩;obtain⟨e4,R4,v4⟩:=hy v H4 y;refine⟨ρ3,S3,τ3,x,τ4,S4,R4,r3.ext e4,v4,hg4,λρ5 H5 σ5 e5 R5 r5=>?_⟩;refine⟨ρ5,S4,τ4,b,S5,R5,r5,ht5,λρ6 H6 e6 R6=>?_⟩;have e36:=(e4.trans e5).trans e6
  cases b with
  | false=>
   dsimp only;rw[aJ bE];exact⟨m,c8 _,(),ρ6,S5,τ4,acc,zs,accV,o3.stay hD e36,R6,r5.ext e6,ac3.ext e36,hF rfl,eys⟩
  | true=>
   dsimp only;rw[aK rfl];obtain⟨s2,S6,ps,τ7,S7,ws,hs6,ci7,co7,ezs⟩:=hT rfl;refine⟨ρ6,S5,τ4,s2,S6,R6,r5.ext e6,hs6,λρ8 H8 J2 e8 R8 jr2=>?_⟩;have e38:=e36.trans e8;have o8:=o3.stay hD e38;refine⟨λi2 m2 σ' H'=>m2+i2=s2.k/\∃ρ' S' τ' acc2 qs accV2,Out ρ1 H1 D accV2 ρ' H'/\Ext0 ρ8 ρ' H8 H'/\Rel X.K ρ' H' S'/\SR X.K ρ' H' τ' σ'/\AVs X.K ρ' H' acc2 accV2/\sU s2 g2 t2 c m2 i2 τ' S'=.ok (qs,τ7) S7/\acc2++qs=acc++ps,
    ⟨s2.k,rfl,ρ8,S6,τ4,acc,ps,accV,o8,⟨eN _,λ_ _ _ h=>h⟩,R8,r5.ext (e6.trans e8),ac3.ext e38,ci7,rfl⟩,?_⟩
   rintro i2 m2 σ9 H9 ⟨hm2,ρ9,S9,τ9,acc9,qs,accV9,o9,e89,R9,r9,ac9,ci9,eqs⟩
   cases m2 with
   | zero=>
    left;have ci9:(if s2.fin S9 then Am.R.ok ([],τ9) S9 else .no)=.ok (qs,τ7) S7:=ci9
    cases hf:s2.fin S9 with
    | false=>rw[hf]at ci9;cases ci9
    | true=>
     rw[hf]at ci9
     cases ci9
     rw[cH]at eqs;subst eqs;refine⟨by rw[show i2=s2.k by lia];exact jr2.stop _ H9 ρ9 e89 R9 hf,m,c8 _,(),ρ9,_,_,_,ws,accV9,o9,R9,r9,ac9,co7,?_⟩;rw[bY,<- ezs,eys]
   | succ m2=>
    right;obtain⟨x9,τ10,S10,b10,S11,hx9,hg10,ht11,hT9,hF9⟩:=FE ci9;obtain⟨hgo2,hy2⟩:=jr2.go i2 S9 H9 ρ9 x9 e89 R9 hx9;refine⟨hgo2,λv10 H10 y10=>?_⟩;obtain⟨e10,R10,v10'⟩:=hy2 v10 H10 y10;refine⟨ρ9,S9,τ9,x9,τ10,S10,R10,r9.ext e10,v10',hg10,λρ11 H11 σ11 e11 R11 r11=>?_⟩;refine⟨ρ11,S10,τ10,b10,S11,R11,r11,ht11,λρ12 H12 e12 R12=>?_⟩;have e912:=(e10.trans e11).trans e12;have o12:=o9.stay hD e912;have e812:Ext0 ρ8 ρ12 H8 H12:=⟨e89.pre.trans e912.pre,λa u i h=>e912.im a u i (e89.im a u i h)⟩
    cases b10 with
    | false=>
     dsimp only;rw[aJ bE];exact⟨m2,c8 _,(),ρ12,S11,τ10,acc9,qs,accV9,o12,e812,R12,r11.ext e12,ac9.ext e912,hF9 rfl,eqs⟩
    | true=>
     dsimp only;rw[aK rfl];obtain⟨y,S13,us,he13,ci13,eus⟩:=hT9 rfl;refine⟨ρ12,S11,τ10,y,S13,R12,r11.ext e12,he13,λρ14 H14 w e14 R14 v14=>?_⟩;have o14:=o12.stay hD e14;obtain⟨ex15,R15⟩:=R14.out (ws:=accV9++[w]) o14.hD o14.nD;have l1:=ac9.length;refine⟨accV9,o14.hD,?_,m2,c8 _,(),ρ14,S13,τ10,acc9++[y],us,accV9++[w],⟨⟨o14.e0.pre,λa u i h=>ex15.im a u i (o14.e0.im a u i h)⟩,λa u na hu nr=>by rw[jH na];exact o14.fr a u na hu nr,o14.nw,o14.nD,kP⟩,⟨e812.pre.trans e14.pre,λa u i h=>ex15.im a u i (e14.im a u i (e812.im a u i h))⟩,R15,(r11.ext (e12.trans e14)).nZ ex15,(AVs.nZ ex15 ((ac9.ext (e912.trans e14)).append (.one v14))),ci13,?_⟩
     ·have:((acc++ps)++ws).length<=sizeLine:=by rw[bY,<- ezs,eys];exact hlen
      rw[<- eqs,eus,aQ,aQ,bq]at this
      lia
     ·rw[bY,<- eqs,eus];rfl
end
abbrev abL (F:ae->jz->R A)(d:sP):Ex:=λτ S=>(d τ S).bind λas S1=>F as S1
abbrev bmV:ba:=[.type "ValueError",.type "Exception",.type "BaseException",.type "object"]
abbrev UJ:List (Str ⊕ Ex)->ae->jz->R Unit
 | [],_,S=>.ok Unit.unit S
 | .inl _::ps,τ,S=>UJ ps τ S
 | .inr e::ps,τ,S=>(e τ S).bind λv S1=>match v with
  | .int i=>gd (i.natAbs.log2<64) (UJ ps τ S1)
  | _=>.no
abbrev Wr (c:Str)(ps:List (Str ⊕ Ex)):Sm:=λτ S=>.of (UJ ps τ S) λ_ S1=>.ex c S1
abbrev Vo (i:Nat):RS->RS
 | .nx τ S=>.nx (τ.set i .unb) S
 | .bk τ S=>.bk (τ.set i .unb) S
 | .ct τ S=>.ct (τ.set i .unb) S
 | .rt a S=>.rt a S
 | _=>.no
abbrev ZR (i n:Nat)(cs:ar)(c d:Sm):Sm:=λτ S=>match c τ S with
 | .ex x S1=>if x∈cs then Vo i (d ((List.replicate n .unb).set i (.exn x)) S1)else .no
 | r=>r
abbrev abN (f:Str->bn)(c:Ex):Ex:=λτ S=>(c τ S).bind λv S1=>match v with
 | .exn x=>opt (f x) λb=>.ok (.bl b) S1
 | _=>.no
structure ExcK (K:au)(U:ak)(c:Str)(C:ak):Prop where
 n:ClN K c C
 q:PySem.W.excIn K C bmV "ValueError.__new__" = true
 r:L2.mroIn K C=some (.ref U::bmV)
 x:XCls K C
 cl:(PySem.W.clsIn K C).isSome=true
 v:PySem.W.kitOne K (.ref C) (.type "ValueError")=some true
abbrev tbX (tb:List (Str×Bool)):Str->bn:=λx=>tb.lookup x
abbrev ZK (F:ae->jz->R A)(d:sP):Ex:=λτ S=>match d τ S with
 | .ok as S1=>F as S1
 | _=>.no
section
variable {d:sP}
abbrev aah (t:Te)(c d:Sm):Sm:=λτ S=>match t τ S with
 | .ok true S1=>c τ S1
 | .ok false S1=>d τ S1
 | _=>.no
end
abbrev V5 (i:Nat)(cs:ar)(c d:Sm):Sm:=λτ S=>match c τ S with
 | .ex x S1=>if x∈cs then Vo i (d (τ.set i (.exn x)) S1)else .no
 | r=>r
abbrev sNo:Sm:=λ_ _=>.no
def Vu{X:Cx}{st:aE}:AS X st sNo:=PS.imp N8 λD σ H ⟨ρ,S,τ,R,r,h⟩=>h.elim
def Mt{K:au}{H:Hp}{a:ak}{ns:ag}{F:ae->jz->R A}(hO:Tt H)(hS:rG K H a (ns.map V.int))(h:∃S',F [.frz (ns.map .int)] []=.ok (.bl true) S'):pR K 1 F [.ref a] H (λv _=>v=.bl true) λ_ _ _=>False:=by
 obtain⟨S',h⟩:=h;have fz:Fz K H a (ns.map V.int):=by
  rcases hS with(h|⟨o,h⟩)|h
  ·rcases hO a with z|⟨ob,xs,z⟩
   ·rw[h]at z;cases z
   ·rw[h]at z;cases z
  ·exact .inl ⟨o,h⟩
  ·exact .inr h
 exact⟨rfl,[],[],_,_,S',⟨rfl,dN,λn a o h=>by simp at h⟩,.cons (.frz fz (tV ns)) .nil,h,λρ' H' v _ _ hv=>FZ hv⟩
section
variable {P:aj}{w:ah}{K:au}{mg:Str->bi}{base:aq}{f:ak}{fd:FuncData}{ps:ar}{k n:Nat}
def WC(h:n=ps.length):FnOk P w K mg base oU k f fd ps (pR K n λ_ _=>.no):=
 ⟨λ_ _ _ _ z=>z.1.trans h,λ_ _ _ _ _ _ _ _ _ _ _ _ _ z=>by obtain⟨_,_,_,_,_,_,_,_,e,_⟩:=z;cases e⟩
end
def Hf{P:ba->Prop}(h:∀a0,P [a0]):∀us:ba,us.length=1->P us
 | [_],_=>h _
def Cf{P:ba->Prop}(h:∀a0 a1,P [a0,a1]):∀us:ba,us.length=2->P us
 | [_,_],_=>h _ _
def Xj{n:Nat}{us:ba}(h:us.length=n+1):∃a t,us=a::t/\t.length=n:=by
 cases us with
 | nil=>simp at h
 | cons a t=>exact⟨a,t,rfl,by simpa using h⟩
def YO{P:ba->Prop}(h:∀a0 a1 a2,P [a0,a1,a2]):∀us:ba,us.length=3->P us:=λus e=>by
 obtain⟨a0,t0,rfl,e0⟩:=Xj e;obtain⟨a1,t1,rfl,e1⟩:=Xj e0;obtain⟨a2,t2,rfl,e2⟩:=Xj e1
 cases fO.mp e2
 exact h _ _ _
end Am
namespace Am
open PySem L2
section
variable {α β:Type}{a b:A}{S S1:jz}{τ:ae}{x:α}
@[simp]def R.oM {f:α->jz->R β}:(R.ok x S).bind f=f x S:=rfl
@[simp]def R.Lu {f:α->jz->R β}{c:Str}:(R.ex c S:R α).bind f=.ex c S:=rfl
@[simp]def R.k_ {f:α->jz->R β}:(R.ok x S).mU f=f x S:=rfl
@[simp]def RS.of_ok {f:α->jz->RS}:RS.of (R.ok x S) f=f x S:=rfl
@[simp]def RS.Wh {f:α->jz->RS}{c:Str}:RS.of (R.ex c S:R α) f=.ex c S:=rfl
@[simp]def ki {f:β->R α}{y:β}:opt (some y) f=f y:=rfl
@[simp]def KC {r:R α}:gd True r=r:=aK trivial
theorem mF{c:Prop}[Decidable c]{r:R α}(h:c):gd c r=r:=aK h
@[simp]def Kf {i:Nat}:jt i τ S=bif (τ.getD i .unb).rC then .no else .ok (τ.getD i .unb) S:=by unfold jt;cases(τ.getD i .unb).rC<;>rfl
@[simp]def Jt {xs:ae}:A.rC (.tup xs)=false:=rfl
@[simp]def Ky {xs:ae}:A.rC (.frz xs)=false:=rfl
@[simp]def Jr {i:Int}:A.rC (.int i)=false:=rfl
@[simp]def P7 {i:Bool}:A.rC (.bl i)=false:=rfl
@[simp]def Kq {i:Str}:A.rC (.str i)=false:=rfl
@[simp]def Lz {i:Nat}:A.rC (.ref i)=false:=rfl
@[simp]def J8:A.rC .non=false:=rfl
@[simp]def Jo {i j:Int}:A.rC (.rng i j)=false:=rfl
@[simp]def JI {c:Str}:A.rC (.exn c)=false:=rfl
@[simp]def VN:eC a τ S=.ok a S:=rfl
abbrev Y6 (f:A->A->jz->R A)(cb:Ex)(τ:ae)(a:A)(S:jz):R A:=(cb τ S).bind (f a)
@[simp]def JW {f:A->A->jz->R A}{cb:Ex}:Y6 f cb τ a S=(cb τ S).bind (f a):=rfl
@[simp]def JJ {f:A->A->jz->R A}{ca cb:Ex}:jA f ca cb τ S=(ca τ S).bind (Y6 f cb τ):=rfl
@[simp]def QG {f:A->jz->R A}{ca:Ex}:Mq f ca τ S=(ca τ S).bind f:=rfl
@[simp]def J4 {c:Ex}:uf c τ S=(c τ S).bind λa S1=>opt (a.Ws S1) λb=>.ok b S1:=rfl
abbrev aB (a:A)(S:jz):R Bool:=match a with
 | .bl b=>.ok b S
 | _=>.no
@[simp]def V1 {b:Bool}:aB (.bl b) S=.ok b S:=rfl
@[simp]def Rw {c:Ex}:uG c τ S=(c τ S).bind aB:=rfl
@[simp]def KJ {c:Te}:zE c τ S=(c τ S).bind λb S1=>.ok (!b) S1:=rfl
abbrev Wm (d:Te)(τ:ae)(b:Bool)(S:jz):R Bool:=match b with|true=>d τ S|false=>.ok false S
abbrev kOr (d:Te)(τ:ae)(b:Bool)(S:jz):R Bool:=match b with|true=>.ok true S|false=>d τ S
@[simp]def Pw {d:Te}:Wm d τ true S=d τ S:=rfl
@[simp]def NY {d:Te}:Wm d τ false S=.ok false S:=rfl
@[simp]def Vz {d:Te}:kOr d τ true S=.ok true S:=rfl
@[simp]def VG {d:Te}:kOr d τ false S=d τ S:=rfl
@[simp]def JV {c d:Te}:TU c d τ S=(c τ S).bind (Wm d τ):=rfl
@[simp]def Nu {c d:Te}:MX c d τ S=(c τ S).bind (kOr d τ):=rfl
@[simp]def Kw:oV τ S=.ok true S:=rfl
abbrev OH (d:Ex)(τ:ae)(a:A)(S:jz):R A:=match a with | .bl true=>d τ S | .bl false=>.ok (.bl false) S|_=>.no
abbrev YE (d:Ex)(τ:ae)(a:A)(S:jz):R A:=match a with | .bl true=>.ok (.bl true) S | .bl false=>d τ S|_=>.no
@[simp]def JY {d:Ex}:OH d τ (.bl true) S=d τ S:=rfl
@[simp]def Ly {d:Ex}:OH d τ (.bl false) S=.ok (.bl false) S:=rfl
@[simp]def QU {d:Ex}:YE d τ (.bl true) S=.ok (.bl true) S:=rfl
@[simp]def Nz {d:Ex}:YE d τ (.bl false) S=d τ S:=rfl
@[simp]def Ls {c d:Ex}:NL c d τ S=(c τ S).bind (OH d τ):=by
 unfold NL
 cases c τ S with
 | ok a S1=>cases a<;>first|rfl|(rename_i b;cases b<;>rfl)
 | _=>rfl
@[simp]def M5 {c d:Ex}:eOr c d τ S=(c τ S).bind (YE d τ):=by
 unfold eOr
 cases c τ S with
 | ok a S1=>cases a<;>first|rfl|(rename_i b;cases b<;>rfl)
 | _=>rfl
abbrev VY (a:A)(S:jz):R A:=match a with | .bl b=>.ok (.bl !b) S|_=>.no
@[simp]def GW {b:Bool}:VY (.bl b) S=.ok (.bl !b) S:=rfl
@[simp]def Kz {c:Ex}:X_ c τ S=(c τ S).bind VY:=rfl
abbrev YL (c d:Ex)(τ:ae)(b:Bool)(S:jz):R A:=match b with|true=>c τ S|false=>d τ S
@[simp]def Qw {c d:Ex}:YL c d τ true S=c τ S:=rfl
@[simp]def Nj {c d:Ex}:YL c d τ false S=d τ S:=rfl
@[simp]def Pg {t:Te}{c d:Ex}:eIf t c d τ S=(t τ S).bind (YL c d τ):=rfl
@[simp]def JA:jy τ S=.ok [] S:=rfl
abbrev HE (a:A)(as:ae)(S:jz):R (ae):=.ok (a::as) S
abbrev Vh (d:sP)(τ:ae)(a:A)(S:jz):R (ae):=(d τ S).bind (HE a)
@[simp]def C9 {as:ae}:HE a as S=.ok (a::as) S:=rfl
@[simp]def GN {d:sP}:Vh d τ a S=(d τ S).bind (HE a):=rfl
@[simp]def F8 {c:Ex}{d:sP}:jo c d τ S=(c τ S).bind (Vh d τ):=rfl
@[simp]def KL {d:sP}:kO d τ S=(d τ S).bind λas S1=>gd (as.length<=sizeLine) (.ok (.tup as) S1):=rfl
@[simp]def Lp {d:sP}:mQ d τ S=(d τ S).bind newL:=rfl
theorem j7{as:ae}(h:as.length<=16777216):newL as S=.ok (.ref S.length) (S++[.lst as]):=mF (by rw[eG];exact h)
@[simp]def Gg {f:ae->jz->R A}{d:sP}:jR f d τ S=(d τ S).bind f:=rfl
abbrev okR (r:R A):R A:=match r with
 | .ok a S=>.ok a S
 | _=>.no
@[simp]def OF:okR (.ok a S)=.ok a S:=rfl
abbrev kFn (f:ae->jz->R A)(as:ae)(S:jz):R A:=okR (f as S)
@[simp]def M7 {f:ae->jz->R A}{as:ae}:kFn f as S=okR (f as S):=rfl
@[simp]def Qy {f:ae->jz->R A}{d:sP}:eFn f d τ S=(d τ S).bind (kFn f):=rfl
@[simp]def VB {g:A->jz->R A}:f1 g [a] S=g a S:=rfl
@[simp]def VV {g:A->A->jz->R A}:f2 g [a,b] S=g a b S:=rfl
abbrev Xf (h:Pt)(τ:ae)(a:A)(l:bj)(S:jz):R A:=(h τ S).bind (Mz a l)
abbrev kSl (l h:Pt)(τ:ae)(a:A)(S:jz):R A:=(l τ S).bind (Xf h τ a)
@[simp]def KU {h:Pt}{l:bj}:Xf h τ a l S=(h τ S).bind (Mz a l):=rfl
@[simp]def OJ {l h:Pt}:kSl l h τ a S=(l τ S).bind (Xf h τ a):=rfl
@[simp]def QN {c:Ex}{l h:Pt}:YU c l h τ S=(c τ S).bind (kSl l h τ):=rfl
@[simp]def GQ:Dg τ S=.ok none S:=rfl
abbrev aPt (a:A)(S:jz):R (bj):=match a with
 | .int i=>.ok (some i) S
 | _=>.no
@[simp]def J6 {i:Int}:aPt (.int i) S=.ok (some i) S:=rfl
@[simp]def Ge {c:Ex}:C4 c τ S=(c τ S).bind aPt:=rfl
abbrev YM (f:A->ae->jz->R A)(d:sP)(τ:ae)(o:A)(S:jz)(_:ae):R A:=(d τ S).bind (f o)
abbrev kMe (f:A->ae->jz->R A)(d:sP)(τ:ae)(o:A)(S:jz):R A:=opt (o.lst? S) (YM f d τ o S)
@[simp]def K5 {f:A->ae->jz->R A}{d:sP}{xs:ae}:YM f d τ a S xs=(d τ S).bind (f a):=rfl
@[simp]def Q4 {f:A->ae->jz->R A}{d:sP}:kMe f d τ a S=opt (a.lst? S) (YM f d τ a S):=rfl
@[simp]def RU {f:A->ae->jz->R A}{c:Ex}{d:sP}:V7 f c d τ S=(c τ S).bind (kMe f d τ):=rfl
@[simp]def Jg {f:A->ae->jz->R A}{c:Ex}:abg f c τ S=(c τ S).bind λo S1=>opt (o.lst? S1) λ_=>f o [] S1:=rfl
@[simp]def lst?_ref {n:Nat}:A.lst? S (.ref n)=ju S n:=rfl
abbrev RS.seq (r:RS)(d:Sm):RS:=match r with
 | .nx τ S=>d τ S
 | r=>r
@[simp]def RS.QD {d:Sm}:RS.seq (.nx τ S) d=d τ S:=rfl
@[simp]def RS.Pj {d:Sm}:RS.seq (.rt a S) d=.rt a S:=rfl
@[simp]def RS.NJ {d:Sm}{c:Str}:RS.seq (.ex c S) d=.ex c S:=rfl
@[simp]def RS.PY {d:Sm}:RS.seq (.bk τ S) d=.bk τ S:=rfl
@[simp]def RS.QK {d:Sm}:RS.seq (.ct τ S) d=.ct τ S:=rfl
@[simp]def KA {c d:Sm}:jU c d τ S=RS.seq (c τ S) d:=by unfold jU RS.seq;cases c τ S<;>rfl
@[simp]def Lv:pN τ S=.nx τ S:=rfl
@[simp]def CK:XZ τ S=.bk τ S:=rfl
@[simp]def FU:Zh τ S=.ct τ S:=rfl
@[simp]def Fv {e:Ex}:oW e τ S=RS.of (e τ S) λ_ S1=>.nx τ S1:=rfl
@[simp]def Lo {e:Ex}:kF e τ S=RS.of (e τ S) .rt:=rfl
@[simp]def GV:Zs τ S=.rt .non S:=rfl
abbrev kIf (c d:Sm)(τ:ae)(b:Bool)(S:jz):RS:=match b with|true=>c τ S|false=>d τ S
@[simp]def VA {c d:Sm}:kIf c d τ true S=c τ S:=rfl
@[simp]def VC {c d:Sm}:kIf c d τ false S=d τ S:=rfl
@[simp]def Om {t:Te}{c d:Sm}:zH t c d τ S=RS.of (t τ S) (kIf c d τ):=rfl
abbrev ZS (g:Tg)(τ:ae)(a:A)(S:jz):RS:=RS.of (g a τ S) .nx
@[simp]def JS {g:Tg}:ZS g τ a S=RS.of (g a τ S) .nx:=rfl
@[simp]def Kx {e:Ex}{g:Tg}:j5 e g τ S=RS.of (e τ S) (ZS g τ):=rfl
@[simp]def OL {i:Nat}:j4 i a τ S=.ok (τ.set i a) S:=rfl
abbrev XC (a o:A)(τ:ae)(i:A)(S:jz):R (ae):=(E_ o i a S).bind λ_ S3=>.ok τ S3
abbrev kSb (ci:Ex)(τ:ae)(a o:A)(S:jz):R (ae):=(ci τ S).bind (XC a o τ)
@[simp]def Kc {o i:A}:XC a o τ i S=(E_ o i a S).bind λ_ S3=>.ok τ S3:=rfl
@[simp]def Ra {ci:Ex}{o:A}:kSb ci τ a o S=(ci τ S).bind (XC a o τ):=rfl
@[simp]def OQ {co ci:Ex}:Wt co ci a τ S=(co τ S).bind (kSb ci τ a):=rfl
@[simp]def Oe {n:Nat}{gs:Sd}{xs:ae}:xm n gs (.tup xs) τ S=gd (xs.length=n) (gs xs τ S):=rfl
@[simp]def Ry:wV [] τ S=.ok τ S:=rfl
@[simp]def O3 {g:Tg}{gs:Sd}{as:ae}:ow g gs (a::as) τ S=(g a τ S).bind (gs as):=rfl
abbrev sPr (i j:Nat)(τ:ae)(as:ae)(S:jz):RS:=match as with
 | [a,b]=>.nx ((τ.set i a).set j b) S
 | _=>.no
@[simp]def Oq {i j:Nat}:sPr i j τ [a,b] S=.nx ((τ.set i a).set j b) S:=rfl
@[simp]def JU {i j:Nat}{c:sP}:abJ i j c τ S=RS.of (c τ S) (sPr i j τ):=rfl
abbrev NR (i:Nat)(τ:ae)(c:A)(S:jz):RS:=.nx (τ.set i c) S
abbrev Z3 (i:Nat)(f:A->A->jz->R A)(τ:ae)(b:A)(S:jz):RS:=.of (f (τ.getD i .unb) b S) (NR i τ)
@[simp]def Gq {i:Nat}:NR i τ a S=.nx (τ.set i a) S:=rfl
@[simp]def Lg {i:Nat}{f:A->A->jz->R A}:Z3 i f τ a S=.of (f (τ.getD i .unb) a S) (NR i τ):=rfl
@[simp]def JZ {i:Nat}{f:A->A->jz->R A}{e:Ex}:Zx i f e τ S=bif (τ.getD i .unb).rC then .no else .of (e τ S) (Z3 i f τ):=by
 unfold Zx;cases(τ.getD i .unb).rC<;>rfl
abbrev kS5 (o i:A)(τ:ae)(z:A)(S:jz):RS:=.of (E_ o i z S) λ_ S6=>.nx τ S6
abbrev kS4 (f:A->A->jz->R A)(o i x:A)(τ:ae)(y:A)(S:jz):RS:=.of (f x y S) (kS5 o i τ)
abbrev kS3 (ce:Ex)(f:A->A->jz->R A)(o i:A)(τ:ae)(x:A)(S:jz):RS:=.of (ce τ S) (kS4 f o i x τ)
abbrev kS2 (ce:Ex)(f:A->A->jz->R A)(o:A)(τ:ae)(i:A)(S:jz):RS:=.of (U9 o i S) (kS3 ce f o i τ)
abbrev kS1 (ci ce:Ex)(f:A->A->jz->R A)(τ:ae)(o:A)(S:jz):RS:=.of (ci τ S) (kS2 ce f o τ)
@[simp]def Q3 {o i:A}:kS5 o i τ a S=.of (E_ o i a S) λ_ S6=>.nx τ S6:=rfl
@[simp]def NH {f:A->A->jz->R A}{o i x:A}:kS4 f o i x τ a S=.of (f x a S) (kS5 o i τ):=rfl
@[simp]def NP {ce:Ex}{f:A->A->jz->R A}{o i:A}:kS3 ce f o i τ a S=.of (ce τ S) (kS4 f o i a τ):=rfl
@[simp]def Pb {ce:Ex}{f:A->A->jz->R A}{o:A}:kS2 ce f o τ a S=.of (U9 o a S) (kS3 ce f o a τ):=rfl
@[simp]def NO {ci ce:Ex}{f:A->A->jz->R A}:kS1 ci ce f τ a S=.of (ci τ S) (kS2 ce f a τ):=rfl
@[simp]def FJ {co ci ce:Ex}{f:A->A->jz->R A}:ZV co ci ce f τ S=RS.of (co τ S) (kS1 ci ce f τ):=rfl
abbrev RS.end (r:RS):R A:=match r with
 | .rt a S'=>.ok a S'
 | .nx _ S'=>.ok .non S'
 | .ex c S'=>.ex c S'
 | _=>.no
@[simp]def RS.NX:RS.end (.rt a S)=.ok a S:=rfl
@[simp]def RS.QC:RS.end (.nx τ S)=.ok .non S:=rfl
@[simp]def RS.N6 {c:Str}:RS.end (.ex c S)=.ex c S:=rfl
theorem AK {N:ar}{m:Sm}{as:ae}:kQ N m as S=RS.end (m (as++List.replicate (N.length-as.length) .unb) S):=by
 unfold kQ RS.end;cases m (as++List.replicate (N.length-as.length) .unb) S<;>rfl
@[simp]def Q5 {i j:Int}:kj (.int i) (.int j) S=.ok (.int (i+j)) S:=rfl
@[simp]def RM {i j:Int}:aSub (.int i) (.int j) S=.ok (.int (i-j)) S:=rfl
@[simp]def QL {i j:Int}:abB (.int i) (.int j) S=.ok (.int (i+j)) S:=rfl
theorem Ow{i j:Int}(h:-18446744073709551616<i)(h':i<18446744073709551616):Ew (.int i) (.int j) S=.ok (.int (i * j)) S:=mF (by unfold Je;simp;left;exact⟨by omega,by omega⟩)
def Nf{i j:Int}(h:0<j)(h':j<1073741824):I_ (.int i) (.int j) S=.ok (.int (i / j)) S:=mF ⟨h,()⟩
def Fg{i j:Int}(h:0<j):Er (.int i) (.int j) S=.ok (.int (i % j)) S:=mF h
@[simp]def V2 {i j:Int}:Wz (.int i) (.int j) S=.ok (.bl (decide (i<j))) S:=rfl
@[simp]def Vf {i j:Int}:aLe (.int i) (.int j) S=.ok (.bl (decide (i<=j))) S:=rfl
@[simp]def Wj {i j:Int}:Hx (.int i) (.int j) S=.ok (.bl (decide (j<i))) S:=rfl
@[simp]def Wf {i j:Int}:ZX (.int i) (.int j) S=.ok (.bl (decide (j<=i))) S:=rfl
@[simp]def V3 {i j:Bool}:VL false (.bl i) (.bl j) S=.ok (.bl (i == j)) S:=rfl
@[simp]def Rv {i j:Bool}:VL true (.bl i) (.bl j) S=.ok (.bl (i != j)) S:=rfl
@[simp]def Rp {i:Int}:yN (.int i) S=.ok (.int (-i)) S:=rfl
@[simp]def PV {xs:ae}:nV (.tup xs) S=.ok (.int xs.length) S:=rfl
@[simp]def Rj {xs:ae}:nV (.frz xs) S=.ok (.int xs.length) S:=rfl
@[simp]def QW {n:Nat}:nV (.ref n) S=opt (ju S n) λxs=>.ok (.int xs.length) S:=rfl
@[simp]def RI {i:Int}:abM (.int i) S=.ok (.int (if i<0 then -i else i)) S:=rfl
@[simp]def J9 {i j:Int}:M3 (.int i) (.int j) S=.ok (.int (if j>i then j else i)) S:=rfl
@[simp]def KD {i j:Int}:N4 (.int i) (.int j) S=.ok (.int (if j<i then j else i)) S:=rfl
@[simp]def KW {i:Int}:J5 (.int i) S=.ok (.int i) S:=rfl
@[simp]def K_ {i:Bool}:J5 (.bl i) S=.ok (.int (if i then 1 else 0)) S:=rfl
@[simp]def CS {i j:Int}:DQ (.int i) (.int j) S=.ok (.rng i j) S:=rfl
@[simp]def Vt {xs:ae}{i:Int}:mJ (.tup xs) (.int i) S=opt (pP xs i) λx=>.ok x S:=rfl
@[simp]def Vx {xs:ae}{i:Int}:mJ (.frz xs) (.int i) S=opt (pP xs i) λx=>.ok x S:=rfl
@[simp]def Wg {n:Nat}{i:Int}:mJ (.ref n) (.int i) S=opt (ju S n) λxs=>opt (pP xs i) λx=>.ok x S:=rfl
@[simp]def Qh {n:Nat}{k:Int}:E_ (.ref n) (.int k) a S=opt (ju S n) λxs=>opt (Cq xs.length k) λj=>.ok Unit.unit (S.set n (.lst (xs.set j a))):=rfl
@[simp]def PK {n:Nat}{i:Int}:U9 (.ref n) (.int i) S=opt (ju S n) λxs=>gd (0<=i) (opt (xs[i.toNat]?) λx=>.ok x S):=rfl
theorem Mb{i j:Int}(h:De i j):wQ (.rng i j) S=.ok (.ref S.length) (S++[.lst ((j8 i j).map .int)]):=mF h
@[simp]def J3 {xs:ae}:wQ (.tup xs) S=.ok (.ref S.length) (S++[.lst xs]):=rfl
@[simp]def KS {xs:ae}:wQ (.frz xs) S=.ok (.ref S.length) (S++[.lst xs]):=rfl
@[simp]def Lx {n:Nat}:wQ (.ref n) S=opt (ju S n) λxs=>.ok (.ref S.length) (S++[.lst xs]):=rfl
@[simp]def GL {xs:ae}:vF (.tup xs) S=.ok (.tup xs) S:=rfl
@[simp]def G5 {n:Nat}:vF (.ref n) S=opt (ju S n) λxs=>.ok (.tup xs) S:=rfl
@[simp]def Oz {xs:ae}:aaF (.tup xs) S=.ok (.tup xs.reverse) S:=rfl
@[simp]def PN {n:Nat}:aaF (.ref n) S=opt (ju S n) λxs=>.ok (.ref S.length) (S++[.lst xs.reverse]):=rfl
@[simp]def Vm {n:Nat}{l u:bj}:Mz (.ref n) l u S=opt (ju S n) λxs=>.ok (.ref S.length) (S++[.lst (BC xs l u)]):=rfl
@[simp]def BA {n:Nat}:um (.ref n) [a] S=opt (ju S n) λxs=>gd (xs.length<sizeLine) (.ok .non (S.set n (.lst (xs++[a])))):=rfl
@[simp]def O2 {b:Bool}:A.Ws (.bl b) S=some b:=rfl
@[simp]def Jc {i:Int}:A.Ws (.int i) S=some (i != 0):=rfl
theorem IM{o:O}:(S++[o])[S.length]?=some o:=by simp
@[simp]def jI {xs:ae}:ju (S++[.lst xs]) S.length=some xs:=yh IM
theorem jX{o:O}{n:Nat}(h:ju S n=some xs):ju (S++[o]) n=some xs:=by
 have h':=jN h;exact yh (by rw[bI (aL.mp h').1];exact h')
def oE{n:Nat}(h:ju S n=some xs):n<S.length:=(aL.mp (jN h)).1
def pL{n:Nat}(h:n<S.length):ju (S.set n (.lst ys)) n=some ys:=yh (b_ h)
def nW{n:Nat}(h:n≠m):ju (S.set n (.lst ys)) m=ju S m:=by unfold ju;rw[cJ h]
def Cb{xs:ae}{i:Int}{k:Nat}{x:A}(h:i=k)(hx:xs[k]?=some x):pP xs i=some x:=by rw[h];exact TY hx
def BG{n:Nat}{i:Int}{k:Nat}(h:i=k)(hk:k<n):Cq n i=some k:=by
 subst h;unfold Cq;rw[aK (),aK ()];simp
end
structure Kp (b:Nat->Prop)(S S':jz):Prop where
 len:S.length<=S'.length
 obj:∀(n:Nat) (o:O),¬b n->S[n]?=some o->S'[n]?=some o
meta abbrev kY:=Kp λ_=>False
def Kp.lst{b:Nat->Prop}(h:Kp b S S')(n:Nat)(xs:ae)(hb:¬b n)(e:ju S n=some xs):ju S' n=some xs:=yh (h.obj n _ hb (jN e))
def Kp.dct{b:Nat->Prop}(h:Kp b S S')(n:Nat)(xs:List (ag×A))(hb:¬b n)(e:jV S n=some xs):jV S' n=some xs:=xT (h.obj n _ hb (oK e))
def Kp.refl{b:Nat->Prop}:Kp b S S:=⟨aR _,λ_ _ _ h=>h⟩
def Kp.trans{b:Nat->Prop}(h:Kp b S S1)(h':Kp b S1 S2):Kp b S S2:=⟨bJ h.len h'.len,λn xs hb e=>h'.obj n xs hb (h.obj n xs hb e)⟩
def DW{S:jz}{n:Nat}(e:S[n]?=some o):n<S.length:=(aL.mp e).1
def Kp.lay{b:Nat->Prop}{o:O}(h:Kp b S S1):Kp b S (S1++[o]):=⟨bJ h.len (by simp),λn xs hb e=>by
 have:=h.obj n xs hb e;rw[bI (DW this)];exact this⟩
def Kp.E2{b:Nat->Prop}{S S1:jz}(h:Kp b S S1)(hm:b m\/S.length<=m):Kp b S (S1.set m o):=⟨by rw[cE];exact h.len,λn xs hb e=>by
 have:m≠n:=λz=>by
  subst z
  rcases hm with z|z
  ·exact hb z
  ·exact absurd (DW e) ()
 rw[cJ this];exact h.obj n xs hb e⟩
def Kp.set{b:Nat->Prop}{S S1:jz}(h:Kp b S S1)(hm:b m\/S.length<=m):Kp b S (S1.set m (.lst ys)):=h.E2 hm
def Kp.mono{b c:Nat->Prop}{S:jz}(h:Kp b S S1)(hb:∀n,n<S.length->b n->c n):Kp c S S1:=⟨h.len,λn xs hc e=>h.obj n xs (λz=>hc (hb n (DW e) z)) e⟩
def Kp.of0{b:Nat->Prop}(h:kY S S1):Kp b S S1:=h.mono λ_ _ z=>z.elim
def Kp.old{b c:Nat->Prop}{S:jz}(h:Kp b S S1)(h':Kp c S1 S2)(hc:∀n,n<S.length->¬b n->¬c n):Kp b S S2:=⟨bJ h.len h'.len,λn xs hb e=>h'.obj n xs (hc n (DW e) hb) (h.obj n xs hb e)⟩
theorem yu{t:Te}{c:Sm}(Inv:ae->jz->Prop)(μ:ae->jz->Nat)(Post:RS->Prop)
  (h:∀τ S,Inv τ S->(∃S1,t τ S=.ok false S1/\Post (.nx τ S1))\/(∃S1,t τ S=.ok true S1/\((∃τ' S',c τ S1=.nx τ' S'/\Inv τ' S'/\μ τ' S'<μ τ S)\/(∃a S',c τ S1=.rt a S'/\Post (.rt a S'))))) :
  ∀n τ S,Inv τ S->μ τ S<n->Post (nY t c n τ S)
 | 0,_,_,_,hn=>absurd hn (fV _)
 | n+1,τ,S,hi,hn=>by
  unfold nY
  rcases h τ S hi with⟨S1,e,q⟩|⟨S1,e,⟨τ',S',e2,hi',hm⟩|⟨a,S',e2,q⟩⟩
  ·rw[e];exact q
  ·rw[e];show Post (match c τ S1 with
    | .nx τ' S'=>nY t c n τ' S'
    | .ct τ' S'=>nY t c n τ' S'
    | .bk τ' S'=>.nx τ' S'
    | r=>r)
   rw[e2];exact yu Inv μ Post h n τ' S' hi' ()
  ·rw[e];show Post (match c τ S1 with
    | .nx τ' S'=>nY t c n τ' S'
    | .ct τ' S'=>nY t c n τ' S'
    | .bk τ' S'=>.nx τ' S'
    | r=>r)
   rw[e2];exact q
theorem Bo{s:Src}{g:Tg}{c:Sm}(Inv:Nat->ae->jz->Prop)(Post:RS->Prop)
  (step:∀i τ S,i<s.k->Inv i τ S->∃x τ1 S1,s.get i S=some x/\g x τ S=.ok τ1 S1/\((∃τ' S',c τ1 S1=.nx τ' S'/\Inv (i+1) τ' S')\/(∃a S',c τ1 S1=.rt a S'/\Post (.rt a S'))))
  (fin:∀τ S,Inv s.k τ S->s.fin S=true/\Post (.nx τ S)):∀k i τ S,k+i=s.k->Inv i τ S->Post (rR s g c k i τ S)
 | 0,i,τ,S,hk,hi=>by
  have:i=s.k:=()
  subst this;obtain⟨hf,q⟩:=fin τ S hi;unfold rR;rw[aK hf];exact q
 | k+1,i,τ,S,hk,hi=>by
  obtain⟨x,τ1,S1,hx,hg,h⟩:=step i τ S () hi;unfold rR;rw[hx];show Post (RS.of (g x τ S) λτ1 S1=>match c τ1 S1 with
   | .nx τ' S'=>rR s g c k (i+1) τ' S'
   | .ct τ' S'=>rR s g c k (i+1) τ' S'
   | .bk τ' S'=>.nx τ' S'
   | r=>r)
  rw[hg];show Post (match c τ1 S1 with
   | .nx τ' S'=>rR s g c k (i+1) τ' S'
   | .ct τ' S'=>rR s g c k (i+1) τ' S'
   | .bk τ' S'=>.nx τ' S'
   | r=>r)
  rcases h with⟨τ',S',e,hi'⟩|⟨a,S',e,q⟩
  ·rw[e];exact Bo Inv Post step fin k (i+1) τ' S' () hi'
  ·rw[e];exact q
def Au{lo hi:Int}{c:Sm}{src:Ic}{τ:ae}(hs:src τ S=.ok (mL lo hi) S1)(Inv:Nat->ae->jz->Prop)(Post:RS->Prop)(h0:Inv 0 τ S1)
  (step:∀(i:Nat) τ S,(i:Int)<hi-lo->Inv i τ S->(∃τ' S',c (τ.set j (.int (lo+i))) S=.nx τ' S'/\Inv (i+1) τ' S')\/(∃a S',c (τ.set j (.int (lo+i))) S=.rt a S'/\Post (.rt a S')))
  (fin:∀τ S,Inv (hi-lo).toNat τ S->Post (.nx τ S)):Post (lC src (j4 j) c τ S):=by
 unfold lC;rw[hs];refine Bo (s:=mL lo hi) Inv Post (λi τ S hi' h=>?_) (λτ S h=>⟨rfl,fin τ S h⟩) _ 0 τ S1 rfl h0;have hi':i<(hi-lo).toNat:=hi';exact⟨.int (lo+i),_,S,aK hi',rfl,step i τ S () h⟩
def Jl{xs:ae}{g:Tg}{c:Sm}{src:Ic}(hs:src τ S=.ok (rz xs) S1)(Inv:Nat->ae->jz->Prop)(Post:RS->Prop)(h0:Inv 0 τ S1)
  (step:∀(i:Nat) x τ S,xs[i]?=some x->Inv i τ S->∃τ1 S1,g x τ S=.ok τ1 S1/\((∃τ' S',c τ1 S1=.nx τ' S'/\Inv (i+1) τ' S')\/(∃a S',c τ1 S1=.rt a S'/\Post (.rt a S'))))
  (fin:∀τ S,Inv xs.length τ S->Post (.nx τ S)):Post (lC src g c τ S):=by
 unfold lC;rw[hs];refine Bo (s:=rz xs) Inv Post (λi τ S hi' h=>?_) (λτ S h=>⟨rfl,fin τ S h⟩) _ 0 τ S1 rfl h0;have hi':i<xs.length:=hi';obtain⟨τ1,S1,e,q⟩:=step i xs[i] τ S (aF hi') h;exact⟨xs[i],τ1,S1,aF hi',e,q⟩
def Yc{xs:ae}{g:Tg}{c:Sm}{src:Ic}(hs:src τ S=.ok (Fq xs) S1)(Inv:Nat->ae->jz->Prop)(Post:RS->Prop)(h0:Inv 0 τ S1)
  (step:∀(i:Nat) x τ S,xs[i]?=some x->Inv i τ S->∃τ1 S1,g (.tup [.int i,x]) τ S=.ok τ1 S1/\((∃τ' S',c τ1 S1=.nx τ' S'/\Inv (i+1) τ' S')\/(∃a S',c τ1 S1=.rt a S'/\Post (.rt a S'))))
  (fin:∀τ S,Inv xs.length τ S->Post (.nx τ S)):Post (lC src g c τ S):=by
 unfold lC;rw[hs];refine Bo (s:=Fq xs) Inv Post (λi τ S hi' h=>?_) (λτ S h=>⟨rfl,fin τ S h⟩) _ 0 τ S1 rfl h0;have hi':i<xs.length:=hi';obtain⟨τ1,S1,e,q⟩:=step i xs[i] τ S (aF hi') h;exact⟨.tup [.int i,xs[i]],τ1,S1,by show(xs[i]?).map _=_;rw[aF hi'];rfl,e,q⟩
def pI{n:Nat}{xs:ae}{g:Tg}{c:Sm}{src:Ic}(hs:src τ S=.ok (kC n xs.length) S1)(Inv:Nat->ae->jz->Prop)(Post:RS->Prop)(h0:Inv 0 τ S1)(hl:∀i τ S,Inv i τ S->ju S n=some xs)
  (step:∀(i:Nat) x τ S,xs[i]?=some x->Inv i τ S->∃τ1 S1,g x τ S=.ok τ1 S1/\((∃τ' S',c τ1 S1=.nx τ' S'/\Inv (i+1) τ' S')\/(∃a S',c τ1 S1=.rt a S'/\Post (.rt a S'))))
  (fin:∀τ S,Inv xs.length τ S->Post (.nx τ S)):Post (lC src g c τ S):=by
 unfold lC;rw[hs];refine Bo (s:=kC n xs.length) Inv Post (λi τ S hi' h=>?_) (λτ S h=>⟨?_,fin τ S h⟩) _ 0 τ S1 rfl h0
 ·have hi':i<xs.length:=hi';obtain⟨τ1,S1,e,q⟩:=step i xs[i] τ S (aF hi') h;exact⟨xs[i],τ1,S1,by show(ju S n).bind _=_;rw[hl i τ S h];exact aF hi',e,q⟩
 ·show(match ju S n with
   | some ys=>decide (ys.length<=xs.length)
   | none=>false)=true
  rw[hl _ τ S h];exact bf (aR _)
@[simp]def tU {c:Ex}{τ:ae}{S S1:jz}{j:Int}(h:c τ S=.ok (.int j) S1)(hb:bnd j):t6 c τ S=.ok (mL 0 j) S1:=by
 unfold t6;rw[h];exact mF hb
def xV{c d:Ex}{i j:Int}(h:c τ S=.ok (.int i) S1)(h':d τ S1=.ok (.int j) S2)(hb:bnd i)(hb':bnd j):qt c d τ S=.ok (mL i j) S2:=by
 unfold qt;rw[h];show(d τ S1).bind _=_;rw[h'];exact mF ⟨hb,hb'⟩
def OE{c:Ex}(h:c τ S=.ok (.tup xs) S1):lg c τ S=.ok (rz xs) S1:=by unfold lg;rw[h];rfl
def lH{c:Ex}{n:Nat}{xs:ae}(h:c τ S=.ok (.ref n) S1)(hl:ju S1 n=some xs):lg c τ S=.ok (kC n xs.length) S1:=by
 unfold lg;rw[h];show opt (ju S1 n) _=_;rw[hl];rfl
def XY{c:Ex}(h:c τ S=.ok (.tup xs) S1):Tf c τ S=.ok (Fq xs) S1:=by unfold Tf;rw[h];rfl
theorem vZ{s:Src}{g:Tg}{t:Te}{e:Ex}{P:jz->Prop}{T:ae->Prop}(it:Nat->A)(p:Nat->Bool)(f:Nat->A)
  (hget:∀i S,i<s.k->P S->s.get i S=some (it i)) (hfin:∀S,P S->s.fin S=true)
  (step:∀i τ S,i<s.k->T τ->P S->∃τ1 S1 S2,g (it i) τ S=.ok τ1 S1/\t τ1 S1=.ok (p i) S2/\T τ1/\(p i=false->P S2)/\(p i=true->∃S3,e τ1 S2=.ok (f i) S3/\P S3)) :
  ∀k i τ S,k+i=s.k->T τ->P S->∃S',mW s g t e k i τ S=.ok (((List.range' i k).filter p).map f) S'/\P S'
 | 0,i,τ,S,hk,hT,hP=>⟨S,by unfold mW;rw[aK (hfin S hP)];rfl,hP⟩
 | k+1,i,τ,S,hk,hT,hP=>by
  obtain⟨τ1,S1,S2,hg,ht,hT1,hF,hTr⟩:=step i τ S (by omega) hT hP;unfold mW;rw[hget i S (by omega) hP,ki,hg,R.k_,ht,R.k_,gg,c9]
  cases hp:p i with
  | false=>
   obtain⟨S',h1,h2⟩:=vZ it p f hget hfin step k (i+1) τ1 S2 (by omega) hT1 (hF hp);exact⟨S',by simpa using h1,h2⟩
  | true=>
   obtain⟨S3,he,hP3⟩:=hTr hp;obtain⟨S',h1,h2⟩:=vZ it p f hget hfin step k (i+1) τ1 S3 (by omega) hT1 hP3;refine⟨S',?_,h2⟩
   skip
   rw[he,R.k_,h1];rfl
def yV{s:Src}{src:Ic}{t:Te}{e:Ex}{S1:jz}(hs:src τ S=.ok s S1)(it:Nat->A)(p:Nat->Bool)(f:Nat->A)(hget:∀i,i<s.k->s.get i S1=some (it i))(hfin:s.fin S1=true)
  (ht:∀i,i<s.k->t (it i::kN cap τ) S1=.ok (p i) S1) (he:∀i,i<s.k->p i=true->e (it i::kN cap τ) S1=.ok (f i) S1) (hl:s.k<=16777216) :
  j6 (none::cap) src (j4 0) t e τ S=.ok (.ref S1.length) (S1++[.lst (((List.range s.k).filter p).map f)]):=by
 unfold j6;rw[hs,R.oM];obtain⟨S',h1,h2⟩:=vZ (s:=s) (g:=j4 0) (t:=t) (e:=e) (P:=λS=>S=S1) (T:=λτ'=>∃y,τ'=y::kN cap τ) it p f (λi S hi h=>by subst h;exact hget i hi) (λS h=>by subst h;exact hfin)
  (λi τ' S hi ⟨y,hy⟩ h=>by
   subst h hy;exact⟨it i::kN cap τ,S,S,rfl,ht i hi,⟨_,rfl⟩,λ_=>rfl,λhp=>⟨S,he i hi hp,rfl⟩⟩) s.k 0 (kN (none::cap) τ) S1 rfl ⟨_,rfl⟩ rfl
 subst h2;rw[h1,R.k_,dc];refine j7 ?_;rw[aH];refine bJ (cN _ _) ?_;rw[List.length_range'];exact hl
def nh{α β:Type}(xs:List α)(p:α->Bool)(f:α->β):∀(d:α) ,(((List.range xs.length).filter λi=>p (xs.getD i d)).map λi=>f (xs.getD i d))=(xs.filter p).map f:=by
 intro d
 induction xs with
 | nil=>rfl
 | cons x xs ih=>
  rw[bq,gR,c9,c9];have e:((List.filter (λi=>p ((x::xs).getD i d)) (List.map Nat.succ (List.range xs.length))).map λi=>f ((x::xs).getD i d))=(xs.filter p).map f:=by
   rw[jd,bh];rw[<- ih];rfl
  show List.map _ (if p x=true then _ else _)=List.map f (if p x=true then _ else _);by_cases hp:p x=true
  ·rw[aK hp,aK hp,bB,bB,e];rfl
  ·rw[aJ hp,aJ hp,e]
def QT{xs:ae}{src:Ic}{t:Te}{e:Ex}{S1:jz}(hs:src τ S=.ok (rz xs) S1)(p:A->Bool)(f:A->A)
  (ht:∀x∈xs,t (x::kN cap τ) S1=.ok (p x) S1) (he:∀x∈xs,p x=true->e (x::kN cap τ) S1=.ok (f x) S1) (hl:xs.length<=16777216) :
  j6 (none::cap) src (j4 0) t e τ S=.ok (.ref S1.length) (S1++[.lst ((xs.filter p).map f)]):=by
 have hm:∀i,i<xs.length->xs.getD i .unb∈xs:=λi hi=>by
  rw[aI,aF hi];exact cI hi
 rw[yV hs (λi=>xs.getD i .unb) (λi=>p (xs.getD i .unb)) (λi=>f (xs.getD i .unb)) (λi hi=>by
  have hi:i<xs.length:=hi;show xs[i]?=_;rw[aI,aF hi];rfl) rfl (λi hi=>ht _ (hm i hi)) (λi hi=>he _ (hm i hi)) hl]
 have:=nh xs p f .unb;show R.ok _ (S1++[O.lst (((List.range xs.length).filter _).map _)])=_;rw[this]
def Q2{xs:ae}{src:Ic}{e:Ex}{S1:jz}(hs:src τ S=.ok (rz xs) S1)(f:A->A)
  (he:∀x∈xs,e (x::kN cap τ) S1=.ok (f x) S1) (hl:xs.length<=16777216) :
  j6 (none::cap) src (j4 0) oV e τ S=.ok (.ref S1.length) (S1++[.lst (xs.map f)]):=by
 rw[QT hs (λ_=>true) f (λ_ _=>rfl) (λx hx _=>he x hx) hl,fM.mpr (λ_ _=>rfl)]
def yE{lo hi:Int}{src:Ic}{t:Te}{e:Ex}{S1:jz}(hs:src τ S=.ok (mL lo hi) S1)(p:Int->Bool)(f:Int->A)
  (ht:∀k,lo<=k->k<hi->t (.int k::kN cap τ) S1=.ok (p k) S1) (he:∀k,lo<=k->k<hi->p k=true->e (.int k::kN cap τ) S1=.ok (f k) S1) (hl:(hi-lo).toNat<=16777216) :
  j6 (none::cap) src (j4 0) t e τ S=.ok (.ref S1.length) (S1++[.lst (((j8 lo hi).filter p).map f)]):=by
 rw[yV hs (λi=>.int (lo+i)) (λi=>p (lo+i)) (λi=>f (lo+i)) (λi hi'=>aK hi') rfl (λi hi'=>ht _ () (by have:i<(hi-lo).toNat:=hi';lia)) (λi hi'=>he _ () (by have:i<(hi-lo).toNat:=hi';lia)) hl];unfold j8;rw[jd,bh];rfl
@[simp]def Nv {cap:List (bp)}{τ:ae}:kN (none::cap) τ=.unb::kN cap τ:=rfl
@[simp]def N5 {cap:List (bp)}{τ:ae}{j:Nat}:kN (some j::cap) τ=τ.getD j .unb::kN cap τ:=rfl
@[simp]def Fj {τ:ae}:kN [] τ=[]:=rfl
theorem A0{x:A}:pP (x::xs) 0=some x:=Cb (k:=0) rfl rfl
def LC{x:A}:pP (x::y::xs) 1=some y:=Cb (k:=1) rfl rfl
def yi{ns:ag}{i:Int}{k:Nat}{x:Int}(h:i=k)(hx:ns[k]?=some x):pP (ns.map A.int) i=some (.int x):=Cb h (by rw[aO,hx];rfl)
def oB{j:Int}(h:-4611686018427387904<=j)(h':j<4611686018427387904):bnd j:=⟨(),()⟩
def Qs{i j:Int}(h1:-1000000<=i)(h2:i<=1000000)(h3:-1000000<=j)(h4:j<=1000000)(h5:j-i<=1000):De i j:=⟨⟨(),(),(),()⟩,()⟩
theorem ints_map:∀(ns:ag),A.ints (ns.map .int)=some ns
 | []=>rfl
 | n::ns=>by show(A.ints (ns.map .int)).map (n::·)=_;rw[ints_map ns];rfl
theorem wz{n:Nat}:∀(xs ys:ag),su (uP S (n+1)) (xs.map .int) (ys.map .int)=some (decide (xs=ys))
 | [],[]=>rfl
 | [],_::_=>rfl
 | _::_,[]=>rfl
 | x::xs,y::ys=>by
  skip
  skip
  show Option.map _ (su (uP S (n+1)) (xs.map .int) (ys.map .int))=_;rw[wz xs ys]
  skip
  by_cases h1:x=y<;>by_cases h2:xs=ys<;>simp[h1,h2]
@[simp]def Vq {S:jz}{x y:Bool}:t8 false (.bl x) (.bl y) S=.ok (.bl (x == y)) S:=rfl
@[simp]def VI {S:jz}{x y:Bool}:t8 true (.bl x) (.bl y) S=.ok (.bl (!(x == y))) S:=rfl
@[simp]def V4 {S:jz}{x y:Int}:t8 false (.int x) (.int y) S=.ok (.bl (x == y)) S:=rfl
@[simp]def V8 {S:jz}{x y:Int}:t8 true (.int x) (.int y) S=.ok (.bl (!(x == y))) S:=rfl
@[simp]def K9 {S:jz}:VL false .non .non S=.ok (.bl true) S:=rfl
@[simp]def Kr {S:jz}{xs:ae}:VL false (.tup xs) .non S=.ok (.bl false) S:=rfl
@[simp]def J7 {S:jz}{n:Nat}:VL false (.ref n) .non S=.ok (.bl false) S:=rfl
@[simp]def Fe {S:jz}:VL true .non .non S=.ok (.bl false) S:=rfl
@[simp]def E7 {S:jz}{xs:ae}:VL true (.tup xs) .non S=.ok (.bl true) S:=rfl
@[simp]def Ga {S:jz}{n:Nat}:VL true (.ref n) .non S=.ok (.bl true) S:=rfl
@[simp]def Lk {S:jz}{x:A}{c:String}:BB x (.ty c) S=opt (x.kd S) λk=>opt (zV k c) λb=>.ok (.bl b) S:=rfl
@[simp]def VO {S:jz}{b:Bool}:A.kd (.bl b) S=some .bl:=rfl
@[simp]def ND {S:jz}{b:Int}:A.kd (.int b) S=some .int:=rfl
@[simp]def PR {S:jz}{b:ae}:A.kd (.tup b) S=some .tup:=rfl
@[simp]def Og {S:jz}:A.kd .non S=some .non:=rfl
@[simp]def RP {S:jz}{b:Str}:A.kd (.str b) S=some .str:=rfl
@[simp]def Nq {S:jz}{n:Nat}:A.kd (.ref n) S=(ju S n).map λ_=>.lst:=rfl
@[simp]def N_ {S:jz}:newL [] S=.ok (.ref S.length) (S++[.lst []]):=j7 (by simp)
@[simp]def N3 {S:jz}{x0:A}:newL [x0] S=.ok (.ref S.length) (S++[.lst [x0]]):=j7 (by simp)
@[simp]def OD {S:jz}{x0 x1:A}:newL [x0,x1] S=.ok (.ref S.length) (S++[.lst [x0,x1]]):=j7 (by simp)
@[simp]def QO {S:jz}{x0 x1 x2:A}:newL [x0,x1,x2] S=.ok (.ref S.length) (S++[.lst [x0,x1,x2]]):=j7 (by simp)
@[simp]def RY {S:jz}{x0 x1 x2 x3:A}:newL [x0,x1,x2,x3] S=.ok (.ref S.length) (S++[.lst [x0,x1,x2,x3]]):=j7 (by simp)
@[simp]def OG {S:jz}{x0 x1 x2 x3 x4:A}:newL [x0,x1,x2,x3,x4] S=.ok (.ref S.length) (S++[.lst [x0,x1,x2,x3,x4]]):=j7 (by simp)
@[simp]def Nt {S:jz}{x0 x1 x2 x3 x4 x5:A}:newL [x0,x1,x2,x3,x4,x5] S=.ok (.ref S.length) (S++[.lst [x0,x1,x2,x3,x4,x5]]):=j7 (by simp)
@[simp]def Rk {S:jz}{x0 x1 x2 x3 x4 x5 x6:A}:newL [x0,x1,x2,x3,x4,x5,x6] S=.ok (.ref S.length) (S++[.lst [x0,x1,x2,x3,x4,x5,x6]]):=j7 (by simp)
@[simp]def Qm {S:jz}{x0 x1 x2 x3 x4 x5 x6 x7:A}:newL [x0,x1,x2,x3,x4,x5,x6,x7] S=.ok (.ref S.length) (S++[.lst [x0,x1,x2,x3,x4,x5,x6,x7]]):=j7 (by simp)
@[simp]def Ol {S:jz}{x0 x1 x2 x3 x4 x5 x6 x7 x8:A}:newL [x0,x1,x2,x3,x4,x5,x6,x7,x8] S=.ok (.ref S.length) (S++[.lst [x0,x1,x2,x3,x4,x5,x6,x7,x8]]):=j7 (by simp)
@[simp]def JE {S:jz}{x0 x1 x2 x3 x4 x5 x6 x7 x8 x9:A}:newL [x0,x1,x2,x3,x4,x5,x6,x7,x8,x9] S=.ok (.ref S.length) (S++[.lst [x0,x1,x2,x3,x4,x5,x6,x7,x8,x9]]):=j7 (by simp)
theorem mV{α:Type}{n:Nat}{r:R α}(h:n<=16777216):gd (n<=sizeLine) r=r:=mF (by rw[eG];exact h)
def wO{α:Type}{n:Nat}{r:R α}(h:n<16777216):gd (n<sizeLine) r=r:=mF (by rw[eG];exact h)
def Vp {x:A}{xs:ae}:(x::xs).getD 0 .unb=x:=rfl
def Vi {x:A}{xs:ae}{n:Nat}:(x::xs).getD (n+1) .unb=xs.getD n .unb:=rfl
def Zb {x y:A}{xs:ae}:(x::xs).set 0 y=y::xs:=rfl
def sets {x y:A}{xs:ae}{n:Nat}:(x::xs).set (n+1) y=x::xs.set n y:=rfl
def rep0 {x:A}:List.replicate 0 x=[]:=rfl
def reps {x:A}{n:Nat}:List.replicate (n+1) x=x::List.replicate n x:=rfl
def aar {x:A}{xs ys:ae}:(x::xs)++ys=x::(xs++ys):=rfl
def Z9 {ys:ae}:[]++ys=ys:=rfl
def VQ{S:jz}{n:Nat}{xs ys:ae}(h:ju S n=some xs)(h':ju S m=some ys)(hl:xs.length+ys.length<=16777216):kj (.ref n) (.ref m) S=.ok (.ref S.length) (S++[.lst (xs++ys)]):=by
 show opt (ju S n) _=_;rw[h,ki,h',ki];exact mF (by rw[eG];exact hl)
def jT:type_of% (anI @R.oM (anI @R.Lu (anI @R.k_ (anI @RS.of_ok (anI @RS.Wh (anI @ki (anI @KC (anI @Kf (anI @Jt (anI @Ky (anI @Jr (anI @P7 (anI @Kq (anI @Lz (anI @J8 (anI @Jo (anI @JI (anI @VN (anI @JJ (anI @QG (anI @J4 (anI @V1 (anI @Rw (anI @KJ (anI @JV (anI @Nu (anI @Kw (anI @JY (anI @Ly (anI @QU (anI @Nz (anI @Ls (anI @M5 (anI @GW (anI @Kz (anI @Pg (anI @JA (anI @F8 (anI @KL (anI @Lp (anI @Gg (anI @OF (anI @Qy (anI @VB (anI @VV (anI @QN (anI @GQ (anI @J6 (anI @Ge (anI @RU (anI @Jg (anI @lst?_ref (anI @RS.QD (anI @RS.Pj (anI @RS.NJ (anI @RS.PY (anI @RS.QK (anI @KA (anI @Lv (anI @CK (anI @FU (anI @Fv (anI @Lo (anI @GV (anI @Om (anI @Kx (anI @OL (anI @OQ (anI @Oe (anI @Ry (anI @O3 (anI @Oq (anI @JU (anI @JZ (anI @FJ (anI @RS.NX (anI @RS.QC (anI @RS.N6 (anI @Q5 (anI @RM (anI @QL (anI @V2 (anI @Vf (anI @Wj (anI @Wf (anI @V3 (anI @Rv (anI @Rp (anI @PV (anI @Rj (anI @QW (anI @RI (anI @J9 (anI @KD (anI @KW (anI @K_ (anI @CS (anI @Vt (anI @Vx (anI @Wg (anI @Qh (anI @PK (anI @J3 (anI @KS (anI @Lx (anI @GL (anI @G5 (anI @Oz (anI @PN (anI @Vm (anI @BA (anI @O2 (anI @Jc (anI @jI (anI @Nv (anI @N5 (anI @Fj (anI @Vq (anI @VI (anI @V4 (anI @V8 (anI @K9 (anI @Kr (anI @J7 (anI @Fe (anI @E7 (anI @Ga (anI @Lk (anI @VO (anI @ND (anI @PR (anI @Og (anI @RP (anI @Nq (anI @N_ (anI @N3 (anI @OD (anI @QO (anI @RY (anI @OG (anI @Nt (anI @Rk (anI @Qm (anI @Ol (anI @JE (anI @Vp (anI @Vi (anI @Zb (anI @sets (anI @rep0 (anI @reps (anI @aar (anI @Z9 (anI @AK (anI @JW (anI @Pw (anI @NY (anI @Vz (anI @VG (anI @Qw (anI @Nj (anI @C9 (anI @GN (anI @M7 (anI @KU (anI @OJ (anI @K5 (anI @Q4 (anI @VA (anI @VC (anI @JS (anI @Kc (anI @Ra (anI @Gq (anI @Lg (anI @NO (anI @Pb (anI @NP (anI @NH (@Q3)))))))))))))))))))))))))))))))))))))))))))))))))))))))))))))))))))))))))))))))))))))))))))))))))))))))))))))))))))))))))))))))))))))))))))))))))))))))))))))))))))))))))))))))))))):=anI @R.oM (anI @R.Lu (anI @R.k_ (anI @RS.of_ok (anI @RS.Wh (anI @ki (anI @KC (anI @Kf (anI @Jt (anI @Ky (anI @Jr (anI @P7 (anI @Kq (anI @Lz (anI @J8 (anI @Jo (anI @JI (anI @VN (anI @JJ (anI @QG (anI @J4 (anI @V1 (anI @Rw (anI @KJ (anI @JV (anI @Nu (anI @Kw (anI @JY (anI @Ly (anI @QU (anI @Nz (anI @Ls (anI @M5 (anI @GW (anI @Kz (anI @Pg (anI @JA (anI @F8 (anI @KL (anI @Lp (anI @Gg (anI @OF (anI @Qy (anI @VB (anI @VV (anI @QN (anI @GQ (anI @J6 (anI @Ge (anI @RU (anI @Jg (anI @lst?_ref (anI @RS.QD (anI @RS.Pj (anI @RS.NJ (anI @RS.PY (anI @RS.QK (anI @KA (anI @Lv (anI @CK (anI @FU (anI @Fv (anI @Lo (anI @GV (anI @Om (anI @Kx (anI @OL (anI @OQ (anI @Oe (anI @Ry (anI @O3 (anI @Oq (anI @JU (anI @JZ (anI @FJ (anI @RS.NX (anI @RS.QC (anI @RS.N6 (anI @Q5 (anI @RM (anI @QL (anI @V2 (anI @Vf (anI @Wj (anI @Wf (anI @V3 (anI @Rv (anI @Rp (anI @PV (anI @Rj (anI @QW (anI @RI (anI @J9 (anI @KD (anI @KW (anI @K_ (anI @CS (anI @Vt (anI @Vx (anI @Wg (anI @Qh (anI @PK (anI @J3 (anI @KS (anI @Lx (anI @GL (anI @G5 (anI @Oz (anI @PN (anI @Vm (anI @BA (anI @O2 (anI @Jc (anI @jI (anI @Nv (anI @N5 (anI @Fj (anI @Vq (anI @VI (anI @V4 (anI @V8 (anI @K9 (anI @Kr (anI @J7 (anI @Fe (anI @E7 (anI @Ga (anI @Lk (anI @VO (anI @ND (anI @PR (anI @Og (anI @RP (anI @Nq (anI @N_ (anI @N3 (anI @OD (anI @QO (anI @RY (anI @OG (anI @Nt (anI @Rk (anI @Qm (anI @Ol (anI @JE (anI @Vp (anI @Vi (anI @Zb (anI @sets (anI @rep0 (anI @reps (anI @aar (anI @Z9 (anI @AK (anI @JW (anI @Pw (anI @NY (anI @Vz (anI @VG (anI @Qw (anI @Nj (anI @C9 (anI @GN (anI @M7 (anI @KU (anI @OJ (anI @K5 (anI @Q4 (anI @VA (anI @VC (anI @JS (anI @Kc (anI @Ra (anI @Gq (anI @Lg (anI @NO (anI @Pb (anI @NP (anI @NH (@Q3)))))))))))))))))))))))))))))))))))))))))))))))))))))))))))))))))))))))))))))))))))))))))))))))))))))))))))))))))))))))))))))))))))))))))))))))))))))))))))))))))))))))))))))))))))
def bools:(∀b:Bool,cond false b b=b)/\(∀(α:Type) (x y:α),cond false x y=y)/\(∀(α:Type) (x y:α),cond true x y=x):=⟨λ_=>rfl,λ_ _ _=>rfl,λ_ _ _=>rfl⟩
def lG:(∀(x:Str) (xs:ar),(x::xs).length=xs.length+1)/\([]:ar).length=0/\(∀(x:A) (xs:ae),(x::xs).length=xs.length+1)/\([]:ae).length=0:=⟨λ_ _=>rfl,rfl,λ_ _=>rfl,rfl⟩
section
variable {τ:ae}{S:jz}
def JK {f:ae->jz->R A}{d:sP}:abL f d τ S=(d τ S).bind f:=rfl
abbrev kRz (c:Str):Unit->jz->RS:=λ_ S1=>.ex c S1
def Ng {c:Str}{u:Unit}:kRz c u S=.ex c S:=rfl
def CP {c:Str}{ps:List (Str ⊕ Ex)}:Wr c ps τ S=RS.of (UJ ps τ S) (kRz c):=rfl
def La:UJ [] τ S=.ok Unit.unit S:=rfl
def Jd {x:Str}{ps:List (Str ⊕ Ex)}:UJ (.inl x::ps) τ S=UJ ps τ S:=rfl
abbrev kFs (ps:List (Str ⊕ Ex))(τ:ae):A->jz->R Unit:=λv S1=>match v with
 | .int i=>gd (i.natAbs.log2<64) (UJ ps τ S1)
 | _=>.no
def Ji {e:Ex}{ps:List (Str ⊕ Ex)}:UJ (.inr e::ps) τ S=(e τ S).bind (kFs ps τ):=rfl
abbrev RS.try (i n:Nat)(cs:ar)(d:Sm):RS->RS
 | .ex x S1=>if x∈cs then Vo i (d ((List.replicate n .unb).set i (.exn x)) S1)else .no
 | r=>r
def J0 {i n:Nat}{cs:ar}{c d:Sm}:ZR i n cs c d τ S=RS.try i n cs d (c τ S):=by
 unfold ZR RS.try;cases c τ S<;>rfl
def Rt {i n:Nat}{cs:ar}{d:Sm}:RS.try i n cs d (.nx τ S)=.nx τ S:=rfl
def NG {i n:Nat}{cs:ar}{d:Sm}{a:A}:RS.try i n cs d (.rt a S)=.rt a S:=rfl
def RN {i n:Nat}{x:Str}{cs:ar}{d:Sm}:RS.try i n (x::cs) d (.ex x S)=Vo i (d ((List.replicate n .unb).set i (.exn x)) S):=aK (.head _)
def Oa {i:Nat}{a:A}:Vo i (.rt a S)=.rt a S:=rfl
def P0 {i:Nat}:Vo i (.nx τ S)=.nx (τ.set i .unb) S:=rfl
abbrev aaD (f:Str->bn):A->jz->R A:=λv S1=>match v with
 | .exn x=>opt (f x) λb=>.ok (.bl b) S1
 | _=>.no
def KG {f:Str->bn}{c:Ex}:abN f c τ S=(c τ S).bind (aaD f):=rfl
def QI {x:Str}{b:Bool}{tb:List (Str×Bool)}:aaD (tbX ((x,b)::tb)) (.exn x) S=.ok (.bl b) S:=by
 show opt (List.lookup x ((x,b)::tb)) _=_;rw[gf,bO];rfl
abbrev R.O4 {α β:Type}(r:R α)(f:α->jz->R β):R β:=match r with
 | .ok a S=>f a S
 | _=>.no
def GU {α β:Type}{a:α}{f:α->jz->R β}:R.O4 (.ok a S) f=f a S:=rfl
def K4 {f:ae->jz->R A}{d:sP}:ZK f d τ S=R.O4 (d τ S) f:=by unfold ZK R.O4;cases d τ S<;>rfl
abbrev RS.ofK {α:Type}(r:R α)(f:α->jz->RS):RS:=match r with
 | .ok a S=>f a S
 | _=>.no
def Pz {α:Type}{a:α}{f:α->jz->RS}:RS.ofK (.ok a S) f=f a S:=rfl
def Jj {t:Te}{c d:Sm}:aah t c d τ S=RS.ofK (t τ S) (kIf c d τ):=by
 unfold aah RS.ofK
 cases t τ S with
 | ok b S1=>cases b<;>rfl
 | ex _ _=>rfl
 | no=>rfl
abbrev RS.MZ (i:Nat)(cs:ar)(d:Sm)(τ:ae):RS->RS
 | .ex x S1=>if x∈cs then Vo i (d (τ.set i (.exn x)) S1)else .no
 | r=>r
def Ff {i:Nat}{cs:ar}{c d:Sm}:V5 i cs c d τ S=RS.MZ i cs d τ (c τ S):=by
 unfold V5 RS.MZ;cases c τ S<;>rfl
def KO {i:Nat}{cs:ar}{d:Sm}{τ':ae}:RS.MZ i cs d τ (.nx τ' S)=.nx τ' S:=rfl
def Lm {i:Nat}{cs:ar}{d:Sm}{a:A}:RS.MZ i cs d τ (.rt a S)=.rt a S:=rfl
def Kv {i:Nat}{x:Str}{cs:ar}{d:Sm}:RS.MZ i (x::cs) d τ (.ex x S)=Vo i (d (τ.set i (.exn x)) S):=aK (.head _)
def G4:A.R_ []=some []:=rfl
def v_ {b:Bool}{xs:ae}:A.R_ (.bl b::xs)=(A.R_ xs).map (b::·):=rfl
end
def uS:type_of% (anI @JK (anI @CP (anI @Ng (anI @La (anI @Jd (anI @Ji (anI @J0 (anI @Rt (anI @NG (anI @RN (anI @Oa (anI @P0 (anI @KG (anI @QI (anI @G4 (anI @v_ (anI @GU (anI @K4 (anI @Pz (anI @Jj (anI @Ff (anI @KO (anI @Lm (anI @Kv (trivial))))))))))))))))))))))))):=anI @JK (anI @CP (anI @Ng (anI @La (anI @Jd (anI @Ji (anI @J0 (anI @Rt (anI @NG (anI @RN (anI @Oa (anI @P0 (anI @KG (anI @QI (anI @G4 (anI @v_ (anI @GU (anI @K4 (anI @Pz (anI @Jj (anI @Ff (anI @KO (anI @Lm (anI @Kv (trivial))))))))))))))))))))))))
end Am
namespace L2
open PySem PySem.Spec PyProof.Rows
section
variable {P:aj}{w:ah}{A:az}{E:af->aA->Prop}{s:aA}{it d:ak}{i ep:Nat}{es:Array DictEntry}{o:Obj}
def YQ{Q:bi->aA->Prop}(hi:s.heap.IsKeyIter it d i es.size ep)(ho:s.heap.get? d=some o)(hd:o.data=.dict es ep)(lt:i<es.size)
  (q:∀h',h'.IsKeyIter it d (i+1) es.size ep->Heap.SameBut it s.heap h'->Q (some es[i].key) { s with heap:=h' }):wpAny (model P w) A (pyNext (.ref it)) Q E s:=by
 have ty:=hi.typeIs;obtain⟨oi,hoi,hci,hdi⟩:=id hi;have own:Builtin.Dict_items.ownsTuple "dict_keyiterator" = false:=by decide
 have nn:¬((Value.ref d == Value.none)=true):=bE;have n0:¬((i:Int)<0):=by omega
 unfold pyNext;refine aG (wpAny_attempt (d8 (name:=Str.ofString "__next__") ty c5 (dG c5 ty gA ?_ (gu _))));refine aG (aP (aG (aG ?_)))
 first
  | refine aG (dY ty (aP (aG (iS hoi hdi ?_))))
  | refine aG (fD ty (aP (aG (iS hoi hdi ?_))))
 dsimp[own,cg,bA];show wpAny (model P w) _ (if (Value.ref d == Value.none)=true then _ else _) _ _ s;rw[aJ nn];refine aG (aP (aG (iW ho hd ?_)));rw[aJ (show ¬_ by simp)];refine aG (aP (aG (wpAny_dictEpoch ho hd ?_)));rw[aJ (show ¬_ by simp)];refine aP ?_;dsimp[n0,cg,dM,Array.getElem?_eq_getElem lt];refine aG ?_
 first
  | refine aG (dY ty (aP (aG (iz ty ?_))))
  | refine aG (fD ty (aP (aG (iz ty ?_))))
 show wpAny (model P w) _ (setField (.ref it) 1 (rawInt ((i:Int)+1)) >>= _) _ _ s;refine aG (iQ hoi hdi (show _ by simp) ?_);have hi':(s.heap.update it (Obj.mapFields λfs=>fs.setIfInBounds 1 (rawInt ((i:Int)+1)))).IsKeyIter it d (i+1) es.size ep:=
  ⟨_,iw _ hoi (Obj.isFreed_of_fields (gG hdi _)),(Obj.cls_mapFields ..).trans hci,by
   rw[gG hdi];simp[rawInt]⟩
 have ty':Shared.TypeIs { s with heap:=s.heap.update it (Obj.mapFields λfs=>fs.setIfInBounds 1 (rawInt ((i:Int)+1)))} (.ref it) "dict_keyiterator" := Heap.IsKeyIter.typeIs (s:={ s with heap:=_ }) hi';refine aG (dm (aG (iz ty' ?_)))
 skip
 exact aP (aP ⟨_,rfl,aP (q _ hi' (gr ..))⟩)
def SS{Q:bi->aA->Prop}(hh:A.handled=none)(hi:s.heap.IsKeyIter it d i es.size ep)(ho:s.heap.get? d=some o)(hd:o.data=.dict es ep)(ge:es.size<=i)
  (q:∀h',Heap.ExtBut it s.heap h'->Q none { s with heap:=h' }):wpAny (model P w) A (pyNext (.ref it)) Q E s:=by
 have ty:=hi.typeIs;obtain⟨oi,hoi,hci,hdi⟩:=id hi;have own:Builtin.Dict_items.ownsTuple "dict_keyiterator" = false:=by decide
 have nn:¬((Value.ref d == Value.none)=true):=bE;have n0:¬((i:Int)<0):=by omega
 unfold pyNext;refine aG (wpAny_attempt (d8 (name:=Str.ofString "__next__") ty c5 (dG c5 ty gA ?_ (gu _))));refine aG (aP (aG (aG ?_)))
 first
  | refine aG (dY ty (aP (aG (iS hoi hdi ?_))))
  | refine aG (fD ty (aP (aG (iS hoi hdi ?_))))
 dsimp[own,cg,bA];show wpAny (model P w) _ (if (Value.ref d == Value.none)=true then _ else _) _ _ s;rw[aJ nn];refine aG (aP (aG (iW ho hd ?_)));rw[aJ (show ¬_ by simp)];refine aG (aP (aG (wpAny_dictEpoch ho hd ?_)));rw[aJ (show ¬_ by simp)];refine aP ?_;dsimp[n0,cg,dM,h_ ge];refine aG ?_
 first
  | refine aG (dY ty (aP ?_))
  | refine aG (fD ty (aP ?_))
 show wpAny (model P w) _ (setField (.ref it) 0 .none >>= _) _ _ s;refine aG (iQ hoi hdi (show _ by simp) ?_)
 skip
 refine aG ?_;dsimp[newExc,newTuple];refine aG (cC (aG (m:=firstArgMember _ _) (wpAny_of_eq (a:=Value.none) (by first|rfl|(dsimp[firstArgMember];rfl)) (cC ?_ (by size_fits)))) (by size_fits));dsimp[raiseNew];have hn:A.in1.handled=none:=hh;refine aG (wpAny_handled (?_));rw[hn];refine aG (aP (wpAny_throw (?_)));refine aG (wpAny_isInstance (b:=true) (T := "StopIteration") ⟨_,bC _ rfl,rfl⟩ isSubtype_stop (aP (q _ (((gr ..).extBut.push _).push _))))
def Hv{Q:af->aA->Prop}(ty:s.TypeIs (.ref d) "dict")(hs:(d == sysModules)=false)(ho:s.heap.get? d=some o)(hd:o.data=.dict es ep)
  (q:Q (.ref s.heap.objs.size) { s with heap:=s.heap.push { cls:=.type "dict_keyiterator",data:=.fields #[.ref d,.int 0 0,.int es.size 0,.int ep 0]}}):wpAny (model P w) A (pyIter (.ref d)) Q E s:=by
 refine wpAny_pyIter_slot ty PySem.F.slot_dict_iter (dG PySem.F.slot_dict_iter ty PySem.F.entry_dict_iter ?_ (PySem.F.args_dict_iter_1 _));delta Builtin.«dict.__iter__»;refine aG ?_;delta Builtin.Dict.dictSlotNone;refine aG (wpAny_notOrdered_dict ty ?_)
 skip
 refine aP ?_;show wpAny (model P w) _ (Builtin.Dict.showsAll d >>= _) _ _ s;delta Builtin.Dict.showsAll;have nd:¬((d == sysModules)=true):=by rw[hs];exact bE
 rw[aJ nd];refine aG (aP (aG (iW ho hd (aG (wpAny_dictEpoch ho hd ?_)))));refine aG (cC (aP ⟨_,rfl, "dict_keyiterator",_,⟨_,bC _ rfl,rfl⟩,c5.lookup,?_⟩));simpa[rawInt]using q
end
section
variable {P:aj}{w:ah}
def MG{A:az}(hh:A.handled=none)(it d:ak)(ne:d≠it){es:Array DictEntry}{o:Obj}(hd:o.data=.dict es ep) :
  Walks P w A it [it,d] [it] es.size (λi v=>(es[i]?).map (λe=>e.key)=some v) (λi h=>h.IsKeyIter it d i es.size ep/\h.get? d=some o) where
 sub:=λb hb=>by
  rw[aS.mp hb];exact aM ..
 frame:=λ_ _ _ st hk=>⟨st.1.at λx e=>hk it (aM ..) x e,hk d (aN _ (aM ..)) o st.2⟩
 item:=λi s Q E lt st q=>YQ st.1 st.2 hd lt λh' k1 k2=>q _ h' s.toks (by rw[Array.getElem?_eq_getElem lt];rfl) ⟨k1,k2.extBut d o ne st.2⟩ λb x nb e=>k2.extBut b x (λz=>nb (aS.mpr z)) e
 done:=λs Q E st q=>SS hh st.1 st.2 hd (aR _) λh' k=>q h' s.toks λb x nb e=>k b x (λz=>nb (aS.mpr z)) e
 self:=λ_ _ _ _ st q=>wpAny_pyIter_keyiter st.1 q
def UY{es:Array DictEntry}{o:Obj}(hs:(d == sysModules)=false)(hc:o.cls=.type "dict")(hd:o.data=.dict es ep) :
  PySem.W.KdlSrc P w "dict" d d es.size (λi v=>(es[i]?).map (λe=>e.key)=some v) (λh=>h.get? d=some o) where
 type:=λ_ hm=>⟨o,hm,hc⟩
 there:=λ_ hm=>⟨bg hm,bg hm⟩
 keep:=λ_ _ hm hk=>hk d (.inl rfl) o hm
 notList:=by decide
 notTuple:=by decide
 hint:=λ_ _ _ _ hm hq=>PySem.W.kdl_hint_dict ⟨o,hm,hc⟩ hq
 iter:=λ_ s hh hm=>⟨_,_,(λ_ _ hq=>Hv ⟨o,hm,hc⟩ hs hm hd hq),MG hh _ d (bD (bg hm)) hd,⟨⟨_,bC _ rfl,rfl,rfl⟩,aV _ hm⟩⟩
end
section
variable {X:Cx}
def Yj{H:Hp}{s:aA}{kvs:List (List Key×V)}(I:Inv X pins σ H s)(ed:H d=some (.dT kvs)) :
  ∃(ob:Obj) (es:Array DictEntry) (ep:Nat) (rs:bd),s.heap.get? d=some ob/\ob.cls=.type "dict" /\ ob.data=.dict es ep/\(d == sysModules)=false/\kvs.length<=sizeLine/\rs.length=kvs.length/\es.size=kvs.length /\
   (∀i:Nat,(es[i]?).map (λe:DictEntry=>e.key)=(rs[i]?).map Value.ref)/\∀(i:Nat) r p,rs[i]?=some r->kvs[i]?=some p->H r=some (.tup (p.1.map kV)):=by
 obtain⟨z,hd,xs,rel,dd⟩:=P4 I.hok ed;obtain⟨ob,es,ep,g1,g2,g3,g4,g5,g6⟩:=id dd;obtain⟨kl,kt⟩:=kt_at rel;have hes:es.size=xs.length:=by have:=dj List.length g4;simpa using this
 refine⟨ob,es,ep,xs.map λy=>y.2.1,g1,g2.1,g3,hd,z,by rw[aH,kl],by rw[hes,kl],λi=>?_,λi r p e1 e2=>?_⟩
 ·rw[<- eY,g4,aO,aO,f_,f_]
  cases xs[i]?<;>rfl
 ·obtain⟨y,h1,h2,h3,h4⟩:=kt i p e2;rw[aO,h1]at e1
  cases e1
  exact h3
def D_(hc:X.calm=true):j9 X (.builtin "sorted") (λxs H Q=>∃(d:ak) (kvs:List (List Key×V)) (kss:List (ag)),xs=[.ref d]/\H d=some (.dT kvs)/\kvs.map (λp=>p.1)=kss.map (λks=>ks.map Sum.inl)/\(∀ks∈kss,ks≠[]) /\
  ∀(rs:bd) l g,rs.length=kss.length->(∀(i:Nat) (r:ak) (ks:ag),rs[i]?=some r->kss[i]?=some ks->H r=some (.tup (ks.map V.int)))->H l=none->Sx.Cl g 0 kss.length->Sx.So (Sx.Cm kss) g 0 kss.length ->
   Q (.ref l) (upd H l (.lst (((List.range kss.length).map λi=>rs.getD (g i) 0).map V.ref)))):=by
 w_up;obtain⟨d,kvs,kss,rfl,ed,ek,hne,q⟩:=h;kcj_m
 cases rx
 obtain⟨ob,es,ep,rs,g1,g2,g3,g4,g5,g6,g7,g8,g9⟩:=Yj I ed;have kl:kvs.length=kss.length:=by have:=dj List.length ek;simpa using this
 have tp:∀(i:Nat) (r:ak) (ks:ag),rs[i]?=some r->kss[i]?=some ks->H r=some (.tup (ks.map V.int)):=λi r ks e1 e2=>by
  have lt:i<kvs.length:=by rw[kl];exact(aL.mp e2).1
  have h1:=g9 i r kvs[i] e1 (aF lt);have h2:(kvs.map (λp=>p.1))[i]?=(kss.map (λks=>ks.map Sum.inl))[i]?:=by rw[ek]
  rw[aO,aO,e2,aF lt]at h2;have h3:kvs[i].1=ks.map Sum.inl:=a_ h2;rw[h3,bh]at h1;exact h1
 refine gp kind_sorted plain_sorted entry_sorted (args_sorted1 _) ?_;unfold Builtin.«sorted»;refine aG (m:=checkCount "sorted" 1 1 _) (aP ?_);refine aG (PySem.W.kdu_collect (UY g4 g2 g3) (show X.A.in1.handled=none from I.ok.hd hc) g1 (by rw[g7];exact g5) λh' tk acc hk hacc=>?_);have ea:acc.toList=rs.map Value.ref:=by
  refine cL λj=>?_;rw[eY,aO,<- g8 j]
  cases e:acc[j]? with
  | some v=>exact(hacc.2 j v e).symm
  | none=>
   have:acc.size<=j:=Array.getElem?_eq_none_iff.mp e;rw[h_ (by rw[<- hacc.1];exact this)];rfl
 rw[ea];exact Mv (s:=s) (I.kept (t':=tk) hk) (by rw[g6,kl]) (by rw[g6];exact g5) (λi r ks e1 e2=>⟨m_.of (tp i r ks e1 e2),hne ks (aW e2)⟩) λl g h1 h2 h3=>q rs l g (by rw[g6,kl]) tp h1 h2 h3
end
section
variable {P:aj}{w:ah}{A:az}{E:af->aA->Prop}{s:aA}
def Mp:typeLookup (.type "list") "keys" = pure none:=am_miss_of_fast (by kernel_rfl)
def L5{a:ak}{o:Obj}{k:Nat}{Q:bi->aA->Prop}(hx:s.heap.get? a=some o)(hc:o.cls=.type "list")(hdat:o.data=.seq xs k)(hd:o.dict=none)(hA:A.handled=none)
  (h:∀h' tk,(∀b ob,s.heap.get? b=some ob->h'.get? b=some ob)->Q none { s with heap:=h',toks:=tk }):wpAny (model P w) A (getAttr? (.ref a) "keys") Q E s:=by
 obtain⟨c,dct,dat,sl⟩:=o;simp only at hc hdat hd;subst hc hdat hd;obtain⟨hp,g,d,tk,os⟩:=s;have hT:∀tk',(⟨hp,g,d,tk',os⟩:aA).TypeIs (.ref a) "list" := λ_=>⟨_,hx,rfl⟩;have f1:=sub_AttributeError;have f3:=gB.lookup;have f4:=gB.bind (.ref a);have f5:=am_list_getattr_none;unfold getAttr? getAttrBy? getAttrBy
 repeat (any_goals (first|assumption|exact hT _|((with_reducible show wpAny _ _ (call (Value.builtin "list.__getattribute__") _ _) _ _ _);refine jb gB (hT _) am_entry_list_getattribute (F.args_list_getattribute_2 _ _) (meets_getattribute_miss_list a xs k sl "keys" _ Mp ⋯ (by size_fits)) ⟨hx,hA,λh' tk' e hx'=>?_⟩)|wp_step))
 obtain⟨t',u',he⟩:=hx'.there
 skip
 unfold getattributeRaised
 repeat (any_goals (first|assumption|wp_step))
 exact h _ _ hx'.keeps
def CW:entryFor table "dict.update.loop" = some Builtin.«dict.update.loop»:=entryFor_of_tree (by kernel_rfl)
def vU:plainId "dict.update.loop" = true:=by decide +kernel
abbrev Qx (h:aq)(d I:ak)(its:ba)(ps:List (Int×af)):Prop:=∀(i:Nat) (v:af),its[i]?=some v->∃(b:ak) (p:Int×af) (t:Tok),v=.ref b/\b≠d/\b≠I/\ps[i]?=some p/\IsTup h b #[.int p.1 t,p.2]
def Qx.mono{h h':aq}(x:Qx h d I its ps)(k:∀b o,b≠d->b≠I->h.get? b=some o->h'.get? b=some o):Qx h' d I its ps:=λi v hv=>by
 obtain⟨b,p,t,h1,h2,h3,h4,o,h5,h6⟩:=x i v hv;exact⟨b,p,t,h1,h2,h3,h4,o,k b o h2 h3 h5,h6⟩
abbrev XH (ps:List (Int×af)):List (Key×af):=ps.foldl (λacc p=>stored acc (Sum.inl p.1) p.2) []
def Q9(ps:List (Int×af))(i:Nat)(p:Int×af)(h:ps[i]?=some p):XH (ps.take (i+1))=stored (XH (ps.take i)) (Sum.inl p.1) p.2:=by
 unfold XH;rw[cW,h,dO];rfl
theorem IT:∀(ps:List (Int×af)) (acc:List (Key×af)),(ps.foldl (λacc p=>stored acc (Sum.inl p.1) p.2) acc).length<=acc.length+ps.length
 | [],acc=>aR _
 | p::ps,acc=>by
  have:=IT ps (stored acc (Sum.inl p.1) p.2);have h:(stored acc (Sum.inl p.1) p.2).length<=acc.length+1:=by
   unfold stored;split
   ·rw[aH];lia
   ·rw[aQ];exact aR _
  rw[fh,bq]
  lia
def M9{R:Result->aA->Prop}{I l:ak}{St:Nat->aq->Prop}{its:ba}{ps:List (Int×af)}(W:Walks P w A.in1 I [I,l] [I] its.length (λi v=>its[i]?=some v) St)(hdI:d≠I)(hdl:d≠l)(hl:ps.length=its.length)(hz:ps.length<=sizeLine) :
  ∀(k i:Nat) (s:aA),its.length-i=k->i<=its.length->St i s.heap->s.heap.DictOf (kh P w) d (XH (ps.take i))->Qx s.heap d I its ps ->
   (∀h' tk,h'.DictOf (kh P w) d (XH ps)->(∀b o,b≠d->b≠I->s.heap.get? b=some o->h'.get? b=some o)->R (.ok (.ret .none)) { s with heap:=h',toks:=tk }) ->
   codeAny (model P w) A (.builtin "dict.update.loop" ⟨[.ref d,.ref I,rawInt i,.none],[]⟩) R s:=by
 intro k
 induction k with
 | zero=>
  intro i s hk hi hst hD hP hR;have hin:i=its.length:=()
  subst hin;refine iG CW ?_;rw[f9 vU _]
  skip
  refine aG (W.done s _ _ hst λh' tk hm=>?_)
  skip
  refine aG (aP (aP (hR h' tk ?_ λb o _ h2 e=>hm b o (by simpa using h2) e)));rw[<- hl,c_]at hD;obtain⟨o,es,ep,ho,rest⟩:=hD;exact⟨o,es,ep,hm d o (by simpa using hdI) ho,rest⟩
 | succ k ih=>
  intro i s hk hi hst hD hP hR;have hlt:i<its.length:=()
  refine iG CW ?_;rw[f9 vU _]
  skip
  refine aG (W.item i s _ _ hlt hst λv h' tk hv hst' hm=>?_);have hP':Qx h' d I its ps:=hP.mono λb o h1 h2 e=>hm b o (by simpa using h2) e;obtain⟨b,p,t,rfl,hbd,hbI,hp,o,ho,hc,n,hd⟩:=hP' i v hv;have hD':h'.DictOf (kh P w) d (XH (ps.take i)):=by
   obtain⟨o,es,ep,ho,rest⟩:=hD;exact⟨o,es,ep,hm d o (by simpa using hdI) ho,rest⟩
  have hT:Shared.TypeIs { s with heap:=h',toks:=tk } (.ref b) "tuple" := ⟨o,ho,hc⟩;have hpair:∀(A:az) (E:af->aA->Prop) (Q:ba->aA->Prop),Q [.int p.1 t,p.2] { s with heap:=h',toks:=tk }->wpAny (model P w) A (Builtin.Dict.pairItems (.ref b)) Q E { s with heap:=h',toks:=tk }:=λA E Q q=>by
   unfold Builtin.Dict.pairItems;refine aG (gc hT ?_);rw[aK ⋯];refine aG (wpAny_seqItems ho hd (aP q))
  have hlen:(XH (ps.take i)).length<=sizeLine:=by
   refine bJ (IT (ps.take i) []) ?_;rw[bK,bR]
   lia
  refine aG (dm (aG (wpAny_tryCatch (hpair _ _ _ ?_))))
  skip
  refine dm (wpAny_dictSet_pairs (hsz:=hlen) (knd:=kh P w) (k:=Sum.inl p.1) (s:={ s with heap:=h',toks:=tk }) (show Value.isInt p.1 (.int p.1 t)=true by simp[Value.isInt]) hD' λh2 hD2 hs=>?_);refine aP ⟨plainId_quiet vU _,?_⟩;have hsame:∀b o,b≠d->b≠I->s.heap.get? b=some o->h2.get? b=some o:=λb o h3 h4 e=>by rw[hs.2 b h3];exact hm b o (by simpa using h4) e
  refine ih (i+1) _ () hlt (W.frame _ _ _ hst' λb hb o e=>?_) (by rw[Q9 ps i p hp];exact hD2) (hP.mono hsame) λh3 tk3 hD3 hs3=>hR h3 tk3 hD3 λb o h4 h5 e=>hs3 b o h4 h5 (hsame b o h4 h5 e);have hne:b≠d:=by
   intro z;subst z
   rcases bF.mp hb with z|z
   ·exact hdI z
   ·exact hdl (by simpa using z)
  skip
  rw[hs.2 b hne];exact e
theorem CA{H:Hp}{X:Cx}(I:Inv X pins σ H s):∀(rs:bd) (ps:List (Int×V)),rs.length=ps.length->(∀(i:Nat) (r:ak) (q:Int×V),rs[i]?=some r->ps[i]?=some q->m_ X.K H r [.int q.1,q.2]) ->
  ∃qs:List (Int×af),KV ps qs/\∀(i:Nat) (r:ak),rs[i]?=some r->∃q t,qs[i]?=some q/\IsTup s.heap r #[.int q.1 t,q.2]
 | [],[],_,_=>⟨[],.nil,λi r h=>by simp at h⟩
 | [],_::_,h,_=>nomatch h
 | _::_,[],h,_=>nomatch h
 | r::rs,p::ps,hl,hh=>by
  obtain⟨qs,h1,h2⟩:=CA I rs ps (by simpa using hl) λi r q e1 e2=>hh (i+1) r q (by simpa using e1) (by simpa using e2);obtain⟨its,rv,tp,_⟩:=I.tuple (hh 0 r p rfl rfl);obtain⟨u1,u2,rfl,r1,r2⟩:=vals2 rv;obtain⟨t,rfl⟩:∃t,u1=Value.int p.1 t:=r1;refine⟨(p.1,u2)::qs,.cons ⟨rfl,r2⟩ h1,λi r' e=>?_⟩
  cases i with
  | zero=>cases e;exact⟨(p.1,u2),t,rfl,tp⟩
  | succ i=>exact h2 i r' (by simpa using e)
abbrev ptP (ps:List (Int×V)):List (Key×V):=ps.foldl (λacc p=>putK acc (Sum.inl p.1) p.2) []
def ZQ:∀{ps:List (Int×V)}{qs:List (Int×af)},KV ps qs->∀{as:List (Key×V)}{bs:List (Key×af)},KV as bs->KV (ps.foldl (λacc p=>putK acc (Sum.inl p.1) p.2) as) (qs.foldl (λacc p=>stored acc (Sum.inl p.1) p.2) bs):=by
 intro ps qs h;unfold KV at h
 induction h with
 | nil=>exact λh=>h
 | @cons p q ps qs h t ih=>
  intro as bs h2;rw[fh,fh];obtain⟨e,r⟩:=h;rw[e];exact ih (h2.put _ r)
theorem Lr:∀(ps:List (Int×V)) (acc:List (Key×V)),(ps.foldl (λacc p=>putK acc (Sum.inl p.1) p.2) acc).length<=acc.length+ps.length
 | [],acc=>aR _
 | p::ps,acc=>by
  have:=Lr ps (putK acc (Sum.inl p.1) p.2);have:=vP acc (Sum.inl p.1) p.2;rw[fh,bq]
  lia
end
section
variable {X:Cx}
def HB(hc:X.calm=true):j9 X (.type "dict") (λxs H Q=>∃(p:ak) (rs:bd) (ps:List (Int×V)),xs=[.ref p]/\rG X.K H p (rs.map V.ref)/\rs.length=ps.length /\
  (∀(i:Nat) (r:ak) (q:Int×V),rs[i]?=some r->ps[i]?=some q->m_ X.K H r [.int q.1,q.2])/\∀l,H l=none->Q (.ref l) (upd H l (.dK (ptP ps)))):=by
 w_up;obtain⟨p,rs,ps,rfl,hq,hlen,hT,q⟩:=h;kcj_m
 cases rx
 obtain⟨its,rv,pl,hz⟩:=I.list hq;have ei:=zy rv;subst ei;rw[aH]at hz;obtain⟨qs,kv,tp⟩:=CA I rs ps hlen hT;have ql:ps.length=qs.length:=kv.length;obtain⟨o,n,ho,hcl,hdn,hd⟩:=pl;have lp:p<s.heap.objs.size:=bg ho;refine callType_codes (Q₁:=λobj s₁=>obj=.ref s.heap.objs.size/\s₁={ s with heap:=s.heap.push { cls:=.type "dict",data:=.dict #[]}}) F.kt_called_dict (F.kt_typeCall_dict_1 _) F.entry_dict_init (kt_code_dict_new _ ⟨rfl,rfl⟩) ?_;rintro obj s₁ ⟨rfl,rfl⟩;have hnew:(s.heap.push { cls:=.type "dict",data:=.dict #[]}).DictOf (kh X.prog X.w) s.heap.objs.size []:=Heap.DictOf.new s.heap;have ho':(s.heap.push { cls:=.type "dict",data:=.dict #[]}).get? p=some o:=aV _ ho;have hTy:Shared.TypeIs { s with heap:=s.heap.push { cls:=.type "dict",data:=.dict #[]}} (.ref p) "list" := ⟨o,ho',hcl⟩;refine⟨hnew.typeIs,F.args_dict_init_2 _ _,?_⟩;unfold Builtin.«dict.__init__»;refine aG ?_;unfold Builtin.Dict.selfAndRest;refine aG (wpAny_notOrdered_dict hnew.typeIs ?_)
 skip
 refine aP ?_;show wpAny _ _ (Builtin.Dict.updateFrom "dict.__init__" s.heap.objs.size (.ref p) [] .none) _ _ _;unfold Builtin.Dict.updateFrom;refine aG (gc hTy ?_);rw[aK ⋯];refine aG (L5 ho' hcl hd hdn (show X.A.in1.in1.handled=none from I.ok.hd hc) λh' tk hk=>?_);rw[aK (by rfl)];refine aG (eS ?_);have hl2:h'.IsList p (rs.map Value.ref).toArray:=⟨o,hk p o ho',hcl,n,hd⟩;refine aG (iU (s:={ s with heap:=h',toks:=tk }) hl2 ?_);refine aP ⟨plainId_quiet vU _,?_⟩;have sz:s.heap.objs.size<h'.objs.size:=bg (hk _ _ (bC _ rfl));have W:Walks X.prog X.w X.A.in1.in1 h'.objs.size [h'.objs.size,p] [h'.objs.size] (rs.map Value.ref).length (λi v=>(rs.map Value.ref)[i]?=some v) (λi h=>h.IsListIter h'.objs.size p i/\h.IsList p (rs.map Value.ref).toArray):=by
  have W:=Walks.list (prog:=X.prog) (w:=X.w) (A:=X.A.in1.in1) (I.ok.hd hc) h'.objs.size p (bD (bg (hk p o ho'))) (rs.map Value.ref).toArray;rw[aY]at W;dsimp[eZ]at W;exact W
 refine M9 (d:=s.heap.objs.size) (its:=rs.map Value.ref) (ps:=qs) W (bD sz) (dw (bD lp)) (by rw[aH];lia) () (rs.map Value.ref).length 0 _ () (bL _)
  ⟨⟨_,bC _ rfl,rfl,rfl⟩,hl2.push _⟩ ?_ (λi v hv=>?_) λh2 tk2 hD hs=>⟨rfl,.ref s.heap.objs.size,_,I.laid (t':=tk2) (o:=.dK (ptP ps)) (λb ob eb=>?_) (aR _) ?_,rfl,q _ (I.hok.fresh (aR _))⟩
 ·obtain⟨o,es,ep,e,rest⟩:=hnew;exact⟨o,es,ep,aV _ (hk _ _ e),rest⟩
 ·rw[aO]at hv;obtain⟨r,hr,rfl⟩:=aX.mp hv;obtain⟨q,t,h1,o2,h2,h3⟩:=tp i r hr;have lr:=bg h2;exact⟨r,q,t,rfl,bD lr,bD (lt_trans lr sz),h1,o2,aV _ (hk _ _ (aV _ h2)),h3⟩
 ·have lb:=bg eb;exact hs b ob (bD lb) (bD (lt_trans lb sz)) (aV _ (hk _ _ (aV _ eb)))
 ·refine N7 (bJ (Lr ps []) (by rw[bR];lia)) ?_ (ZQ kv .nil) hD;exact fK.mpr (dw (bD I.big))
abbrev SO (ns:ag):Sx.Ord where
 lt i j:=decide (ns.getD i 0<ns.getD j 0)
 MV i:=bw ()
 tr i j k h1 h2:=bf (by have:=bX h1;have:=bX h2;lia)
 neg i j k h:=by
  have:=bX h;by_cases c:ns.getD i 0<ns.getD j 0
  ·exact .inl (bf c)
  ·exact .inr (bf ())
theorem AM:∀{vs:ba}{ns:ag},IntsAre vs ns->vs.length=ns.length/\∀i,i<vs.length->∃t,vs.getD i .none=.int (ns.getD i 0) t
 | _,_,.nil=>⟨rfl,λi h=>absurd h (fV _)⟩
 | _,_,.cons n t h=>by
  obtain⟨h1,h2⟩:=AM h;refine⟨dj (·+1) h1,λi hi=>?_⟩
  cases i with
  | zero=>exact⟨t,rfl⟩
  | succ i=>exact h2 i (by simpa using hi)
theorem B7{f:Nat->Int}{h:Nat->af}:∀(l:am),(∀i∈l,∃t,h i=.int (f i) t)->Vals (l.map λi=>V.int (f i)) (l.map h)
 | [],_=>.nil
 | i::l,e=>.cons (e i (aM ..)) (B7 l λj hj=>e j (aN _ hj))
def Hy{s:aA}{H:Hp}{Q:VK}{h':aq}{tk:Nat}{vs:ba}{ns:ag}(I1:Inv X pins σ H { s with heap:=h',toks:=tk })(hi:IntsAre vs ns)(hz:vs.length<=sizeLine)
  (q:∀l g,H l=none->Sx.Cl g 0 ns.length->Sx.So (SO ns) g 0 ns.length->Q (.ref l) (upd H l (.lst ((List.range ns.length).map λi=>V.int (ns.getD (g i) 0))))) :
  wpAny (model X.prog X.w) X.A.in1 (do
   let l <- newList vs
   let _ <- holding [l] (call (Value.builtin "list.sort") [l] [])
   ret l) (λfin s'=>∃v,fin=Fin.done (Flow.ret v)/\EP X pins σ Q v s') X.xe { s with heap:=h',toks:=tk }:=by
 obtain⟨hN,at_⟩:=AM hi;refine aG (i6 ?_);have hoL:(h'.push (seqObj "list" vs.toArray 0)).get? h'.objs.size=some (seqObj "list" vs.toArray 0):=bC _ rfl
 skip
 refine aG (dm (dG slot_list_sort ⟨_,hoL,rfl⟩ entry_list_sort (Sx.zp (o:=SO ns) (kd:=oneType') hoL hz (λh2 Q' q'=>?_) (λh2 i j hi' hj E' Q' q'=>?_) λg hc hs=>⟨_,rfl,?_⟩) (args_list_sort _)))
 ·obtain⟨a,b,r,rfl⟩:∃a b r,vs=a::b::r:=by
   cases vs with
   | nil=>simp at h2
   | cons a vs=>cases vs with
    | nil=>simp at h2
    | cons b r=>exact⟨a,b,r,rfl⟩
  exact wpAny_of_eq (keyKind_ints hi) q'
 ·obtain⟨t,e1⟩:=at_ i hi';obtain⟨u,e2⟩:=at_ j hj;show wpAny _ _ (keyLt' oneType' (vs.getD i .none) (vs.getD j .none)) Q' E' _;rw[e1,e2,keyLt'_oneType];exact Sx.Jf true q'
 ·rw[hN]at hc hs ⊢;obtain⟨e,he⟩:=sortedHeap_at (out:=((List.range ns.length).map λi=>vs.getD (g i) .none).toArray) hoL;have old:∀b ob,h'.get? b=some ob->(sortedHeap (h'.push (seqObj "list" vs.toArray 0)) h'.objs.size vs ((List.range ns.length).map λi=>vs.getD (g i) .none).toArray).get? b=some ob:=λb ob eb=>by
   rw[sortedHeap_old (bD (bg eb)) (by rw[dX];exact d_ (bg eb))];exact aV _ eb
  refine aP ⟨_,rfl,.ref h'.objs.size,_,I1.laid (t':=tk) (o:=.lst ((List.range ns.length).map λi=>V.int (ns.getD (g i) 0))) old (aR _) ?_,rfl,q _ g (I1.hok.fresh (aR _)) hc hs⟩;refine⟨by rw[aH,cF];omega,(List.range ns.length).map λi=>vs.getD (g i) .none,e,B7 _ λi hi=>at_ _ (by have:=(hc i (bL _) (cU.mp hi)).2;omega),he⟩
def My{P:aj}{w:ah}{vs:List (Key×af)}:∀{acc:ba}{ns:ag},vs.map (·.1)=ns.map Sum.inl->acc.length=vs.length->(∀(j:Nat) v,acc[j]?=some v->∃k x,vs[j]?=some (k,x)/\(kh P w).is k v=true)->IntsAre acc ns:=by
 intro acc ns hk hl h
 induction acc generalizing vs ns with
 | nil=>cases vs with
  | nil=>cases ns with
   | nil=>exact .nil
   | cons=>cases hk
  | cons=>cases hl
 | cons a acc ih=>cases vs with
  | nil=>cases hl
  | cons v vs=>cases ns with
   | nil=>cases hk
   | cons n ns=>
    rw[bB,bB,List.cons.injEq]at hk;obtain⟨k,x,e1,e2⟩:=h 0 a rfl
    cases e1
    obtain⟨e3,e4⟩:=hk;have e3:k=Sum.inl n:=e3;subst e3;obtain⟨t,rfl⟩:=Value.isInt_shape (k:=n) (v:=a) e2;exact .cons n t (ih e4 (by simpa using hl) λj v e=>h (j+1) v (by simpa using e))
def Ey(hc:X.calm=true):j9 X (.builtin "sorted") (λxs H Q=>∃(d:ak) (kvs:List (Key×V)) (ns:ag),xs=[.ref d]/\H d=some (.dK kvs)/\kvs.map (λp=>p.1)=ns.map Sum.inl /\
  ∀l g,H l=none->Sx.Cl g 0 ns.length->Sx.So (SO ns) g 0 ns.length->Q (.ref l) (upd H l (.lst ((List.range ns.length).map λi=>V.int (ns.getD (g i) 0))))):=by
 w_up;obtain⟨d,kvs,ns,rfl,ed,ek,q⟩:=h;kcj_m
 cases rx
 obtain⟨z,hd,vs,rel,dd⟩:=VR I.hok ed;obtain⟨ep,da⟩:=dd.dictAt;have kl:kvs.length=vs.length:=rel.length;have ke:vs.map (·.1)=kvs.map (·.1):=by
  clear ek z dd da kl ed;unfold KV at rel
  induction rel with
  | nil=>rfl
  | cons h _ ih=>rw[bB,bB,ih,h.1]
 refine gp kind_sorted plain_sorted entry_sorted (args_sorted1 _) ?_;unfold Builtin.«sorted»;refine aG (m:=checkCount "sorted" 1 1 _) (aP ?_);refine aG (PySem.W.kdu_collect (PySem.W.kdl_dict hd) (show X.A.in1.handled=none from I.ok.hd hc) da () λh' tk acc hk hacc=>?_);have al:acc.toList.length=vs.length:=by rw[dP];exact hacc.1
 exact Hy (s:=s) (I.kept (t':=tk) hk) (My (P:=X.prog) (w:=X.w) (ke.trans ek) al λj v e=>hacc.2 j v (by rw[eY]at e;exact e)) () q
end
end L2
namespace Sx
open PySem PyProof.Rows
section
variable {prog:aj}{w:ah}{A:az}{E:af->aA->Prop}{s:aA}
def PM{ns:ag}(h:IntsAre vs ns)(h':IntsAre vs ms):ns=ms:=by
 induction h generalizing ms with
 | nil=>cases h';rfl
 | cons n t _ ih=>cases h' with
  | cons _ _ h2=>rw[ih h2]
def Ym{a c:ak}{as cs:ba}{ns:ag}(ha:IsTup s.heap a as.toArray)(hc:IsTup s.heap c cs.toArray)(hi:IntsAre as ns)(hj:IntsAre cs ms)(hu:A.units<cLine)(hne:ns≠ms):SeqAt.EqAt A s (.ref a) (.ref c) false:=by
 have hac:a≠c:=λz=>by
  subst z;obtain⟨o,ho,_,n,hd⟩:=ha;obtain⟨o',ho',_,n',hd'⟩:=hc;rw[ho]at ho'
  cases ho'
  rw[hd]at hd'
  injection hd' with e1 e2
  have:as=cs:=by have:=dj Array.toList e1;simpa using this
  subst this;exact hne (PM hi hj)
 have r1:=L2.v9 hi;have r2:=L2.v9 hj;have fl:∀l:ag,(l.map L2.V.int).all L2.BX=true:=λl=>by rw[gS,eL];intro _ _;rfl
 have h:=SeqAt.RcAt.tuples ha hc hu (L2.Pu r1 r2 (fl ns) (fl ms));have e:((List.range (min as.toArray.size cs.toArray.size)).all (L2.eAt (ns.map L2.V.int) (ms.map L2.V.int)) && as.toArray.size == cs.toArray.size)=false:=by
  have q:L2.R0 (ns.map L2.V.int) (ms.map L2.V.int)=false:=by rw[L2.F6,bw hne]
  rw[<- q,aY,aY,<- r1.length,<- r2.length];by_cases hl:(ns.map L2.V.int).length=(ms.map L2.V.int).length
  ·rw[hl,Nat.min_self,bO,Bool.and_true];exact L2.Wv _ hl.symm rfl
  ·rw[L2.Se hl,beq_false_of_ne hl,jf]
 rw[e]at h;exact .of_refs hac h
def HM{l k a c:ak}{x:af}{as cs:ba}{ns:ag}{Q:Bool->aA->Prop}(hl:IsTup s.heap l #[.ref a,x])(hk:IsTup s.heap k #[.ref c,y])(ha:IsTup s.heap a as.toArray)(hc:IsTup s.heap c cs.toArray)(hi:IntsAre as ns)(hj:IntsAre cs ms)(hu:A.units<cLine)(hne:ns≠ms)(h:Q (HT.lexLt ns ms) s) :
  wpAny (model prog w) A (keyLt' (tuples' false) (.ref l) (.ref k)) Q E s:=by
 rw[yJ];obtain⟨o1,ho1,_,n1,hd1⟩:=hl;obtain⟨o2,ho2,_,n2,hd2⟩:=hk;refine aG (fq ho1 hd1 ?_);refine aG (fq ho2 hd2 ?_)
 skip
 rw[show([Value.ref a,x].zip [Value.ref c,y]).zipIdx=[((Value.ref a,Value.ref c),0),((x,y),1)]from rfl,gE];refine aG (aG ?_);dsimp only;refine aG (Ym ha hc hi hj hu hne prog w _ _ ?_);dsimp[eT,cZ];refine aG ?_;rw[oneLt'_eq];dsimp[Bool.false_and,bA,cg];refine aG (HT.IQ ha hc (by simpa using hi) (by simpa using hj) hu ?_);refine dI ?_;exact aP (aP (aP h))
def Hg{l:ak}{v:af}{Q:Bool->aA->Prop}(hl:IsTup s.heap l #[u,v])(h:Q false s):wpAny (model prog w) A (keyLt' (tuples' false) (.ref l) (.ref l)) Q E s:=by
 rw[yJ];obtain⟨o1,ho1,_,n1,hd1⟩:=hl;refine aG (fq ho1 hd1 ?_);refine aG (fq ho1 hd1 ?_)
 skip
 rw[show([u,v].zip [u,v]).zipIdx=[((u,u),0),((v,v),1)]from rfl,gE];refine aG (aG ?_);dsimp only;refine aG (SeqAt.EqAt.same u prog w _ _ ?_);dsimp[ck,bA,cg];refine aP ?_;dsimp only;rw[gE];refine aG ?_;dsimp only;refine aG (SeqAt.EqAt.same v prog w _ _ ?_);dsimp[ck,bA,cg];refine aP ?_;dsimp only;rw[ji];refine aP ?_;dsimp only;exact aP h
def IA{vs:ba}(h0:vs≠[])(ht:∀v∈vs,∃(l a:ak) (xs ys:ba),v=.ref l/\IsTup s.heap l (.ref a::xs).toArray/\IsTup s.heap a ys.toArray){Q:SortKind->aA->Prop}(q:Q (tuples' false) s) :
  wpAny (model prog w) A (keyKind' vs.toArray) Q E s:=by
 have ch:∀v,∃a:ak,v∈vs->∃(l:ak) (xs ys:ba),v=.ref l/\IsTup s.heap l (.ref a::xs).toArray/\IsTup s.heap a ys.toArray:=λv=>by
  by_cases c:v∈vs
  ·obtain⟨l,a,xs,ys,e⟩:=ht v c;exact⟨a,λ_=>⟨l,xs,ys,e⟩⟩
  ·exact⟨0,λz=>absurd z c⟩
 obtain⟨F,hF⟩:=Classical.axiomOfChoice ch;rw[keyKind'_eq];refine aG (An (λv=>some (Value.ref (F v))) vs (λv hv Q' q'=>?_) _ ?_)
 ·obtain⟨l,xs,ys,rfl,⟨o,ho,hc,n,hd⟩,_⟩:=hF v hv;rw[G6];refine aG (gc (T := "tuple") ⟨o,ho,hc⟩ ?_);rw[aJ ⋯];exact aG (fq ho hd (aP q'))
 ·rw[aK (by simp)];refine aG (eS ?_);have e1:(vs.map λv=>some (Value.ref (F v))).toArray.filterMap id=(vs.map λv=>Value.ref (F v)).toArray:=by
   rw[List.filterMap_toArray,iP];congr 1;rw[show(id ∘ λv=>some (Value.ref (F v)))=λv=>some (Value.ref (F v))from rfl];exact congrFun List.filterMap_eq_map' vs
  rw[e1,oneTypeOnly'_eq];refine aG (aG (An (λ_=>Value.type "tuple") _ (λv hv Q' q'=>?_) _ ?_))
  ·obtain⟨u,hu,rfl⟩:=bu.mp hv;obtain⟨_,_,ys,_,_,o,ho,hc,n,hd⟩:=hF u hu;exact gc (T := "tuple") ⟨o,ho,hc⟩ q'
  ·rw[bh];obtain⟨v0,vs',rfl⟩:∃v0 vs',vs=v0::vs':=by
    cases vs with
    | nil=>exact absurd rfl h0
    | cons a b=>exact⟨a,b,rfl⟩
   have ha:((List.map ((λ_=>Value.type "tuple") ∘ λv=>Value.ref (F v)) (v0::vs')).toArray.all λx=>x == Value.type "tuple")=true:=by
    dsimp[List.all_toArray,gS,eL];intro _ _;rfl
   have hz:(List.map ((λ_=>Value.type "tuple") ∘ λv=>Value.ref (F v)) (v0::vs')).toArray[0]?=some (Value.type "tuple"):=by simp
   rw[hz];dsimp[ha,cZ];exact aP (aP q)
end
end Sx
namespace L2
open PySem PySem.Spec PyProof.Rows
section
variable {X:Cx}
def HZ{s:aA}{H:Hp}{Q:VK}{h':aq}{tk:Nat}{rs:bd}{kss:List (ag)}(I1:Inv X pins σ H { s with heap:=h',toks:=tk })(hlen:rs.length=kss.length)(hz:rs.length<=sizeLine)(hu:X.A.units+64<cLine)
  (hnd:∀i j (hi:i<kss.length) (hj:j<kss.length),kss[i]=kss[j]->i=j)
  (hT:∀(i:Nat) (r:ak) (ks:ag),rs[i]?=some r->kss[i]?=some ks->∃(a:ak) (v:V),m_ X.K H r [.ref a,v]/\m_ X.K H a (ks.map V.int))
  (q:∀l g,H l=none->Sx.Cl g 0 kss.length->Sx.So (Sx.Cm kss) g 0 kss.length->Q (.ref l) (upd H l (.lst (((List.range kss.length).map λi=>rs.getD (g i) 0).map V.ref)))) :
  wpAny (model X.prog X.w) X.A.in1 (do
   let l <- newList (rs.map Value.ref)
   let _ <- holding [l] (call (Value.builtin "list.sort") [l] [])
   ret l) (λfin s'=>∃v,fin=Fin.done (Flow.ret v)/\EP X pins σ Q v s') X.xe { s with heap:=h',toks:=tk }:=by
 have hN:(rs.map Value.ref).length=kss.length:=by rw[aH,hlen]
 refine aG (i6 ?_);have hoL:(h'.push (seqObj "list" (rs.map Value.ref).toArray 0)).get? h'.objs.size=some (seqObj "list" (rs.map Value.ref).toArray 0):=bC _ rfl
 skip
 have keep:∀(r:ak) (its:Array af),IsTup h' r its->IsTup (Sx.ED (h'.push (seqObj "list" (rs.map Value.ref).toArray 0)) h'.objs.size (rs.map Value.ref)) r its:=λr its ⟨o,ho,hc,n,hd⟩=>by
  refine⟨o,?_,hc,n,hd⟩;have lt:r<h'.objs.size:=bg ho;rw[Sx.KQ (bD lt) (by rw[dX];exact d_ lt)];exact aV _ ho
 have tup:∀(i:Nat) (r:ak) (ks:ag),rs[i]?=some r->kss[i]?=some ks->∃(a:ak) (u:af) (its:ba),IntsAre its ks/\IsTup (Sx.ED (h'.push (seqObj "list" (rs.map Value.ref).toArray 0)) h'.objs.size (rs.map Value.ref)) r #[.ref a,u]/\IsTup (Sx.ED (h'.push (seqObj "list" (rs.map Value.ref).toArray 0)) h'.objs.size (rs.map Value.ref)) a its.toArray:=λi r ks e1 e2=>by
  obtain⟨a,v,t1,t2⟩:=hT i r ks e1 e2;obtain⟨its,rv,p1,_⟩:=I1.tuple t1;obtain⟨jts,rw_,p2,_⟩:=I1.tuple t2
  cases rv with
  | cons g1 rv=>cases rv with
   | cons g2 rv=>
    cases rv
    have g1:_=Value.ref a:=g1;subst g1;exact⟨a,_,jts,intsAre_of rw_,keep _ _ p1,keep _ _ p2⟩
 refine aG (dm (dG slot_list_sort ⟨_,hoL,rfl⟩ entry_list_sort (Sx.zp (o:=Sx.Cm kss) (kd:=tuples' false) hoL (by rw[hN];lia) (λh2 Q' q'=>?_) (λh2 i j hi hj E' Q' q'=>?_) λg hc hs=>⟨_,rfl,?_⟩) (args_list_sort _)))
 ·refine Sx.IA (λz=>by rw[z]at h2;simp at h2) (λv hv=>?_) q';obtain⟨i,hi⟩:=fj hv;rw[aO]at hi;obtain⟨r,hr,rfl⟩:=aX.mp hi;have lt:=(aL.mp hr).1;have e2:kss[i]?=some kss[i]:=aF ();obtain⟨a,u,its,_,h3,h4⟩:=tup i r _ hr e2;exact⟨r,a,_,its,rfl,h3,h4⟩
 ·rw[hN]at hi hj;have e1:rs[i]?=some (rs[i]'()):=aF _;have e2:rs[j]?=some (rs[j]'()):=aF _;have k1:kss[i]?=some kss[i]:=aF hi;have k2:kss[j]?=some kss[j]:=aF hj;obtain⟨a1,u1,x1,y1,b1,c1⟩:=tup i _ _ e1 k1;obtain⟨a2,u2,x2,y2,b2,c2⟩:=tup j _ _ e2 k2;have v1:(rs.map Value.ref).getD i .none=.ref (rs[i]'()):=by rw[aI,aO,e1];rfl
  have v2:(rs.map Value.ref).getD j .none=.ref (rs[j]'()):=by rw[aI,aO,e2];rfl
  show wpAny _ _ (keyLt' (tuples' false) ((rs.map Value.ref).getD i .none) ((rs.map Value.ref).getD j .none)) Q' E' _;rw[v1,v2];have d1:kss.getD i []=kss[i]:=by rw[aI,k1];rfl
  have d2:kss.getD j []=kss[j]:=by rw[aI,k2];rfl
  have this:(Sx.Cm kss).lt i j=HT.lexLt kss[i] kss[j]:=by show HT.lexLt _ _=_;rw[d1,d2]
  by_cases hij:i=j
  ·subst hij;rw[this,Sx.Av]at q';exact Sx.Hg b1 q'
  ·rw[this]at q';exact Sx.HM b1 b2 c1 c2 y1 y2 (by show X.A.units+1+1<cLine;lia) (λz=>hij (hnd i j hi hj z)) q'
 ·rw[hN]at hc hs ⊢;obtain⟨e,he⟩:=sortedHeap_at (out:=((List.range kss.length).map λi=>(rs.map Value.ref).getD (g i) .none).toArray) hoL;have old:∀b ob,h'.get? b=some ob->(sortedHeap (h'.push (seqObj "list" (rs.map Value.ref).toArray 0)) h'.objs.size (rs.map Value.ref) ((List.range kss.length).map λi=>(rs.map Value.ref).getD (g i) .none).toArray).get? b=some ob:=λb ob eb=>by
   rw[sortedHeap_old (bD (bg eb)) (by rw[dX];exact d_ (bg eb))];exact aV _ eb
  refine aP ⟨_,rfl,.ref h'.objs.size,_,I1.laid (t':=tk) (o:=.lst (((List.range kss.length).map λi=>rs.getD (g i) 0).map V.ref)) old (aR _) ?_,rfl,q _ g (I1.hok.fresh (aR _)) hc hs⟩;refine⟨by rw[aH,aH,cF];lia,((List.range kss.length).map λi=>rs.getD (g i) 0).map Value.ref,e,zD _,?_⟩;rw[he];congr 2;rw[bh];congr 1;refine cP λi hi=>?_;have:=(hc i (bL _) (cU.mp hi)).2;have lt:g i<rs.length:=()
  show(rs.map Value.ref).getD (g i) .none=Value.ref (rs.getD (g i) 0);rw[aI,aO,aF lt,aI,aF lt];rfl
def Eg(hu:X.A.units+64<cLine):j9 X (.builtin "sorted") (λxs H Q=>∃(p:ak) (rs:bd) (kss:List (ag)),xs=[.ref p]/\rG X.K H p (rs.map V.ref)/\rs.length=kss.length/\(∀i j (hi:i<kss.length) (hj:j<kss.length),kss[i]=kss[j]->i=j) /\
  (∀(i:Nat) (r:ak) (ks:ag),rs[i]?=some r->kss[i]?=some ks->∃(a:ak) (v:V),m_ X.K H r [.ref a,v]/\m_ X.K H a (ks.map V.int)) /\
  ∀l g,H l=none->Sx.Cl g 0 kss.length->Sx.So (Sx.Cm kss) g 0 kss.length->Q (.ref l) (upd H l (.lst (((List.range kss.length).map λi=>rs.getD (g i) 0).map V.ref)))):=by
 w_up;obtain⟨p,rs,kss,rfl,hq,hlen,hnd,hT,q⟩:=h;kcj_m
 cases rx
 obtain⟨its,rv,pl,hz⟩:=I.list hq;have ei:=zy rv;subst ei;obtain⟨o,ho,hcl,n,hd⟩:=pl.isList;rw[aH]at hz;have hN:(rs.map Value.ref).length=kss.length:=by rw[aH,hlen]
 refine gp kind_sorted plain_sorted entry_sorted (args_sorted1 _) ?_;unfold Builtin.«sorted»;refine aG (m:=checkCount "sorted" 1 1 _) (aP ?_);refine aG (wpAny_collect_seq p (.inl rfl) ho hcl hd (λh' hk=>HZ (s:=s) (I.kept (t':=s.toks) hk) hlen hz hu hnd hT q) (by rw[aY,hN];lia))
end
end L2
namespace Am
open PySem PySem.Spec PyProof.Rows L2
abbrev lE (S:jz)(n:Nat):Option (List (Int×A)):=match S[n]? with
 | some (.pK xs)=>some xs
 | _=>none
def qz{n:Nat}(h:lE S n=some xs):S[n]?=some (.pK xs):=by
 unfold lE at h;split at h
 ·rename_i e;cases h;exact e
 ·cases h
def Eo{S:jz}{n:Nat}(h:S[n]?=some (.pK xs)):lE S n=some xs:=by
 unfold lE;rw[h]
abbrev nI (kvs:List (Int×A))(k:Int):Option A:=(kvs.find? λkv=>decide (kv.1=k)).map (·.2)
abbrev zC (kvs:List (Int×A))(k:Int)(v:A):List (Int×A):=
 if (nI kvs k).isSome=true then kvs.map (λkv=>if kv.1=k then(kv.1,v)else kv)else kvs++[(k,v)]
section
variable {K:au}{ρ:bd}{H:Hp}
def Mu{p:Int×A}{r:List (Int×A)}{k:Int}(e:p.1=k):nI (p::r) k=some p.2:=by simp[nI,cT,e]
def MP{p:Int×A}{r:List (Int×A)}{k:Int}(e:¬p.1=k):nI (p::r) k=nI r k:=by simp[nI,cT,e]
def aax{a b:Int}(e:(Sum.inl a:Key)=Sum.inl b):a=b:=by injection e
theorem DI.look:∀{kvs:List (Int×A)}{ks:List (Key×V)}(k:Int),DI K ρ H kvs ks->(nI kvs k).isSome=(qE ks (Sum.inl k:Key)).isSome/\∀x,nI kvs k=some x->∃v,qE ks (Sum.inl k:Key)=some v/\AV K ρ H x v
 | [],[],k,_=>⟨rfl,λx h=>nomatch h⟩
 | p::r,q::r',k,⟨⟨e,a⟩,t⟩=>by
  by_cases c:p.1=k
  ·have c':q.1=(Sum.inl k:Key):=by rw[e,c]
   rw[Mu c,vG c'];exact⟨rfl,λx h=>by cases h;exact⟨_,rfl,a⟩⟩
  ·have c':¬q.1=(Sum.inl k:Key):=λz=>c (aax (e.symm.trans z));rw[MP c,ve c'];exact DI.look k t
theorem DI.repl{x:A}{v:V}(h:AV K ρ H x v)(k:Int):∀{kvs:List (Int×A)}{ks:List (Key×V)},DI K ρ H kvs ks->DI K ρ H (kvs.map λkv=>if kv.1=k then(kv.1,x)else kv) (ks.map λkv=>if kv.1=(Sum.inl k:Key)then(kv.1,v)else kv)
 | [],[],_=>trivial
 | p::r,q::r',⟨⟨e,a⟩,t⟩=>by
  refine⟨?_,DI.repl h k t⟩;dsimp only;by_cases c:p.1=k
  ·rw[aK c,aK (by rw[e,c])];exact⟨e,h⟩
  ·rw[aJ c,aJ (λz=>c (aax (e.symm.trans z)))];exact⟨e,a⟩
theorem DI.snoc{x:A}{v:V}(h:AV K ρ H x v)(k:Int):∀{kvs:List (Int×A)}{ks:List (Key×V)},DI K ρ H kvs ks->DI K ρ H (kvs++[(k,x)]) (ks++[(Sum.inl k,v)])
 | [],[],_=>⟨⟨rfl,h⟩,trivial⟩
 | p::r,q::r',⟨a,t⟩=>⟨a,DI.snoc h k t⟩
def DI.put{x:A}{v:V}(h:AV K ρ H x v)(k:Int)(d:DI K ρ H kvs ks):DI K ρ H (zC kvs k x) (putK ks (Sum.inl k:Key) v):=by
 unfold zC putK;rw[yl,<- (d.look k).1];by_cases c:(nI kvs k).isSome=true
 ·rw[aK c,aK c];exact DI.repl h k d
 ·rw[aJ c,aJ c];exact DI.snoc h k d
def DI.length:∀{kvs:List (Int×A)}{ks:List (Key×V)},DI K ρ H kvs ks->kvs.length=ks.length
 | [],[],_=>rfl
 | _::_,_::_,⟨_,t⟩=>dj (·+1) t.length
theorem DI.keys:∀{kvs:List (Int×A)}{ks:List (Key×V)},DI K ρ H kvs ks->ks.map (·.1)=kvs.map λkv=>(Sum.inl kv.1:Key)
 | [],[],_=>rfl
 | _::_,_::_,⟨⟨e,_⟩,t⟩=>by rw[bB,bB,e,DI.keys t]
def Rel.pK{n:Nat}{a:ak}(R:Rel K ρ H S)(ha:ρ[n]?=some a)(hS:S[n]?=some (.pK xs)):∃vs,H a=some (.dK vs)/\DI K ρ H xs vs:=R.at n a _ ha hS
def Rel.aaG{S:jz}{p:ak}(R:Rel K ρ H S)(hp:H p=none)(r:DI K ρ H xs vs):Ext ρ (ρ++[p]) H (upd H p (.dK vs))/\Rel K (ρ++[p]) (upd H p (.dK vs)) (S++[.pK xs])/\(ρ++[p])[S.length]?=some p:=by
 have ex:Ext ρ (ρ++[p]) H (upd H p (.dK vs)):=⟨⟨eV _ _,λa u _ h=>by rw[jH (jP h hp)];exact h⟩,λa u h _=>by rw[jH (jP h hp)];exact h,λa h=>by
  rcases bH.mp h with z|z
  ·exact .inl z
  ·have e:a=p:=by simpa using z
   rw[e];exact .inr hp⟩
 have np:p∉ρ:=R.LB hp;have last:(ρ++[p])[S.length]?=some p:=by rw[<- R.len];simp
 refine⟨ex,⟨by simp[R.len],?_,?_⟩,last⟩
 ·rw[eg];refine⟨R.nd,by simp,λa ha b hb e=>?_⟩;have:b=p:=by simpa using hb
  exact np (by rw[<- this,<- e];exact ha)
 ·intro n a o h1 h2;by_cases hn:n<S.length
  ·rw[bI (by rw[R.len];exact hn)]at h1;rw[bI hn]at h2;have na:a≠p:=λz=>np (by rw[<- z];exact aW h1);have:=R.at n a o h1 h2
   cases o with
   | lst ys=>obtain⟨ws,e,q⟩:=this;exact⟨ws,by rw[jH na];exact e,q.ext ex⟩
   | dct _|pK _=>obtain⟨ws,e,q⟩:=this;exact⟨ws,by rw[jH na];exact e,q.ext ex⟩
   | ins _ _=>obtain⟨oo,uu,e⟩:=this;exact⟨oo,uu,by rw[jH na];exact e⟩
  ·have e:n=S.length:=by
    have:=(aL.mp h2).1;simp at this
    lia
   subst e;rw[last]at h1
   cases h1
   simp at h2;subst h2;exact⟨vs,kP,r.ext ex⟩
def Rel.zC{S:jz}{n:Nat}{a:ak}(R:Rel K ρ H S)(ha:ρ[n]?=some a)(hS:S[n]?=some (.pK xs))(r:DI K ρ H ys ws):Ext ρ ρ H (upd H a (.dK ws))/\Rel K ρ (upd H a (.dK ws)) (S.set n (.pK ys)):=by
 obtain⟨vs,e,_⟩:=R.at n a _ ha hS;have ex:Ext ρ ρ H (upd H a (.dK ws)):=⟨⟨eN _,λb u i h=>by
  have:b≠a:=by
   intro z;subst z;rw[e]at h;cases h;exact i
  rw[jH this];exact h⟩,λb u h n=>by
  rw[jH (λz=>n (by rw[z];exact aW ha))];exact h,λ_ h=>.inl h⟩
 refine⟨ex,by rw[cE];exact R.len,R.nd,λm b o h1 h2=>?_⟩;by_cases hm:m=n
 ·subst hm;rw[ha]at h1;cases h1;rw[b_ (aL.mp hS).1]at h2
  cases h2
  exact⟨ws,kP,r.ext ex⟩
 ·rw[cJ (dw hm)]at h2;have nb:b≠a:=λz=>by
   subst z;obtain⟨l1,e1⟩:=aL.mp ha;obtain⟨l2,e2⟩:=aL.mp h1;exact hm ((dF R.nd).mp (e2.trans e1.symm))
  have:=R.at m b o h1 h2
  cases o with
  | lst ys=>obtain⟨ws',e',q⟩:=this;exact⟨ws',by rw[jH nb];exact e',q.ext ex⟩
  | dct _|pK _=>obtain⟨ws',e',q⟩:=this;exact⟨ws',by rw[jH nb];exact e',q.ext ex⟩
  | ins _ _=>obtain⟨oo,uu,e'⟩:=this;exact⟨oo,uu,by rw[jH nb];exact e'⟩
end
section
variable {X:Cx}{pos:Pos}{a b:aC}
abbrev zu (x y:A)(S:jz):R A:=match x,y with
 | .ref n,.int k=>opt (lE S n) λkvs=>opt (nI kvs k) λv=>.ok v S
 | _,_=>.no
def LU{x:A}{P:A->jz->Prop}{E:Str->jz->Prop}(h:(zu x y S).post P E):∃n k kvs v,x=.ref n/\y=.int k/\lE S n=some kvs/\nI kvs k=some v/\P v S:=by
 unfold zu at h;split at h
 ·obtain⟨kvs,h1,h⟩:=jF h;obtain⟨v,h2,h⟩:=jF h;exact⟨_,_,kvs,v,rfl,rfl,h1,h2,h⟩
 ·exact h.elim
def ZD(hu:X.A.units+64<cLine):Wi X (r2 X zu):=λvalue slice pins s σ H x y v u Q I rx ry ⟨ρ,S,a,b,R,va,vb,h⟩ hs=>by
 obtain⟨n,k,kvs,z,ha,hb,hn,hz,hP⟩:=LU h;subst ha hb
 cases vb
 cases va with
 | @ref p _ hp=>
  obtain⟨ks,e,d⟩:=R.pK hp (qz hn);obtain⟨w,hw,aw⟩:=(d.look k).2 z hz;have g:xq H p (kV (Sum.inl k)) (qE ks (Sum.inl k)):=xq.k e;rw[hw]at g;exact Lj () value slice pins s σ H _ _ v u Q I rx ry ⟨p,w,rfl,g,hP _ _ _ .refl R aw⟩ hs
def DG(hu:X.A.units+64<cLine){ca cb:Ex}(ha:AE X a ca)(hb:AE X b cb)(hs:AJ b:=by exact λ_ _=>rfl):AE X (.Subscript a b pos) (jA zu ca cb):=PE.imp (OP (ZD hu) ha hb hs) λσ H Q h=>wj h
abbrev CL (o i v:A)(S:jz):R Unit:=match o,i with
 | .ref n,.int k=>opt (lE S n) λkvs=>gd (kvs.length<sizeLine) (.ok Unit.unit (S.set n (.pK (zC kvs k v))))
 | _,_=>.no
def HK{x v:A}{S:jz}{P:Unit->jz->Prop}{E:Str->jz->Prop}(h:(CL x y v S).post P E):∃n k kvs,x=.ref n/\y=.int k/\lE S n=some kvs/\kvs.length<sizeLine/\P Unit.unit (S.set n (.pK (zC kvs k v))):=by
 unfold CL at h;split at h
 ·obtain⟨kvs,h1,h⟩:=jF h;obtain⟨h2,h⟩:=jY h;exact⟨_,_,kvs,rfl,rfl,h1,h2,h⟩
 ·exact h.elim
abbrev abq (X:Cx):MJ:=λo i v H Q=>∃ρ S ao ai av,Rel X.K ρ H S/\AV X.K ρ H ao o/\AV X.K ρ H ai i/\AV X.K ρ H av v/\(CL ao ai av S).post (λ_ S'=>∀ρ' H',Ext ρ ρ' H H'->Rel X.K ρ' H' S'->Q H') (XE X ρ H)
def Ve(hu:X.A.units+64<cLine):Mw X (abq X):=λpins s σ H o i v ov iv u Q I ro ri rv h9=>by
 obtain⟨ρ,S,ao,ai,av,R,h1,h2,h3,h⟩:=h9;obtain⟨n,k,kvs,ha,hb,hn,hl,hP⟩:=HK h;subst ha hb
 cases h2
 cases h1 with
 | @ref p _ hp=>
  obtain⟨ks,e,d⟩:=R.pK hp (qz hn);obtain⟨ex,R'⟩:=R.zC hp (qz hn) (d.put h3 k);exact set_dict (by omega) pins s σ H _ _ v ov iv u Q I ro ri rv ⟨p,_,rfl,Gy.k (k:=Sum.inl k) e (by rw[<- d.length];exact hl),hP _ _ ex R'⟩
abbrev Fl (co ci:Ex):Tg:=λa τ S=>(co τ S).bind λo S1=>(ci τ S1).bind λi S2=>(CL o i a S2).bind λ_ S3=>.ok τ S3
def AD(hu:X.A.units+64<cLine){co ci:Ex}(ho:AE X o co)(hi:AE X i ci)
  (ha:∀v,assign (.Subscript o i pos) X.env v=(do
   let ov <- holding [v] (eval o X.env)
   let iv <- holding [v,ov] (eval i X.env)
   standAt pos
   holding [v,ov,iv] (setItem ov iv v)
   release [v,ov,iv] []):=by intro _;rfl):AG X (.Subscript o i pos) (Fl co ci):=PG.imp (IP ho hi (Ve hu) ha) λv σ H Q h9=>by
 obtain⟨ρ,S,τ,a,R,r,va,h⟩:=h9;kd_p;kpc_g;exact h3 ρ3 H3 σ ((e1.trans e2).trans e3) R3 (r.ext ((e1.trans e2).trans e3))
abbrev BQ:Ex:=λ_ S=>.ok (.ref S.length) (S++[.pK []])
def B8:AE X (.Dict [] [] pos) BQ:=PE.imp Qf λσ H Q ⟨ρ,S,τ,R,r,h⟩ p hp=>by
 obtain⟨ex,R',hl⟩:=R.aaG (xs:=[]) (vs:=[]) hp trivial;exact h _ _ _ ex R' (.ref hl)
abbrev dk? (a:A)(S:jz):Option Unit:=match a with
 | .ref n=>(lE S n).map λ_=>Unit.unit
 | _=>none
abbrev FD (f:A->ae->jz->R A)(co:Ex)(d:sP):Ex:=λτ S=>(co τ S).bind λx S1=>opt (dk? x S1) λ_=>(d τ S1).bind λas S2=>f x as S2
def dk?_ty{K:au}{H:Hp}{x:A}{v:V}(R:Rel K ρ H S)(a:AV K ρ H x v)(e:dk? x S=some u):tyV K "dict" v H:=by
 cases a with
 | @ref p n h=>
  obtain⟨xs,hx,_⟩:=aX.mp e;obtain⟨vs,h1,_⟩:=R.pK h (qz hx);exact .inr (.inr (.inl ⟨rfl,.inl ⟨vs,h1⟩⟩))
 | _=>cases e
def DX{e:aC}{id:String}{apos cpos:Pos}{f:A->ae->jz->R A}{co:Ex}{d:sP}(slot:Slot "dict" name id)(hty:typeOf (.builtin id)=pure (.type "method_descriptor"))(hm:Vw X id (rM X f))(ho:AE X o co)(ha:AL X (e::es) d)
  (hbase:attributeBase o name X.env (eval o X.env)=eval o X.env:=by rfl)
  (hfew:((backTo cpos (starEach (e::es) X.env)).all (λx=>!x.1) && (backToKw cpos (keywordEach [] X.env)).all (λx=>x.1.isSome)
   && decide ((e::es).length+([]:List Keyword).length+(if ([]:List Keyword).isEmpty then 0 else 1)<30))=true:=by rfl)
  (hline:(apos.endLine == cpos.line)=true:=by rfl) (hs:starEach (e::es) X.env=(false,eval e X.env)::starEach es X.env:=by rfl) (hplain:(backTo cpos (starEach es X.env)).any (·.1)=false:=by rfl) :
  AE X (.Call (.Attribute o name apos) (e::es) [] cpos) (FD f co d):=PE.imp (NQ PySem.F.plainAttrs_dict slot hty hm ho ha hbase hfew hline hs hplain) λσ H Q h9=>by
 room;refine⟨ρ,S,τ,R,r,jC (jD h) .refl λx S1 h1 ρ1 H1 v e1 R1 v1=>?_⟩;obtain⟨xs,hx,h1⟩:=jF h1;refine⟨dk?_ty R1 v1 hx,ρ1,S1,τ,R1,r.ext e1,jC (jD h1) e1 λas S2 h2 ρ2 H2 vs e2 R2 v2=>?_⟩;exact⟨ρ2,S2,x,as,R2,v1.ext e2,v2,jC h2 (e1.trans e2) λ_ _ z=>z.ext (e1.trans e2)⟩
abbrev wI (o:A)(as:ae)(S:jz):R A:=match o,as with
 | .ref n,[.int k,y]=>opt (lE S n) λkvs=>.ok ((nI kvs k).getD y) S
 | _,_=>.no
def Hz{x:A}{P:A->jz->Prop}{E:Str->jz->Prop}(h:(wI x as S).post P E):∃n k y kvs,x=.ref n/\as=[.int k,y]/\lE S n=some kvs/\P ((nI kvs k).getD y) S:=by
 unfold wI at h;split at h
 ·obtain⟨kvs,h1,h⟩:=jF h;exact⟨_,_,_,kvs,rfl,rfl,h1,h⟩
 ·exact h.elim
def EV(hu:X.A.units+64<cLine):Vw X "dict.get" (rM X wI):=λpins s σ H x vs v us Q I rx rv h9=>by
 obtain⟨ρ,S,o,as,R,vo,va,h⟩:=h9;obtain⟨n,k,y,kvs,ho,has,hn,hP⟩:=Hz h;subst ho has;obtain⟨w1,w2,rfl,hz,hy⟩:=XF va
 cases hz
 cases vo with
 | @ref p _ hp=>
  obtain⟨ks,h1,dv⟩:=R.pK hp (qz hn)
  cases rx
  obtain⟨u1,u2,rfl,r1,r2⟩:=vals2 rv;refine WE () I (xq.k (k:=Sum.inl k) h1) r1 r2 λw' s' I' rw'=>⟨_,H,I',rw',hP _ _ _ .refl R ?_⟩;obtain⟨l1,l2⟩:=dv.look k
  cases e1:nI kvs k with
  | none=>
   rw[e1]at l1
   cases e2:qE ks (Sum.inl k:Key)with
   | none=>exact hy
   | some _=>rw[e2]at l1;cases l1
  | some x1=>
   obtain⟨v1,e2,a1⟩:=l2 x1 e1;rw[e2];exact a1
end
section
variable {X:Cx}
abbrev X8 (n:Nat)(S:jz):R A:=opt (jV S n) λkvs=>match (kvs.map Prod.fst).all (λks=>!ks.isEmpty)with
 | true=>.ok (.ref S.length) (S++[.lst ((mE (kvs.map Prod.fst)).map λks=>.tup (ks.map .int))])
 | false=>.no
abbrev uV (x:A)(S:jz):R A:=match x with
 | .ref n=>X8 n S
 | _=>.no
theorem JF{K:au}{H:Hp}:∀{kvs:List (ag×A)}{ks:List (List Key×V)},DV K ρ H kvs ks->ks.map (λp=>p.1)=(kvs.map Prod.fst).map (λks=>ks.map Sum.inl)
 | [],[],_=>rfl
 | a::kvs,b::ks,⟨z,t⟩=>by
  have:=JF t;show b.1::ks.map _=a.1.map Sum.inl::_;rw[this,z.1]
def EM(hc:X.calm=true):j9 X (.builtin "sorted") (rN X (f1 uV)):=j9.imp (D_ hc) λvs H Q h0=>by
 gn_on;clear h0
 cases hv with
 | ref hp=>
  rename_i p n;obtain⟨kvs,hn,h⟩:=jF h;obtain⟨ks,g1,dv⟩:=R.dct hp (oK hn)
  cases hb:(kvs.map Prod.fst).all (λks=>!ks.isEmpty)with
  | false=>rw[hb]at h;exact h.elim
  | true=>
   rw[hb]at h;refine⟨p,ks,kvs.map Prod.fst,rfl,g1,JF dv,λk hk z=>?_,λrs l g hl hh hl' hc hs=>?_⟩
   ·have:=eL.mp hb k hk;rw[z]at this
    cases this
   have av:AVs X.K ρ H ((mE (kvs.map Prod.fst)).map λks=>.tup (ks.map .int)) (((List.range (kvs.map Prod.fst).length).map λi=>rs.getD (g i) 0).map V.ref):=by
    rw[<- Ou hc hs,bh,bh];refine DT λi hi=>?_;have lt:=(hc i (bL _) (cU.mp hi)).2;have e1:rs[g i]?=some (rs.getD (g i) 0):=by rw[aI,aF (by rw[hl];exact lt)];rfl
    have e2:(kvs.map Prod.fst)[g i]?=some ((kvs.map Prod.fst).getD (g i) []):=by rw[aI,aF lt];rfl
    exact .tup (hh _ _ _ e1 e2) (tV _)
   exact nO R av .refl h l hl'
 | _=>exact h.elim
end
abbrev SW:ae->Option (List (Int×A))
 | []=>some []
 | .tup [.int k,x]::r=>(SW r).map λps=>(k,x)::ps
 | _=>none
abbrev SD (ps:List (Int×A)):List (Int×A):=ps.foldl (λacc p=>zC acc p.1 p.2) []
section
variable {K:au}{ρ:bd}{H:Hp}
def Us{x:A}(r:AVs K ρ H [x,y] vs):∃v w,vs=[v,w]/\AV K ρ H x v/\AV K ρ H y w:=by
 cases r with
 | cons h t=>cases t with
  | cons h' t'=>cases t';exact⟨_,_,rfl,h,h'⟩
def Ny{x:A}(e:SW (x::xs)=some ps):∃k y ps',x=.tup [.int k,y]/\SW xs=some ps'/\ps=(k,y)::ps':=by
 unfold SW at e;split at e
 ·rename_i e2;cases e2
 ·rename_i k y r e2
  cases e2
  obtain⟨ps',h1,h2⟩:=aX.mp e;exact⟨_,_,_,rfl,h1,h2.symm⟩
 ·cases e
def Y_:∀{xs:ae}{vs:List V}{ps:List (Int×A)},AVs K ρ H xs vs->SW xs=some ps ->
  ∃(rs:bd) (qs:List (Int×V)),vs=rs.map V.ref/\rs.length=qs.length/\(∀(i:Nat) (r:ak) (q:Int×V),rs[i]?=some r->qs[i]?=some q->m_ K H r [.int q.1,q.2]) /\
   ∀as bs,DI K ρ H as bs->DI K ρ H (ps.foldl (λacc p=>zC acc p.1 p.2) as) (qs.foldl (λacc p=>putK acc (Sum.inl p.1) p.2) bs):=by
 intro xs
 induction xs with
 | nil=>intro vs ps r e;cases r;cases e;exact⟨[],[],rfl,rfl,λi r q h=>by simp at h,λas bs h=>h⟩
 | cons x xs ih=>
  intro vs ps r e;obtain⟨k,y,ps',rfl,e1,rfl⟩:=Ny e
  cases r with
  | cons h t=>
   obtain⟨rs,qs,rfl,hl,hh,hd⟩:=ih t e1
   cases h with
   | @tup a _ us h r=>
    obtain⟨v,w,rfl,h1,h2⟩:=Us r
    cases h1
    refine⟨a::rs,(k,w)::qs,rfl,by rw[bq,bq,hl],λi r q e1 e2=>?_,λas bs d=>hd _ _ (d.put h2 k)⟩
    cases i with
    | zero=>cases e1;cases e2;exact m_.of h
    | succ i=>exact hh i r q (by simpa using e1) (by simpa using e2)
end
section
variable {X:Cx}
abbrev Hw (x:A)(S:jz):R A:=match x with
 | .ref n=>opt (ju S n) λxs=>opt (SW xs) λps=>.ok (.ref S.length) (S++[.pK (SD ps)])
 | _=>.no
def To(hc:X.calm=true):j9 X (.type "dict") (rN X (f1 Hw)):=j9.imp (HB hc) λvs H Q h0=>by
 gn_on;clear h0
 cases hv with
 | ref hp=>
  rename_i p n;gp_on;obtain⟨ps,hb,h⟩:=jF h;obtain⟨us,h1,r⟩:=R.lst hp (jN hn);obtain⟨rs,qs,rfl,hl,hh,hd⟩:=Y_ r hb;refine⟨p,rs,qs,rfl,rG.of h1,hl,hh,λl hl'=>?_⟩;obtain⟨ex,R',hl⟩:=R.aaG (xs:=SD ps) (vs:=ptP qs) hl' (hd [] [] trivial);exact h _ _ _ ex R' (.ref hl)
 | _=>exact h.elim
abbrev zf (x:A)(S:jz):R A:=match x with
 | .ref n=>opt (lE S n) λkvs=>.ok (.ref S.length) (S++[.lst ((sortI (kvs.map Prod.fst)).map .int)])
 | _=>.no
def Tz{ns:ag}{g:Nat->Nat}(c:Sx.Cl g 0 ns.length)(so:Sx.So (SO ns) g 0 ns.length):(List.range ns.length).map (λi=>ns.getD (g i) 0)=sortI ns:=by
 refine Uw ?_ ?_ (Ba ns)
 ·refine List.Perm.trans ?_ (sortI_perm ns).symm;have p:=uD (N:=ns.length) (g:=g) (λi hi=>(c i (bL _) hi).2) λi j hij hj z=>by
   have:=so i j (bL _) hij hj;rw[z]at this;exact this.MV
  have:=p.map λi=>ns.getD i 0;rw[bh,range_getD]at this;exact this
 ·rw[cG];intro i j hi hj hij;rw[aH,cF]at hi hj;rw[dh,dh,eX,eX];have:=dB (so i j (bL _) hij hj).ge
  lia
def J_(hc:X.calm=true):j9 X (.builtin "sorted") (rN X (f1 zf)):=j9.imp (Ey hc) λvs H Q h0=>by
 gn_on;clear h0
 cases hv with
 | ref hp=>
  rename_i p n;obtain⟨kvs,hn,h⟩:=jF h;obtain⟨ks,g1,dv⟩:=R.pK hp (qz hn);refine⟨p,ks,kvs.map Prod.fst,rfl,g1,by rw[dv.keys,bh];rfl,λl g hl' hc hs=>?_⟩;have av:AVs X.K ρ H ((sortI (kvs.map Prod.fst)).map .int) ((List.range (kvs.map Prod.fst).length).map λi=>V.int ((kvs.map Prod.fst).getD (g i) 0)):=by
   rw[<- Tz hc hs,bh];exact DT λi _=>.int _
  exact nO R av .refl h l hl'
 | _=>exact h.elim
@[irreducible] noncomputable def big:Nat:=2 ^ 4096
theorem Ak:big=2 ^ 4096:=by unfold big;rfl
def E9{i:Int}(h:i.natAbs<big):Builtin.Int.intBits i<=2 ^ 20:=by
 rw[Ak]at h;exact bJ (intBits_le h) ⋯
abbrev F4 (a b:A)(S:jz):R A:=match a,b with
 | .int i,.int j=>gd (i.natAbs<big/\j.natAbs<big) (.ok (.int (i * j)) S)
 | _,_=>.no
def Ob:pT X (binaryOp .Mult) (r2 X F4):=λpins s σ H x y v u Q I rx ry h9=>by
 z_go
 cases va with
 | int i=>cases vb with
  | int j=>
   obtain⟨⟨h1,h2⟩,h⟩:=jY h;obtain⟨t,rfl⟩:∃t,v=Value.int i t:=rx;obtain⟨t',rfl⟩:∃t,u=Value.int j t:=ry;exact mul_int ⟨.int _,H,I.tok _,⟨_,rfl⟩,h _ _ _ .refl R (.int _)⟩ (IntMulOk.of_bits (E9 h1) (E9 h2))
  | _=>exact h.elim
 | _=>exact h.elim
end
def UL:bootBuiltins "dict" = some (.type "dict"):=by decide +kernel
abbrev kA (p:Int×Int):A:=.ktu [.int p.1,.int p.2]
abbrev Na (K:au):af->Option (Int×Int)
 | .ref b=>match K.lookup b with
  | some ⟨.type "tuple",none,.seq its _,_⟩=>match its.toList with
   | [.int i _,.int j _]=>some (i,j)
   | _=>none
  | _=>none
 | _=>none
abbrev Ii (K:au):ba->Option (List (Int×Int))
 | []=>some []
 | v::vs=>(Na K v).bind λp=>(Ii K vs).map λps=>p::ps
abbrev YX (K:au)(a:ak):Option (List (Int×Int)):=match K.lookup a with
 | some ⟨.type "list",none,.seq its _,_⟩=>if its.size<=sizeLine then Ii K its.toList else none
 | _=>none
def Ni{K:au}{v:af}{p:Int×Int}(h:Na K v=some p):∃b,v=.ref b/\KTp K b [.int p.1,.int p.2]:=by
 unfold Na at h;split at h
 ·rename_i b;refine⟨b,rfl,?_⟩;split at h
  ·rename_i its n sl e;split at h
   ·rename_i i t j u e2
    cases h
    refine⟨_,its,n,e,rfl,rfl,rfl,?_,?_⟩
    ·rw[<- dP,e2];show 2<=sizeLine;decide
    ·rw[e2];exact .cons ⟨t,rfl⟩ (.cons ⟨u,rfl⟩ .nil)
   ·cases h
  ·cases h
 ·cases h
def LM{K:au}{H:Hp}:∀{vs:ba}{ps:List (Int×Int)},Ii K vs=some ps->∃us:List V,Vals us vs/\AVs K ρ H (ps.map kA) us:=by
 intro vs
 induction vs with
 | nil=>intro ps h;cases h;exact⟨[],.nil,.nil⟩
 | cons v vs ih=>
  intro ps h;obtain⟨p,h1,h⟩:=cV.mp h;obtain⟨qs,h2,rfl⟩:=aX.mp h;obtain⟨us,h3,h4⟩:=ih h2;obtain⟨b,rfl,h5⟩:=Ni h1;exact⟨.ref b::us,.cons rfl h3,.cons (.ktu h5 (.cons (.int _) (.cons (.int _) .nil))) h4⟩
def Yz{K:au}{H:Hp}{a:ak}{ps:List (Int×Int)}(h:YX K a=some ps):AV K ρ H (.frz (ps.map kA)) (.ref a):=by
 unfold YX at h;split at h
 ·rename_i its n sl e;split at h
  ·rename_i hz;obtain⟨us,h1,h2⟩:=LM (ρ:=ρ) (H:=H) h;exact .frz (.inr ⟨_,its,n,e,rfl,rfl,rfl,hz,h1⟩) h2
  ·cases h
 ·cases h
def Oi{X:Cx}{x:Str}{a:ak}{ps:List (Int×Int)}(hm:X.mg x=some (.ref a))(hk:YX X.K a=some ps)(hg:Gl X x:=by rfl)(hd:(x == ("__debug__" : Str))=false:=by decide):AE X (.Name x pos) (eC (.frz (ps.map kA))):=
 PE.imp (Tw (v:=.ref a) hg hm rfl hd) λσ H Q h9=>by
  room;exact h ρ H _ .refl R (Yz hk)
abbrev BU {α:Type}(x:ag×α):List (ag×α)->List (ag×α)
 | []=>[x]
 | y::ys=>if HT.lexLt y.1 x.1=true then y::BU x ys else x::y::ys
abbrev nF {α:Type}:List (ag×α)->List (ag×α)
 | []=>[]
 | x::xs=>BU x (nF xs)
section
variable {α:Type}
theorem CH(x:ag×α):∀ys:List (ag×α),(BU x ys).Perm (x::ys)
 | []=>eW _
 | y::ys=>by
  unfold BU;by_cases h:HT.lexLt y.1 x.1=true
  ·rw[aK h];exact((CH x ys).cons y).trans (List.Perm.swap x y ys)
  ·rw[aJ h]
theorem rm:∀xs:List (ag×α),(nF xs).Perm xs
 | []=>eW _
 | x::xs=>(CH x (nF xs)).trans ((rm xs).cons x)
theorem Gp(x:ag×α):∀ys:List (ag×α),(BU x ys).map Prod.fst=Ez x.1 (ys.map Prod.fst)
 | []=>rfl
 | y::ys=>by
  unfold BU;rw[bB];unfold Ez;by_cases h:HT.lexLt y.1 x.1=true
  ·rw[aK h,aK h,bB,Gp]
  ·rw[aJ h,aJ h];rfl
theorem CD:∀xs:List (ag×α),(nF xs).map Prod.fst=mE (xs.map Prod.fst)
 | []=>rfl
 | x::xs=>by
  show(BU x (nF xs)).map Prod.fst=Ez x.1 (mE (xs.map Prod.fst));rw[Gp,CD]
theorem DN:∀{l:List (ag×α)},(l.map Prod.fst).Nodup->∀a∈l,∀b∈l,a.1=b.1->a=b
 | [],_,_,h,_,_,_=>nomatch h
 | x::l,nd,a,ha,b,hb,e=>by
  obtain⟨h1,h2⟩:=cR.mp nd
  rcases bF.mp ha with ea|ha'
  ·rcases bF.mp hb with eb|hb'
   ·rw[ea,eb]
   ·subst ea;exact absurd (e ▸ fN hb') h1
  ·rcases bF.mp hb with eb|hb'
   ·subst eb;exact absurd (e ▸ fN ha') h1
   ·exact DN h2 a ha' b hb' e
def Bw{xs ys:List (ag×α)}(nd:(ys.map Prod.fst).Nodup)(p:xs.Perm ys)(h:(xs.map Prod.fst).Pairwise EU):xs=nF ys:=by
 refine dW (le:=λ(a b:ag×α)=>EU a.1 b.1) (λ(a b:ag×α) ha hb h1 h2=>DN nd a (p.mem_iff.mp ha) b ((rm ys).mem_iff.mp hb) (Sx.ya (show HT.lexLt b.1 a.1=false from h1) (show HT.lexLt a.1 b.1=false from h2)).symm) ?_ ?_ (p.trans (rm ys).symm)
 ·exact cK.mp h
 ·have:=tM (ys.map Prod.fst);rw[<- CD]at this;exact cK.mp this
def S0{ps:List (ag×α)}{d:α}{g:Nat->Nat}(nd:(ps.map Prod.fst).Nodup)(c:Sx.Cl g 0 (ps.map Prod.fst).length)(so:Sx.So (Sx.Cm (ps.map Prod.fst)) g 0 (ps.map Prod.fst).length):(List.range (ps.map Prod.fst).length).map (λi=>ps.getD (g i) ([],d))=nF ps:=by
 refine Bw nd ?_ ?_
 ·have p:=uD (N:=(ps.map Prod.fst).length) (g:=g) (λi hi=>(c i (bL _) hi).2) λi j hij hj z=>by
   have:=so i j (bL _) hij hj;rw[z]at this;exact this.MV
  have:=p.map λi=>ps.getD i ([],d);rw[bh,aH,range_getD]at this;rw[aH];exact this
 ·rw[bh];have e:(Prod.fst ∘ λi=>ps.getD (g i) ([],d))=λi=>(ps.map Prod.fst).getD (g i) []:=funext λi=>by
   show(ps.getD (g i) ([],d)).1=_;rw[aI,aI,aO]
   cases ps[g i]?<;>rfl
  rw[e,Ou c so];exact tM _
end
abbrev YY:ae->Option (List (ag×A))
 | []=>some []
 | .tup [.tup xs,y]::r=>match A.ints xs with
  | some ks=>(YY r).map λrs=>(ks,y)::rs
  | _=>none
 | _=>none
theorem O8{K:au}{H:Hp}:∀{xs:ae}{vs:List V}{ps:List (ag×A)},AVs K ρ H xs vs->YY xs=some ps ->
  ∃rs:bd,vs=rs.map V.ref/\rs.length=ps.length/\∀(i:Nat) (r:ak) (e:ag×A),rs[i]?=some r->ps[i]?=some e->(∃(a:ak) (v:V),m_ K H r [.ref a,v]/\m_ K H a (e.1.map V.int))/\AV K ρ H (.tup [.tup (e.1.map .int),e.2]) (.ref r)
 | [],_,_,.nil,e=>by cases e;exact⟨[],rfl,rfl,λi r ks h=>by simp at h⟩
 | x::xs,_,ps,.cons h t,e=>by
  unfold YY at e;split at e
  ·rename_i z;cases z
  ·rename_i ys y r' z
   cases z
   cases e1:A.ints ys with
   | none=>rw[e1]at e;cases e
   | some ks=>
    rw[e1]at e;obtain⟨ps',e2,rfl⟩:=aX.mp e;obtain⟨rs,rfl,hl,hh⟩:=O8 t e2
    cases h with
    | tup h r=>cases r with
     | cons h1 r=>cases r with
      | cons h2 r=>
       cases r
       cases h1 with
       | tup h3 r3=>
        have ev:=Ag r3 e1;subst ev;rename_i p _ q;refine⟨_::rs,rfl,by rw[bq,bq,hl],λi r' e' g1 g2=>?_⟩
        cases i with
        | zero=>
         cases g1
         cases g2
         exact⟨⟨_,_,m_.of h,m_.of h3⟩,.tup h (.cons (.tup h3 (tV _)) (.cons h2 .nil))⟩
        | succ i=>exact hh i r' e' (by simpa using g1) (by simpa using g2)
  ·cases e
section
variable {X:Cx}
abbrev Ed (x:A)(S:jz):R A:=match x with
 | .ref n=>opt (ju S n) λxs=>opt (YY xs) λps=>gd (ps.map Prod.fst).Nodup (.ok (.ref S.length) (S++[.lst ((nF ps).map λe=>.tup [.tup (e.1.map .int),e.2])]))
 | _=>.no
def QE(hu:X.A.units+64<cLine):j9 X (.builtin "sorted") (rN X (f1 Ed)):=j9.imp (Eg hu) λvs H Q h0=>by
 gn_on;clear h0
 cases hv with
 | ref hp=>
  rename_i p n;gp_on;obtain⟨ps,hb,h⟩:=jF h;obtain⟨nd,h⟩:=jY h;obtain⟨us,h1,r⟩:=R.lst hp (jN hn);obtain⟨rs,rfl,hl,hh⟩:=O8 r hb;have at_:∀(i:Nat) (ks:ag),(ps.map Prod.fst)[i]?=some ks->∃e,ps[i]?=some e/\e.1=ks:=λi ks h=>by
   rw[aO]at h;exact aX.mp h
  refine⟨p,rs,ps.map Prod.fst,rfl,rG.of h1,by rw[aH,hl],λi j hi hj z=>(dF nd).mp z,λi r ks e1 e2=>?_,λl g hl' hc hs=>?_⟩
  ·obtain⟨e,g1,rfl⟩:=at_ i ks e2;exact(hh i r e e1 g1).1
  have av:AVs X.K ρ H ((nF ps).map λe=>.tup [.tup (e.1.map .int),e.2]) (((List.range (ps.map Prod.fst).length).map λi=>rs.getD (g i) 0).map V.ref):=by
   rw[<- S0 (d:=.non) nd hc hs,bh,bh];refine DT λi hi=>?_;have lt:=(hc i (bL _) (cU.mp hi)).2;rw[aH]at lt;have e1:rs[g i]?=some (rs.getD (g i) 0):=by rw[aI,aF (by omega)];rfl
   have e2:ps[g i]?=some (ps.getD (g i) ([],.non)):=by rw[aI,aF lt];rfl
   exact(hh _ _ _ e1 e2).2
  exact nO R av .refl h l hl'
 | _=>exact h.elim
end
abbrev Df (K:au)(x:Str)(st:aE):Prop:=∃(f:ak) (fd:FuncData),PySem.W.nsIn K mainGlobals x=some (some (.ref f))/\Fun K x x st f fd
inductive En (P:aj) (w:ah) (K:au) (mg:Str->bi) (base:aq):Prop
 | mk (h:aq) (X:K.In h) (G:h.Ns mainGlobals mg)
section
variable {P:aj}{w:ah}{K:au}{mg:Str->bi}{base:aq}{x:Str}{st:aE}{ps:ar}{k:Nat}{F:ae->jz->R A}
def En.at(E:En P w K mg base){f:ak}(h:PySem.W.nsIn K mainGlobals x=some (some (.ref f))):mg x=some (.ref f):=by
 obtain⟨_,X,G⟩:=E;exact PySem.W.mg_of X G h
def Df.of{f:ak}{kV pm ct:af}(a:PySem.W.nsIn K mainGlobals x=some (some (.ref f)))(l:K.lookup f=some ⟨oc,od,.func (PySem.W.fnOf x x (v8 st) (rP st) (jE st) .none kV doc pm an cdv ct),osl⟩)(c:PySem.W.codeIn K cdv x=true)(k:PySem.W.keepIn K (.ref f)=true):Df K x st:=⟨f,_,a,Yl l c k⟩
meta abbrev Bi (x:Str)(st:aE)(ps:ar):Prop:=∀us:ba,us.length=ps.length->∀(kV doc pm:af) (an:Option ak) (cdv ct:af),bindArgs (PySem.W.fnOf x x (v8 st) (rP st) (jE st) .none kV doc pm an cdv ct) ⟨us,[]⟩=pure (ps.zip us)
def Df.get(d:Df K x st)(E:En P w K mg base)(b:Bi x st ps):∃f fd,Fun K x x st f fd/\mg x=some (.ref f)/\PySem.W.keepIn K (.ref f)=true/\Binds K fd ps []:=by
 obtain⟨f,fd,a,F⟩:=d;exact⟨f,fd,F,E.at a,F.kp,F.binds λkV doc pm an cdv ct us hl=>b us hl kV doc pm an cdv ct⟩
def Df.kA(d:Df K x st)(E:En P w K mg base)(h:∀{f fd},Fun K x x st f fd->FnOk P w K mg base oU k f fd ps (pR K ps.length F))(b:Bi x st ps):nA P w K mg base k x ps F:=by
 obtain⟨f,fd,a,c,e,g⟩:=d.get E b;exact⟨f,fd,h a,c,e,g⟩
def Df.rA(d:Df K x st)(E:En P w K mg base)(h:∀{f fd},Fun K x x st f fd->mg x=some (.ref f)->PySem.W.keepIn K (.ref f)=true->Binds K fd ps []->FnOk P w K mg base oU k f fd ps (pR K ps.length F))(b:Bi x st ps):nA P w K mg base k x ps F:=by
 obtain⟨f,fd,a,c,e,g⟩:=d.get E b;exact⟨f,fd,h a c e g,c,e,g⟩
end
section
variable {X:Cx}{pos p:Pos}{e1 e2 e3:aC}{x p1 p2 p3:Str}{k K0:Nat}{F:ae->jz->R A}{c1 c2 c3:Ex}
def z_(G:nA X.prog X.w X.K X.mg X.base k x [p1] F)(hr:Room K0 X.A)(h1:AE X e1 c1)(hk:k<=K0:=by decide)(hg:Gl X x:=by rfl)(hdb:(x == ("__debug__" : Str))=false:=by decide)(s1:starEach [e1] X.env=(false,eval e1 X.env)::starEach [] X.env:=by rfl)(hp:(backTo pos (starEach [] X.env)).any (·.1)=false:=by rfl):AE X (.Call (.Name x p) [e1] [] pos) (eFn F (jo c1 jy)):=B3 G (hr.mono hk) (jq h1 jw s1) (lJ uh) hg hdb s1 hp
def vR(G:nA X.prog X.w X.K X.mg X.base k x [p1,p2] F)(hr:Room K0 X.A)(h1:AE X e1 c1)(h2:AE X e2 c2)(hk:k<=K0:=by decide)(hg:Gl X x:=by rfl)(hdb:(x == ("__debug__" : Str))=false:=by decide)(s1:starEach [e1,e2] X.env=(false,eval e1 X.env)::starEach [e2] X.env:=by rfl)(s2:starEach [e2] X.env=(false,eval e2 X.env)::starEach [] X.env:=by rfl)(hp:(backTo pos (starEach [e2] X.env)).any (·.1)=false:=by rfl):AE X (.Call (.Name x p) [e1,e2] [] pos) (eFn F (jo c1 (jo c2 jy))):=B3 G (hr.mono hk) (jq h1 (jq h2 jw s2) s1) (lJ (lJ uh)) hg hdb s1 hp
def MW(G:nA X.prog X.w X.K X.mg X.base k x [p1,p2,p3] F)(hr:Room K0 X.A)(h1:AE X e1 c1)(h2:AE X e2 c2)(h3:AE X e3 c3)(hk:k<=K0:=by decide)(hg:Gl X x:=by rfl)(hdb:(x == ("__debug__" : Str))=false:=by decide)(s1:starEach [e1,e2,e3] X.env=(false,eval e1 X.env)::starEach [e2,e3] X.env:=by rfl)(s2:starEach [e2,e3] X.env=(false,eval e2 X.env)::starEach [e3] X.env:=by rfl)(s3:starEach [e3] X.env=(false,eval e3 X.env)::starEach [] X.env:=by rfl)(hp:(backTo pos (starEach [e2,e3] X.env)).any (·.1)=false:=by rfl):AE X (.Call (.Name x p) [e1,e2,e3] [] pos) (eFn F (jo c1 (jo c2 (jo c3 jy)))):=B3 G (hr.mono hk) (jq h1 (jq h2 (jq h3 jw s3) s2) s1) (lJ (lJ (lJ uh))) hg hdb s1 hp
def sO{N P:ar}{sc:Scope}(a:sc.kind=.function)(b:sc.isCoroutine=false)(c:sc.isGenerator=false)(h:N.Nodup/\N.take P.length=P/\(∀x∈P,sc.names.lookup x=some .local\/sc.names.lookup x=some .cell)/\∀y∈sc.names,y.2≠.free):FnScope N P sc:=⟨a,b,c,h.1,h.2.1,h.2.2.1,h.2.2.2⟩
end
end Am
namespace Bl
open L2
abbrev cnt:ag->Int->Int
 | [],_=>0
 | x::l,j=>(if j<=x then 1 else 0)+cnt l j
abbrev Below (xs ys:ag):Prop:=∀(i:Nat) (j:Int),cnt (xs.take i) j<=cnt (ys.take i) j
def take_snoc{l:ag}{i:Nat}(h:i<l.length):l.take (i+1)=l.take i++[l[i]]:=by
 rw[List.take_succ,aF h];rfl
def Jp{l:ag}{p:Nat}(h:p<l.length)(v:Int)(i:Nat)(j:Int) :
  cnt ((l.set p v).take i) j=cnt (l.take i) j+(if p<i then(if j<=v then 1 else 0)-(if j<=l[p]then 1 else 0)else 0):=by
 induction l generalizing p i with
 | nil=>cases h
 | cons x l ih=>
  cases i with
  | zero=>simp[cnt]
  | succ i=>
   cases p with
   | zero=>
    show(if j<=v then 1 else 0)+cnt (l.take i) j=(if j<=x then 1 else 0)+cnt (l.take i) j+_;rw[aK (Nat.succ_pos _)];show _=(if j<=x then 1 else 0)+cnt (l.take i) j+((if j<=v then 1 else 0)-(if j<=x then 1 else 0))
    lia
   | succ p=>
    show(if j<=x then 1 else 0)+cnt ((l.set p v).take i) j=(if j<=x then 1 else 0)+cnt (l.take i) j+_;have hp:p<l.length:=ie h;rw[ih hp];by_cases z:p<i
    ·rw[aK z,aK (Nat.succ_lt_succ z)];show _=(if j<=x then 1 else 0)+cnt (l.take i) j+((if j<=v then 1 else 0)-(if j<=l[p]then 1 else 0))
     lia
    ·rw[aJ z,aJ (λy=>z (ie y))]
     lia
def GD{l:ag}{p q:Nat}(hp:p<l.length)(hq:q<l.length)(hpq:p<q)(h:l[p]<l[q]):Below l ((l.set p l[q]).set q l[p]):=by
 intro i j;have hq':q<(l.set p l[q]).length:=by rw[cE];exact hq
 rw[Jp hq',Jp hp];have e:(l.set p l[q])[q]=l[q]:=by rw[List.getElem_set_ne (bD hpq)]
 rw[e]
 (repeat' split)<;>lia
abbrev qQ (a b:ag):Prop:=a.length=b.length/\∀(p:Nat) (h:p<a.length),b[(a[p]-1).toNat]?=some ((p:Int)+1)
end Bl
namespace Am
open PySem L2 Bl
def ZN{S:jz}{n:Nat}{x:A}{k:Nat}(h:ju S n=some [x])(hk:k<=16777216):Ew (.ref n) (.int k) S=.ok (.ref S.length) (S++[.lst (List.replicate k x)]):=by
 show opt (ju S n) _=_;rw[h,ki];have e:(List.replicate k [x]).flatten=List.replicate k x:=by
  induction k with
  | zero=>rfl
  | succ k ih=>rw[di,d9,ih ()];rfl
 rw[mF ⟨(),(),by rw[eG,dM];simpa using hk⟩,dM,e]
def Qg{xs:ag}{n:Int}(h:xs.Perm (j8 1 (n+1)))(hn:0<=n):(xs.length:Int)=n:=by
 rw[h.length_eq,m7];lia
def Fi{xs:ag}{n x:Int}(h:xs.Perm (j8 1 (n+1)))(hx:x∈xs):1<=x/\x<=n:=by
 have:=lY.mp (h.mem_iff.mp hx)
 lia
end Am
namespace Tb
abbrev fg (r:ag)(x:Int):Nat:=r.findIdx λy=>decide (x<y)
abbrev put:List (ag)->Int->List (ag)
 | [],x=>[[x]]
 | r::rs,x=>if fg r x=r.length then(r++[x])::rs else r.set (fg r x) x::put rs (r.getD (fg r x) 0)
abbrev row:List (ag)->Int->Nat
 | [],_=>0
 | r::rs,x=>if fg r x=r.length then 0 else row rs (r.getD (fg r x) 0)+1
def Tr{r:ag}{x:Int}(h:fg r x=r.length):put (r::rs) x=(r++[x])::rs:=aK h
def Xh{r:ag}{x:Int}(h:fg r x≠r.length):put (r::rs) x=r.set (fg r x) x::put rs (r.getD (fg r x) 0):=aJ h
def JQ{r:ag}{x:Int}(h:fg r x=r.length):row (r::rs) x=0:=aK h
def NC{r:ag}{x:Int}(h:fg r x≠r.length):row (r::rs) x=row rs (r.getD (fg r x) 0)+1:=aJ h
theorem RQ:∀(T:List (ag)) (x:Int),row T x<=T.length
 | [],_=>aR _
 | r::rs,x=>by
  by_cases h:fg r x=r.length
  ·rw[JQ h];exact bL _
  ·rw[NC h,bq];exact Nat.succ_le_succ (RQ rs _)
abbrev bump:am->Nat->am
 | [],_=>[1]
 | n::ns,0=>(n+1)::ns
 | n::ns,i+1=>n::bump ns i
theorem CM:∀(T:List (ag)) (x:Int),(put T x).map List.length=bump (T.map List.length) (row T x)
 | [],_=>rfl
 | r::rs,x=>by
  by_cases h:fg r x=r.length
  ·rw[Tr h,JQ h,bB,bB,aQ];rfl
  ·rw[Xh h,NC h,bB,bB,cE,CM rs];rfl
theorem GC:∀(ns:am) (i:Nat),i<=ns.length->(bump ns i).length=if i=ns.length then ns.length+1 else ns.length
 | [],i,h=>by
  have:i=0:=by simpa using h
  subst this;rfl
 | n::ns,0,_=>by rw[aJ (by simp)];rfl
 | n::ns,i+1,h=>by
  have h':i<=ns.length:=Nat.le_of_succ_le_succ h;show(bump ns i).length+1=_;rw[GC ns i h'];by_cases e:i=ns.length
  ·rw[aK e,aK (by rw[bq,e])];rfl
  ·rw[aJ e,aJ (by rw[bq];lia)];rfl
def DJ(T:List (ag))(x:Int):(put T x).length=if row T x=T.length then T.length+1 else T.length:=by
 have:=dj List.length (CM T x);rw[aH,GC _ _ (by rw[aH];exact RQ T x),aH]at this;exact this
abbrev add:List (ag)->Nat->Int->List (ag)
 | [],_,k=>[[k]]
 | q::qs,0,k=>(q++[k])::qs
 | q::qs,i+1,k=>q::add qs i k
abbrev gs (r:ag)(x:Int):am:=(List.range r.length).filter λk=>decide (x<r.getD k 0)
end Tb
namespace Am
open PySem L2
abbrev Rows (S:jz):am->List (ag)->Prop
 | [],[]=>True
 | r::rs,x::T=>ju S r=some (x.map .int)/\Rows S rs T
 | _,_=>False
structure Tab (S:jz)(n:Nat)(rs:am)(T:List (ag)):Prop where
 top:ju S n=some (rs.map .ref)
 rows:Rows S rs T
 nd:(n::rs).Nodup
theorem BR{s:Src}{g:Tg}{e:Ex}{T:ae->Prop}(P:Nat->ae->jz->Prop)
  (step:∀i acc τ S,i<s.k->T τ->P i acc S->∃x τ1 S1 y S3,s.get i S=some x/\g x τ S=.ok τ1 S1/\T τ1/\e τ1 S1=.ok y S3/\P (i+1) (acc++[y]) S3) (hfin:∀acc S,P s.k acc S->s.fin S=true) :
  ∀k i acc τ S,k+i=s.k->T τ->P i acc S->∃ys S',mW s g oV e k i τ S=.ok ys S'/\P s.k (acc++ys) S'
 | 0,i,acc,τ,S,hk,hT,hP=>by
  have:i=s.k:=()
  subst this;exact⟨[],S,by unfold mW;rw[aK (hfin acc S hP)],by rw[cH];exact hP⟩
 | k+1,i,acc,τ,S,hk,hT,hP=>by
  obtain⟨x,τ1,S1,y,S3,hx,hg,hT1,he,hP3⟩:=step i acc τ S () hT hP;obtain⟨ys,S',h1,h2⟩:=BR P step hfin k (i+1) (acc++[y]) τ1 S3 () hT1 hP3;refine⟨y::ys,S',?_,by rw[bY]at h2;exact h2⟩;unfold mW;rw[hx,ki,hg,R.k_];show(e τ1 S1).mU _=_;rw[he,R.k_,h1];rfl
def eq_nil{a:Nat}{xs:ae}(h:ju S a=some xs)(h':ju S b=some []):uP S 12 (.ref a) (.ref b)=some xs.isEmpty:=by
 show(ju S a).bind (λxs=>(ju S b).bind λys=>su (uP S 11) xs ys)=_;rw[h,dH,h',dH]
 cases xs<;>rfl
def HD{a:A}{k:Bool}(h:uP S 12 a b=some k):t8 false a b S=.ok (.bl k) S:=by unfold t8;rw[h];rfl
def yU{a:A}{k:Bool}(h:uP S 12 a b=some k):t8 true a b S=.ok (.bl (!k)) S:=by unfold t8;rw[h];rfl
def NV{xs:ae}{n:Nat}{src:Ic}{t:Te}{e:Ex}{S:jz}(hs:src τ S=.ok (kC n xs.length) S)(hx:ju S n=some xs)(p:A->Bool)(f:A->A)
  (ht:∀x∈xs,t (x::kN cap τ) S=.ok (p x) S) (he:∀x∈xs,p x=true->e (x::kN cap τ) S=.ok (f x) S) (hl:xs.length<=16777216) :
  j6 (none::cap) src (j4 0) t e τ S=.ok (.ref S.length) (S++[.lst ((xs.filter p).map f)]):=by
 have hm:∀i,i<xs.length->xs.getD i .unb∈xs:=λi hi=>by
  rw[aI,aF hi];exact cI hi
 rw[yV hs (λi=>xs.getD i .unb) (λi=>p (xs.getD i .unb)) (λi=>f (xs.getD i .unb)) (λi hi=>by
  have hi:i<xs.length:=hi;show(ju S n).bind _=_;rw[hx,dH,aI,aF hi];rfl) (by
   show(match ju S n with
    | some ys=>decide (ys.length<=xs.length)
    | none=>false)=true
   rw[hx];simp) (λi hi=>ht _ (hm i hi)) (λi hi=>he _ (hm i hi)) hl]
 have:=nh xs p f .unb;show R.ok _ (S++[O.lst (((List.range xs.length).filter _).map _)])=_;rw[this]
def getD_at{r:ag}{k:Nat}(h:k<r.length):r[k]?=some (r.getD k 0):=by rw[aI,aF h];rfl
end Am
namespace Wd
open Bl L2
abbrev ex (l:ag)(k:Nat):ag:=(l.set (k-1) (l.getD k 0)).set k (l.getD (k-1) 0)
abbrev led (l:ag)(w:am):ag:=w.foldl ex l
def mh{l:ag}{k:Nat}(h:k<l.length):l.getD k 0=l[k]:=by rw[aI,aF h];rfl
def FO{l:ag}{k:Nat}(h0:1<=k)(h:k<l.length):ex l k=(l.set (k-1) l[k]).set k (l[k-1]'()):=by
 unfold ex;rw[mh h,mh (show k-1<l.length by lia)]
def mq(l:ag)(k:Nat):(ex l k).length=l.length:=by unfold ex;rw[cE,cE]
theorem JP:∀(w:am) (l:ag),(led l w).length=l.length
 | [],_=>rfl
 | k::w,l=>by show(led (ex l k) w).length=_;rw[JP w,mq]
def EA{l:ag}{k:Nat}(h0:1<=k)(h:k<l.length):(ex l k).Perm l:=by
 rw[FO h0 h];exact List.set_set_perm () h
def Aq(a b:am)(l:ag):led l (a++b)=led (led l a) b:=dO
def up{l:ag}{k:Nat}(h0:1<=k)(h:k<l.length)(hr:l[k-1]'()<l[k]):Below l (ex l k):=by
 rw[FO h0 h];exact GD () h () hr
abbrev j0:ag->am->Prop
 | _,[]=>True
 | l,k::w=>1<=k/\k<l.length/\l.getD (k-1) 0<l.getD k 0/\j0 (ex l k) w
theorem j0.snoc:∀{w:am}{l:ag}{k:Nat},j0 l w->1<=k->k<l.length->(led l w).getD (k-1) 0<(led l w).getD k 0->j0 l (w++[k])
 | [],l,k,_,h0,h1,h2=>⟨h0,h1,h2,trivial⟩
 | m::w,l,k,h,h0,h1,h2=>⟨h.1,h.2.1,h.2.2.1,j0.snoc h.2.2.2 h0 (by rw[mq];exact h1) h2⟩
theorem j0.valid:∀{w:am}{l:ag},j0 l w->∀k∈w,1<=k/\k<l.length
 | [],_,_,k,hk=>by cases hk
 | m::w,l,h,k,hk=>by
  rcases bF.mp hk with z|z
  ·rw[z];exact⟨h.1,h.2.1⟩
  ·have:=j0.valid h.2.2.2 k z;rw[mq]at this;exact this
abbrev sw (k:Nat)(x:Int):Int:=if x=k then(k:Int)+1 else if x=(k:Int)+1 then k else x
def ex_map(f:Int->Int){l:ag}{k:Nat}(h0:1<=k)(h:k<l.length):ex (l.map f) k=(ex l k).map f:=by
 rw[FO h0 h,FO h0 (by rw[aH];exact h),iM,iM,dh,dh]
theorem yo(f:Int->Int):∀{w:am}{l:ag},(∀k∈w,1<=k/\k<l.length)->led (l.map f) w=(led l w).map f
 | [],_,_=>rfl
 | k::w,l,h=>by
  have hk:=h k (aM ..);show led (ex (l.map f) k) w=(led (ex l k) w).map f;rw[ex_map f hk.1 hk.2,yo f λm hm=>by rw[mq];exact h m (aN _ hm)]
def qv{n p:Nat}(h:p<n):(j8 1 ((n:Int)+1))[p]?=some ((p:Int)+1):=by
 unfold j8;rw[aO,dQ ()];simp;lia
def jO(n:Nat):(j8 1 ((n:Int)+1)).length=n:=by rw[m7];lia
def oN{l:ag}{k:Nat}(h0:1<=k)(h:k<l.length)(p:Nat):(ex l k)[p]?=if p=k then l[k-1]? else if p=k-1 then l[k]? else l[p]?:=by
 rw[FO h0 h,List.getElem?_set];by_cases h1:k=p
 ·rw[aK h1,aK h1.symm,aK (by rw[cE];lia),aF]
 ·rw[aJ h1,aJ (λz=>h1 z.symm),List.getElem?_set];by_cases h2:k-1=p
  ·rw[aK h2,aK h2.symm,aK (),aF]
  ·rw[aJ h2,aJ (λz=>h2 z.symm)]
def Ql{n k:Nat}(h0:1<=k)(h:k<n):ex (j8 1 ((n:Int)+1)) k=(j8 1 ((n:Int)+1)).map (sw k):=by
 apply cL;intro p;rw[oN h0 (by rw[jO];exact h),aO];by_cases hp:p<n
 ·rw[qv hp,qv h,qv (show k-1<n by lia)];show _=some (sw k ((p:Int)+1));unfold sw;by_cases h1:p=k
  ·rw[aK h1,aJ (),aK ()];congr 1;lia
  ·rw[aJ h1];by_cases h2:p=k-1
   ·rw[aK h2,aK ()]
   ·rw[aJ h2,aJ (),aJ ()]
 ·have e:(j8 1 ((n:Int)+1))[p]?=none:=bQ (by rw[jO];lia);rw[aJ (),aJ (),e];rfl
def C7{A B:ag}{k:Nat}(h0:1<=k)(h:k<A.length)(hb:qQ A B):qQ (ex A k) (B.map (sw k)):=by
 refine⟨by rw[mq,aH];exact hb.1,λp hp=>?_⟩;rw[mq]at hp;have hg:(ex A k)[p]'(by rw[mq];exact hp)=if p=k then A[k-1]'()else if p=k-1 then A[k]else A[p]:=by
  have:=oN h0 h p;rw[aF (by rw[mq];exact hp)]at this;by_cases h1:p=k
  ·rw[aK h1,aF (show k-1<A.length by lia)]at this;rw[aK h1];exact a_ this
  ·rw[aJ h1]at this;rw[aJ h1];by_cases h2:p=k-1
   ·rw[aK h2,aF h]at this;rw[aK h2];exact a_ this
   ·rw[aJ h2,aF hp]at this;rw[aJ h2];exact a_ this
 rw[hg,aO];by_cases h1:p=k
 ·rw[aK h1,hb.2 (k-1) ()];show some (sw k _)=_;unfold sw;rw[aK ()];congr 1;lia
 ·rw[aJ h1];by_cases h2:p=k-1
  ·rw[aK h2,hb.2 k h];show some (sw k _)=_;unfold sw;rw[aJ (),aK ()];congr 1;lia
  ·rw[aJ h2,hb.2 p hp];show some (sw k _)=_;unfold sw;rw[aJ (),aJ ()]
theorem Cc{n:Nat}:∀(w:am),(∀k∈w,1<=k/\k<n)->qQ (led (j8 1 ((n:Int)+1)) w.reverse) (led (j8 1 ((n:Int)+1)) w)
 | [],_=>⟨rfl,λp hp=>by
  have hp:p<n:=by rw[show([]:am).reverse=[]from rfl]at hp;have:p<(j8 1 ((n:Int)+1)).length:=hp;rw[jO]at this;exact this
  have e:(j8 1 ((n:Int)+1))[p]'(by rw[jO];exact hp)=(p:Int)+1:=by
   have:=qv hp;rw[aF (by rw[jO];exact hp)]at this;exact a_ this
  show(j8 1 ((n:Int)+1))[(((j8 1 ((n:Int)+1))[p]'(by rw[jO];exact hp))-1).toNat]?=_;rw[e,show((p:Int)+1-1).toNat=p by lia];exact qv hp⟩
 | k::w,h=>by
  have hk:=h k (aM ..);have hw:=λm hm=>h m (aN k hm);have ih:=Cc w hw;rw[iV,Aq];show qQ (ex (led (j8 1 ((n:Int)+1)) w.reverse) k) (led (ex (j8 1 ((n:Int)+1)) k) w);rw[Ql hk.1 hk.2,yo (sw k) (λm hm=>by rw[jO];exact hw m hm)];exact C7 hk.1 (by rw[JP,jO];exact hk.2) ih
end Wd
namespace Iv
open L2 Bl
abbrev inv:ag->Nat
 | []=>0
 | x::l=>l.countP (λy=>decide (y<x))+inv l
abbrev oH (a b:ag):Nat:=(a.map λx=>b.countP λy=>decide (y<x)).sum
def w_(x:Int)(a b:ag):oH (x::a) b=b.countP (λy=>decide (y<x))+oH a b:=rfl
theorem mj:∀(a b:ag),inv (a++b)=inv a+inv b+oH a b
 | [],b=>by show inv b=0+inv b+0;lia
 | x::a,b=>by
  show(a++b).countP _+inv (a++b)=(a.countP _+inv a)+inv b+oH (x::a) b;rw[List.countP_append,mj a b,w_];lia
theorem yw:∀{a b:am},a.Perm b->a.sum=b.sum
 | _,_,.nil=>rfl
 | _,_,.cons x h=>by rw[gC,gC,yw h]
 | _,_,.swap x y l=>by rw[gC,gC,gC,gC];lia
 | _,_,.trans h k=>(yw h).trans (yw k)
def U7{a:ag}(b:ag)(h:a.Perm a'):oH a b=oH a' b:=yw (h.map _)
def Ut(a:ag){b:ag}(h:b.Perm b'):oH a b=oH a b':=by
 unfold oH;congr 1;refine cP λx _=>h.countP_eq _
def Du{M:ag}{x y:Int}(h:∀m∈M,m<x\/y<m)(hxy:x<y):M.countP (λm=>decide (m<x))=M.countP (λm=>decide (m<y)):=by
 refine List.countP_congr λm hm=>?_;rw[decide_eq_true_iff,decide_eq_true_iff]
 rcases h m hm with z|z<;>omega
theorem zR:∀{M:ag}{x y:Int},(∀m∈M,m<x\/y<m)->x<y->oH M [x]=oH M [y]
 | [],_,_,_,_=>rfl
 | m::M,x,y,h,hxy=>by
  rw[w_,w_,zR (λm' hm=>h m' (aN _ hm)) hxy];congr 1;have:=h m (aM ..);dsimp[i8,List.countP_nil];by_cases c:x<m
  ·rw[bf c,bf (show y<m by omega)]
  ·rw[bw c,bw (show ¬y<m by omega)]
def mid{M:ag}{x y:Int}(h:∀m∈M,m<x\/y<m)(hxy:x<y):inv ([y]++M++[x])=inv ([x]++M++[y])+1:=by
 rw[mj,mj,mj ([x]++M),mj [x]];have e1:oH [y] M=oH [x] M:=by
  show M.countP _+0=M.countP _+0;rw[Du h hxy]
 have e2:oH ([y]++M) [x]=1+oH M [x]:=by
  show[x].countP _+oH M [x]=_;rw[i8,bf hxy];rfl
 have e3:oH ([x]++M) [y]=oH M [y]:=by
  show[y].countP _+oH M [y]=_;rw[i8,bw (by lia:¬y<x)];simp
 rw[e1,e2,e3,zR h hxy]
 skip
 lia
def M_(M:ag)(x y:Int):([y]++M++[x]).Perm ([x]++M++[y]):=by
 refine(List.perm_append_comm (l₁:=[y]++M) (l₂:=[x])).trans ?_
 skip
 exact .cons x (List.perm_append_comm (l₁:=[y]) (l₂:=M))
def step{P M R:ag}{x y:Int}(h:∀m∈M,m<x\/y<m)(hxy:x<y):inv (P++([y]++M++[x])++R)=inv (P++([x]++M++[y])++R)+1:=by
 have p:=M_ M x y;rw[mj,mj P,mj (P++([x]++M++[y])),mj P,mid h hxy,Ut P p,U7 R (p.append_left P)]
 lia
theorem DC:∀(l:ag),inv l<=l.length * l.length
 | []=>aR _
 | x::l=>by
  show l.countP _+inv l<=(l.length+1) * (l.length+1);have h1:=List.countP_le_length (p:=λy=>decide (y<x)) (l:=l);have h2:=DC l;rw[jk,Nat.mul_add]
  lia
abbrev sw (a:ag)(i j:Nat):ag:=(a.set i (a.getD j 0)).set j (a.getD i 0)
def DK(a:ag)(i j:Nat):(sw a i j).length=a.length:=by unfold sw;rw[cE,cE]
def split{a:ag}(hij:i<j)(hj:j<a.length):∃P M R:ag,a=P++([a.getD i 0]++M++[a.getD j 0])++R/\P=a.take i/\(∀m∈M,∃k,i<k/\k<j/\a[k]?=some m)/\sw a i j=P++([a.getD j 0]++M++[a.getD i 0])++R:=by
 have gi:a.getD i 0=a[i]:=by rw[aI,aF ()];rfl
 have gj:a.getD j 0=a[j]:=by rw[aI,aF hj];rfl
 obtain⟨M,hM⟩:∃M,M=(a.drop (i+1)).take (j-i-1):=⟨_,rfl⟩;have lM:M.length=j-i-1:=by rw[hM,bK,dg];lia
 have ea:a=a.take i++([a.getD i 0]++M++[a.getD j 0])++a.drop (j+1):=by
  have h1:a.drop i=a[i]::a.drop (i+1):=cY ();have h2:a.drop (i+1)=M++a.drop j:=by
   rw[hM];have:=iy (j-i-1) (a.drop (i+1));rw[List.drop_drop,show i+1+(j-i-1)=j by lia]at this;exact this.symm
  have h3:a.drop j=a[j]::a.drop (j+1):=cY hj
  conv=>lhs;rw[<- iy i a,h1,h2,h3]
  rw[gi,gj];simp
 refine⟨a.take i,M,a.drop (j+1),ea,rfl,λm hm=>?_,?_⟩
 ·rw[hM]at hm;obtain⟨k,hk⟩:=fj hm;have hlt:k<j-i-1:=by
   have:=(aL.mp hk).1;rw[bK]at this;lia
  rw[gv hlt,fS]at hk;exact⟨i+1+k,(),(),hk⟩
 ·have key:∀(P R:ag) (x y x' y':Int),P.length=i->((P++([x]++M++[y])++R).set i y').set j x'=P++([y']++M++[x'])++R:=λP R x y x' y' lP=>by
   rw[bY,fZ _ _ (),lP,gZ];show(P++(y'::((M++[y])++R))).set j x'=_;rw[fZ _ _ (),lP,show j-i=(j-i-1)+1 by lia,List.set_cons_succ,bY,fZ _ _ (),lM,gZ];simp
  have:=key (a.take i) (a.drop (j+1)) (a.getD i 0) (a.getD j 0) (a.getD i 0) (a.getD j 0) (by rw[bK];lia);rw[<- ea]at this;exact this
def Jy{a:ag}{i:Nat}(h:i<a.length):a[i]?=some (a.getD i 0):=by rw[aI,aF h];rfl
end Iv
namespace Fw
open PySem L2 Bl
open Wd (ex led)
meta abbrev rg (n:Nat):ag:=j8 1 ((n:Int)+1)
def ye{l:ag}{k:Nat}(h0:1<=k)(h:k<l.length):ex (ex l k) k=l:=by
 apply cL;intro p;have h':k<(ex l k).length:=by rw[Wd.mq];exact h
 rw[Wd.oN h0 h',Wd.oN h0 h,Wd.oN h0 h,Wd.oN h0 h];by_cases c3:p=k
 ·rw[aK c3,aJ (),aK rfl,c3]
 ·rw[aJ c3];by_cases c2:p=k-1
  ·rw[aK c2,aK rfl,c2]
  ·rw[aJ c2,aJ c3,aJ c2]
def Y7{l:ag}{k:Nat}(h0:1<=k)(h:k<l.length):(ex l k).getD k 0=l.getD (k-1) 0:=by
 rw[aI,Wd.oN h0 h,aK rfl,aI]
def Zp{l:ag}{k:Nat}(h0:1<=k)(h:k<l.length):(ex l k).getD (k-1) 0=l.getD k 0:=by
 rw[aI,Wd.oN h0 h,aJ (),aK rfl,aI]
def HQ{l:ag}{k:Nat}(h0:1<=k)(h:k<l.length)(hr:l.getD (k-1) 0<l.getD k 0):Iv.inv (ex l k)=Iv.inv l+1:=by
 obtain⟨P,M,R,e,_,hM,es⟩:=Iv.split (a:=l) (i:=k-1) (j:=k) () h;have:=Iv.step (P:=P) (M:=M) (R:=R) (x:=l.getD (k-1) 0) (y:=l.getD k 0) (λm hm=>by obtain⟨_,_,_,_⟩:=hM m hm;lia) hr;rw[<- es,<- e]at this;exact this
def sq{l:ag}{k:Nat}(h0:1<=k)(h:k<l.length)(hr:l.getD k 0<l.getD (k-1) 0):Iv.inv l=Iv.inv (ex l k)+1:=by
 have:=HQ (l:=ex l k) h0 (by rw[Wd.mq];exact h) (by rw[Y7 h0 h,Zp h0 h];exact hr);rw[ye h0 h]at this;exact this
abbrev Va (n:Nat)(w:am):Prop:=∀k∈w,1<=k/\k<n
def Va.tail{n k:Nat}{w:am}(h:Va n (k::w)):Va n w:=λj hj=>h j (aN _ hj)
def Va.head{n k:Nat}{w:am}(h:Va n (k::w)):1<=k/\k<n:=h k (aM ..)
theorem AY:∀{w:am}{l:ag},Va l.length w->led (led l w) w.reverse=l
 | [],l,_=>rfl
 | k::w,l,h=>by
  rw[iV,Wd.Aq];show led (led (led (ex l k) w) w.reverse) [k]=l;rw[AY (w:=w) (l:=ex l k) (by rw[Wd.mq];exact h.tail)];exact ye h.head.1 h.head.2
theorem Iw:∀{l:ag},l.Pairwise (·<=·)->Iv.inv l=0
 | [],_=>rfl
 | x::l,h=>by
  show l.countP (λy=>decide (y<x))+Iv.inv l=0;rw[Iw (bW.mp h).2,List.countP_eq_zero.mpr λa ha z=>by have:=bX z;have:=(bW.mp h).1 a ha;lia]
def P9(n:Nat):Iv.inv (rg n)=0:=Iw (KR _ _)
abbrev G9 (l:ag)(k:Nat):Prop:=1<=k/\k<l.length/\l.getD k 0<l.getD (k-1) 0
def VD{l:ag}(h:∀k,¬G9 l k):l.Pairwise (·<=·):=by
 have key:∀d i,i+d<l.length->l.getD i 0<=l.getD (i+d) 0:=by
  intro d
  induction d with
  | zero=>intro i _;exact Int.le_refl _
  | succ d ih=>
   intro i hi;have h1:=ih i ();have h2:¬l.getD (i+d+1) 0<l.getD (i+d) 0:=λz=>h (i+d+1) ⟨(),hi,z⟩;rw[<- iD];lia
 rw[cG];intro i j hi hj hij;have:=key (j-i) i ();rw[show i+(j-i)=j by lia,Wd.mh hi,Wd.mh hj]at this;exact this
def IS{l:ag}{n:Nat}(p:l.Perm (rg n))(h:∀k,¬G9 l k):l=rg n:=
 dW (λx y _ _ h1 h2=>Int.le_antisymm h1 h2) (VD h) (KR _ _) p
def Jk{l:ag}(h:0<Iv.inv l):∃k,G9 l k:=by
 refine Classical.byContradiction λz=>?_;rw[Iw (VD λk hk=>z ⟨k,hk⟩)]at h;exact absurd h (fW _)
abbrev Dn:ag->am->Prop
 | l,[]=>∀k,¬G9 l k
 | l,k::ks=>(G9 l k/\∀j,G9 l j->k<=j)/\Dn (ex l k) ks
def qp{l:ag}{n k:Nat}(p:l.Perm (rg n))(h0:1<=k)(h:k<l.length):(ex l k).Perm (rg n):=(Wd.EA h0 h).trans p
def Dn.va:∀{ks:am}{l:ag},Dn l ks->Va l.length ks
 | [],l,_=>λk hk=>absurd hk (by simp)
 | k::ks,l,h=>λj hj=>by
  rcases bF.mp hj with rfl|z
  ·exact⟨h.1.1.1,h.1.1.2.1⟩
  ·have:=h.2.va j z
   rwa [Wd.mq]at this
theorem Dn.led:∀{ks:am}{l:ag}{n:Nat},Dn l ks->l.Perm (rg n)->led l ks=rg n
 | [],l,n,h,p=>IS p h
 | k::ks,l,n,h,p=>Dn.led (ks:=ks) h.2 (qp p h.1.1.1 h.1.1.2.1)
theorem Vg:∀(m:Nat) (l:ag),Iv.inv l<=m->∃ks,Dn l ks
 | 0,l,h=>⟨[],λk hk=>by have:=sq hk.1 hk.2.1 hk.2.2;lia⟩
 | m+1,l,h=>by
  by_cases c:∃k,G9 l k
  ·obtain⟨k,hk,hmin⟩:∃k,G9 l k/\∀j,G9 l j->k<=j:=by
    obtain⟨k,hk⟩:=c
    induction k using Nat.strongRecOn with
    | ind k ih=>
     by_cases z:∃j,G9 l j/\j<k
     ·obtain⟨j,hj,hlt⟩:=z;exact ih j hlt hj
     ·exact⟨k,hk,λj hj=>iB λy=>z ⟨j,hj,y⟩⟩
   have:=sq hk.1 hk.2.1 hk.2.2;obtain⟨ks,hks⟩:=Vg m (ex l k) ();exact⟨k::ks,⟨hk,hmin⟩,hks⟩
  ·exact⟨[],λk hk=>c ⟨k,hk⟩⟩
def MC{a c:ag}{n:Nat}(pa:a.Perm (rg n))(h1:qQ a b)(h2:qQ b c):a=c:=by
 have l1:=h1.1;have l2:=h2.1;refine List.ext_getElem () λq hq hq'=>?_;have e1:=h1.2 q hq;have hm:=(lY.mp (pa.mem_iff.mp (cI hq)));obtain⟨hb,eb⟩:=aL.mp e1;have e2:=h2.2 _ hb;rw[eb,show((q:Int)+1-1).toNat=q by lia,aF hq']at e2;have:=a_ e2
 lia
structure Two (n:Nat)(o u:ag):Prop where
 po:o.Perm (rg n)
 pu:u.Perm (rg n)
 ou:qQ o u
def Two.lu{n:Nat}{u:ag}(t:Two n o u):u.length=n:=by rw[t.pu.length_eq,Wd.jO]
def Two.lo{n:Nat}{o:ag}(t:Two n o u):o.length=n:=by rw[t.po.length_eq,Wd.jO]
def Two.led{n:Nat}(t:Two n o u)(h:Dn u ks):Wd.led (rg n) ks=o:=by
 have v:Va n ks:=by have:=h.va;rwa [t.lu]at this
 have e:=h.led t.pu;have e2:u=Wd.led (rg n) ks.reverse:=by rw[<- e,AY (by rw[t.lu];exact v)]
 have b:=Wd.Cc ks v;rw[<- show u=Wd.led (j8 1 ((n:Int)+1)) ks.reverse from e2]at b;exact(MC t.po t.ou b).symm
def Two.uo{n:Nat}(t:Two n o u):qQ u o:=by
 obtain⟨ks,h⟩:=Vg _ u (aR _);have v:Va n ks:=by have:=h.va;rwa [t.lu]at this
 have e:=h.led t.pu;have e2:u=Wd.led (rg n) ks.reverse:=by rw[<- e,AY (by rw[t.lu];exact v)]
 have b:=Wd.Cc ks v;rw[<- show u=Wd.led (j8 1 ((n:Int)+1)) ks.reverse from e2,show Wd.led (j8 1 ((n:Int)+1)) ks=o from t.led h]at b;exact b
def Two.flip{n:Nat}(t:Two n o u):Two n u o:=⟨t.pu,t.po,t.uo⟩
def Two.step{n k:Nat}{o:ag}(t:Two n o u)(h0:1<=k)(h:k<n):Two n (o.map (Wd.sw k)) (ex u k):=by
 have lu:=t.lu;have b:=Wd.C7 h0 () t.uo;have p1:=qp t.pu h0 ();have p2:(o.map (Wd.sw k)).Perm (rg n):=(t.po.map _).trans (by rw[<- Wd.Ql h0 h];exact Wd.EA h0 (by rw[Wd.jO];exact h));exact(Two.mk p1 p2 b).flip
end Fw
namespace Po
open Am
meta abbrev Pl:=List (Int×Int)
abbrev val (d:Pl)(k:Int):Int:=((d.find? λp=>decide (p.1=k)).map (·.2)).getD 0
abbrev has (d:Pl)(k:Int):Bool:=d.any λp=>decide (p.1=k)
abbrev put (d:Pl)(k v:Int):Pl:=if has d k=true then d.map (λp=>if p.1=k then(p.1,v)else p)else d++[(k,v)]
abbrev acc (d:Pl)(k v:Int):Pl:=put d k (val d k+v)
abbrev cf:Pl->Int->Int
 | [],_=>0
 | p::l,k=>(if p.1=k then p.2 else 0)+cf l k
def pQ{p:Int×Int}{k:Int}:val (p::d) k=if p.1=k then p.2 else val d k:=by
 unfold val;rw[cT];by_cases h:p.1=k
 ·rw[bf h,aK h];rfl
 ·rw[bw h,aJ h]
def B5{p:Int×Int}{k:Int}:has (p::d) k=(decide (p.1=k) || has d k):=rfl
def xZ{d:Pl}{k:Int}:has d k=true ↔ k∈d.map Prod.fst:=by
 unfold has;rw[gh,bu];constructor
 ·rintro⟨p,h1,h2⟩;exact⟨p,h1,bX h2⟩
 ·rintro⟨p,h1,h2⟩;exact⟨p,h1,bf h2⟩
def RE{k:Int}(h:has d k=false):val d k=0:=by
 induction d with
 | nil=>rfl
 | cons p d ih=>
  rw[B5,iE]at h;rw[pQ,aJ (dB h.1),ih h.2]
def Uo{k v j:Int}(h:has d k=false):val (d++[(k,v)]) j=if j=k then v else val d j:=by
 induction d with
 | nil=>
  show val [(k,v)] j=_;rw[pQ];by_cases c:k=j
  ·rw[aK c,aK c.symm]
  ·rw[aJ c,aJ (λz=>c z.symm)]
 | cons p d ih=>
  rw[B5,iE]at h;have:=dB h.1;rw[List.cons_append,pQ,pQ,ih h.2];by_cases c:p.1=j
  ·rw[aK c,aK c,aJ (λz=>this (c.trans z))]
  ·rw[aJ c,aJ c]
def TF{d:Pl}{k v j:Int}:val (d.map λp=>if p.1=k then(p.1,v)else p) j=if j=k/\has d k=true then v else val d j:=by
 induction d with
 | nil=>
  rw[aJ (λz=>by cases z.2)];rfl
 | cons p d ih=>
  rw[bB,pQ,pQ,ih,B5];by_cases c:p.1=k
  ·rw[aK c,bf c,Bool.true_or];by_cases e:j=k
   ·rw[aK (show p.1=j by lia),aK ⟨e,rfl⟩]
   ·rw[aJ (show ¬p.1=j by lia),aJ (λz=>e z.1),aJ (λz=>e z.1),aJ (show ¬p.1=j by lia)]
  ·rw[aJ c,bw c,gz];by_cases e:p.1=j
   ·rw[aK e,aK e,aJ (λz=>c (e.trans z.1))]
   ·rw[aJ e,aJ e]
def SI{k v j:Int}:val (put d k v) j=if j=k then v else val d j:=by
 unfold put
 cases h:has d k with
 | true=>
  rw[aK rfl,TF,h];by_cases c:j=k
  ·rw[aK ⟨c,rfl⟩,aK c]
  ·rw[aJ (λz=>c z.1),aJ c]
 | false=>rw[aJ (by simp),Uo h]
def TZ{k v j:Int}:val (acc d k v) j=val d j+if k=j then v else 0:=by
 unfold acc;rw[SI];by_cases c:j=k
 ·subst c;rw[aK rfl,aK rfl]
 ·rw[aJ c,aJ (λz=>c z.symm),dz]
def RC{d:Pl}{k v:Int}:(put d k v).map Prod.fst=if has d k=true then d.map Prod.fst else d.map Prod.fst++[k]:=by
 unfold put;split
 ·rw[bh];apply cP;intro p _;show(if p.1=k then(p.1,v)else p).1=p.1;split<;>rfl
 ·rw[bU];rfl
def Wu{d:Pl}{k v:Int}(h:(d.map Prod.fst).Nodup):((put d k v).map Prod.fst).Nodup:=by
 rw[RC];split
 ·exact h
 ·rename_i c;rw[eg];refine⟨h,cj _ _,λa ha b hb z=>c ?_⟩;rw[aS]at hb;rw[xZ,<- hb,<- z];exact ha
def TL{d:Pl}{k v:Int}:(put d k v).length<=d.length+1:=by
 unfold put;split
 ·rw[aH];lia
 ·rw[aQ];exact aR _
abbrev Bd (c:Nat)(d:Pl):Prop:=∀p∈d,p.2.natAbs<=c
theorem Bd.val{c:Nat}(h:Bd c d)(k:Int):(val d k).natAbs<=c:=by
 induction d with
 | nil=>exact bL _
 | cons p d ih=>
  rw[pQ];split
  ·exact h p (aM ..)
  ·exact ih λq hq=>h q (aN _ hq)
abbrev qR (d ps:Pl):Pl:=ps.foldl (λd p=>acc d p.1 p.2) d
def NT(d:Pl):qR d []=d:=rfl
def BY(d ps qs:Pl):qR d (ps++qs)=qR (qR d ps) qs:=by unfold qR;rw[dO]
def xN(ps:Pl):∀(d:Pl) (k:Int),val (qR d ps) k=val d k+cf ps k:=by
 induction ps with
 | nil=>intro d k;rw[NT];show _=_+0;rw[dz]
 | cons p ps ih=>
  intro d k;show val (qR (acc d p.1 p.2) ps) k=_;rw[ih,TZ];show _=_+(_+_);rw[fY]
def wo(ps:Pl):∀{d:Pl},(d.map Prod.fst).Nodup->((qR d ps).map Prod.fst).Nodup:=by
 induction ps with
 | nil=>intro d h;exact h
 | cons p ps ih=>intro d h;exact ih (Wu h)
def oG(ps:Pl):∀(d:Pl),(qR d ps).length<=d.length+ps.length:=by
 induction ps with
 | nil=>intro d;exact aR _
 | cons p ps ih=>
  intro d;have h1:=ih (acc d p.1 p.2);have h2:(acc d p.1 p.2).length<=d.length+1:=TL;show(qR (acc d p.1 p.2) ps).length<=_;rw[bq]
  lia
structure Ok (l:Pl):Prop where
 up:l.Pairwise λp q=>p.1<q.1
 nz:∀p∈l,p.2≠0
def Ok.tail{p:Int×Int}{l:Pl}(h:Ok (p::l)):Ok l:=⟨(bW.mp h.up).2,λq hq=>h.nz q (aN _ hq)⟩
def G1{l:Pl}{k:Int}(h:∀p∈l,k<p.1):cf l k=0:=by
 induction l with
 | nil=>rfl
 | cons p l ih=>
  show(if p.1=k then p.2 else 0)+cf l k=0;have:=h p (aM ..);rw[aJ (),ih λq hq=>h q (aN _ hq)];rfl
def Ok.head{p:Int×Int}{l:Pl}(h:Ok (p::l)):cf (p::l) p.1=p.2:=by
 show(if p.1=p.1 then p.2 else 0)+cf l p.1=p.2;rw[aK rfl,G1 (bW.mp h.up).1,dz]
def Ok.low{p:Int×Int}{l:Pl}(h:Ok (p::l)){k:Int}(hk:k<p.1):cf (p::l) k=0:=G1 λq hq=>by
 rcases bF.mp hq with rfl|z
 ·exact hk
 ·have:=(bW.mp h.up).1 q z;lia
theorem uniq:∀{l m:Pl},Ok l->Ok m->(∀k,cf l k=cf m k)->l=m
 | [],[],_,_,_=>rfl
 | [],q::m,_,h,e=>by
  have:=e q.1;rw[h.head]at this;exact absurd this.symm (h.nz q (aM ..))
 | p::l,[],h,_,e=>by
  have:=e p.1;rw[h.head]at this;exact absurd this (h.nz p (aM ..))
 | p::l,q::m,h,h',e=>by
  have n1:=h.nz p (aM ..);have n2:=h'.nz q (aM ..);have e1:p.1=q.1:=by
   rcases Int.lt_trichotomy p.1 q.1 with c|c|c
   ·have:=e p.1;rw[h.head,h'.low c]at this;exact absurd this n1
   ·exact c
   ·have:=e q.1;rw[h'.head,h.low c]at this;exact absurd this.symm n2
  have e2:p.2=q.2:=by
   have:=e p.1;rw[h.head,e1,h'.head]at this;exact this
  have e3:p=q:=Prod.ext e1 e2;subst e3;rw[uniq h.tail h'.tail λk=>by
   have:(if p.1=k then p.2 else 0)+cf l k=(if p.1=k then p.2 else 0)+cf m k:=e k
   lia]
abbrev IB (d:Pl):Pl:=((sortI (d.map Prod.fst)).filter λk=>val d k != 0).map λk=>(k,val d k)
def UU{ks:ag}(h:ks.Nodup):(sortI ks).Pairwise (· < ·):=by
 have p:=Ba ks;have n:(sortI ks).Nodup:=(sortI_perm ks).nodup_iff.mpr h;have:(sortI ks).Pairwise λa b=>a<=b/\a≠b:=p.and n;exact this.imp λ⟨a,b⟩=>()
def Eu{d:Pl}(h:(d.map Prod.fst).Nodup):Ok (IB d):=by
 refine⟨?_,λp hp=>?_⟩
 ·unfold IB;rw[cK];exact(UU h).filter _
 ·obtain⟨k,hk,rfl⟩:=bu.mp hp;have:=(cQ.mp hk).2;simpa using this
theorem Rm{k:Int}:∀{ks:ag},ks.Nodup->cf (ks.map λj=>(j,val d j)) k=if k∈ks then val d k else 0
 | [],_=>by rw[aJ (by simp)];rfl
 | j::ks,h=>by
  obtain⟨h1,h2⟩:=cR.mp h;show(if j=k then val d j else 0)+cf (ks.map λj=>(j,val d j)) k=_;rw[Rm h2];by_cases c:j=k
  ·subst c;rw[aK rfl,aJ h1,aK (aM ..),dz]
  ·rw[aJ c,cA];by_cases e:k∈ks
   ·rw[aK e,aK (aN _ e)]
   ·rw[aJ e,aJ λz=>(bF.mp z).elim (λz=>c z.symm) e]
def Ep{d:Pl}(h:(d.map Prod.fst).Nodup)(k:Int):cf (IB d) k=val d k:=by
 unfold IB;rw[Rm (((sortI_perm _).nodup_iff.mpr h).filter _)];split
 ·rfl
 ·rename_i c
  cases e:has d k with
  | false=>exact(RE e).symm
  | true=>
   by_cases z:val d k=0
   ·exact z.symm
   ·exact absurd (cQ.mpr ⟨(sortI_perm _).mem_iff.mpr (xZ.mp e),by simpa using z⟩) c
def XM{d e:Pl}(h:(d.map Prod.fst).Nodup)(h':(e.map Prod.fst).Nodup)(hv:∀k,val d k=val e k):IB d=IB e:=
 uniq (Eu h) (Eu h') λk=>by rw[Ep h,Ep h',hv]
def Ok.nd{l:Pl}(h:Ok l):(l.map Prod.fst).Nodup:=by
 unfold List.Nodup;rw[cK];exact h.up.imp λa=>()
def PU{l:Pl}(h:(l.map Prod.fst).Nodup)(k:Int):val l k=cf l k:=by
 induction l with
 | nil=>rfl
 | cons p l ih=>
  obtain⟨h1,h2⟩:=cR.mp h;rw[pQ];show _=(if p.1=k then p.2 else 0)+cf l k;rw[<- ih h2];by_cases c:p.1=k
  ·have:has l k=false:=by
    cases e:has l k with
    | false=>rfl
    | true=>exact absurd (xZ.mp e) (by rw[<- c];exact h1)
   rw[aK c,aK c,RE this,dz]
  ·rw[aJ c,aJ c,cA]
abbrev Pe (d ps:Pl):Pl:=ps.foldl (λd p=>put d p.1 p.2) d
theorem I0:∀(ps d:Pl),((d++ps).map Prod.fst).Nodup->Pe d ps=d++ps
 | [],d,_=>by rw[cH];rfl
 | p::ps,d,h=>by
  have hn:has d p.1=false:=by
   cases e:has d p.1 with
   | false=>rfl
   | true=>
    rw[bU,eg]at h;exact absurd rfl (h.2.2 _ (xZ.mp e) p.1 (fN (aM ..)))
  have e:put d p.1 p.2=d++[p]:=by unfold put;rw[hn];rfl
  show Pe (put d p.1 p.2) ps=_;rw[e,I0 ps (d++[p]) (by rw[bY];exact h),bY];rfl
def Tj{l:Pl}(h:Ok l):Pe [] l=l:=I0 l [] h.nd
abbrev plus (a b:Pl):Pl:=IB (qR a b)
abbrev nu (a b:Pl):Pl:=IB (qR [] (a++b))
def Uu{a:Pl}(h:Ok a):plus a b=nu a b:=by
 refine XM (wo _ h.nd) (wo _ dN) λk=>?_;rw[xN,xN,PU h.nd];have:∀(a b:Pl),cf (a++b) k=cf a k+cf b k:=λa b=>by
  induction a with
  | nil=>exact(cA _).symm
  | cons p a ih=>
   show _+cf (a++b) k=_+_+_;rw[ih,fY]
 rw[this];show _=0+_;rw[cA]
def F7(a b:Pl):Ok (nu a b):=Eu (wo _ dN)
abbrev C6 (a b:Pl):Pl:=a.flatMap λp=>b.map λq=>(p.1+q.1,p.2 * q.2)
abbrev times (a b:Pl):Pl:=IB (qR [] (C6 a b))
def tX(a b:Pl):Ok (times a b):=Eu (wo _ dN)
def Qz(a:Pl)(p:Int×Int)(b:Pl):C6 (a++[p]) b=C6 a b++b.map λq=>(p.1+q.1,p.2 * q.2):=by
 unfold C6;rw[iK,eB,List.flatMap_nil,cH]
def yF(a b:Pl):(C6 a b).length=a.length * b.length:=by
 induction a with
 | nil=>simp[C6]
 | cons p a ih=>
  show((b.map _)++C6 a b).length=_;rw[aQ,aH,ih,bq,dS]
  lia
theorem Bd.C6{c:Nat}{a:Pl}(h:Bd c a)(h':Bd c' b):Bd (c * c') (C6 a b):=λr hr=>by
 obtain⟨p,hp,hr⟩:=fP.mp hr;obtain⟨q,hq,rfl⟩:=bu.mp hr
 skip
 rw[Int.natAbs_mul];exact dZ (h p hp) (h' q hq)
def Kl(d:Pl):(IB d).length<=d.length:=by
 unfold Po.IB;rw[aH];refine bJ (cN _ _) ?_;rw[(sortI_perm _).length_eq,aH];exact aR _
abbrev turn (a:Pl):Pl:=a.reverse.map λp=>(-p.1,p.2)
abbrev iv (d:Pl):List (Int×A):=d.map λp=>(p.1,.int p.2)
abbrev pA (p:Int×Int):A:=.tup [.int p.1,.int p.2]
abbrev pl (l:Pl):ae:=l.map pA
def Ei(d:Pl)(k:Int):nI (iv d) k=(d.find? λp=>decide (p.1=k)).map λp=>.int p.2:=by
 unfold nI iv;rw[ig,f_];rfl
def Rg(d:Pl)(k:Int):(nI (iv d) k).getD (.int 0)=.int (val d k):=by
 rw[Ei];unfold val
 cases d.find? λp=>decide (p.1=k)<;>rfl
def Fd{d:Pl}{k:Int}(h:k∈d.map Prod.fst):nI (iv d) k=some (.int (val d k)):=by
 have:=xZ.mpr h;unfold has at this;rw[Ei];unfold val
 cases e:d.find? λp=>decide (p.1=k)with
 | some p=>rfl
 | none=>
  obtain⟨p,hp,hd⟩:=gh.mp this;exact absurd hd (gH.mp e p hp)
def II(d:Pl)(k v:Int):zC (iv d) k (.int v)=iv (put d k v):=by
 have e:(nI (iv d) k).isSome=has d k:=by
  rw[Ei,gT];unfold has;rw[Bool.eq_iff_iff,iX,gh]
 unfold zC put;rw[e];unfold iv;split
 ·rw[bh,bh];apply cP;intro p _;show(if p.1=k then(p.1,A.int v)else(p.1,.int p.2))=_;show _=((if p.1=k then(p.1,v)else p).1,A.int (if p.1=k then(p.1,v)else p).2);split<;>rfl
 ·rw[bU];rfl
def SJ(d:Pl):(iv d).map Prod.fst=d.map Prod.fst:=by
 unfold iv;rw[bh];rfl
theorem VX:∀l:Pl,SW (pl l)=some (iv l)
 | []=>rfl
 | p::l=>by
  show(SW (pl l)).map _=_;rw[VX l];rfl
def UM(l:Pl):SD (iv l)=iv (Pe [] l):=by
 have:∀(l d:Pl),(iv l).foldl (λacc p=>zC acc p.1 p.2) (iv d)=iv (Pe d l):=by
  intro l
  induction l with
  | nil=>intro d;rfl
  | cons p l ih=>
   intro d;show(iv l).foldl _ (zC (iv d) p.1 (.int p.2))=_;rw[II,ih];rfl
 exact this l []
end Po
namespace Am
open PySem L2 Po
meta abbrev TJ:Tg:=xm 2 (ow (j4 0) (ow (j4 1) wV))
def HA{s:Src}{src:Ic}{e:Ex}{S1:jz}(hs:src τ S=.ok s S1)(a b f:Nat->A)(hget:∀i,i<s.k->s.get i S1=some (.tup [a i,b i]))(hfin:s.fin S1=true)
  (he:∀i,i<s.k->e (a i::b i::kN cap τ) S1=.ok (f i) S1) (hl:s.k<=16777216) :
  j6 (none::none::cap) src TJ oV e τ S=.ok (.ref S1.length) (S1++[.lst ((List.range s.k).map f)]):=by
 unfold j6;rw[hs,R.oM];obtain⟨S',h1,h2⟩:=vZ (s:=s) (g:=TJ) (t:=oV) (e:=e) (P:=λS=>S=S1) (T:=λτ'=>∃y z,τ'=y::z::kN cap τ) (λi=>.tup [a i,b i]) (λ_=>true) f (λi S hi h=>by subst h;exact hget i hi) (λS h=>by subst h;exact hfin)
  (λi τ' S hi ⟨y,z,hy⟩ h=>by
   subst h hy;exact⟨a i::b i::kN cap τ,S,S,rfl,rfl,⟨_,_,rfl⟩,λh=>(nomatch h),λhp=>⟨S,he i hi,rfl⟩⟩) s.k 0 (kN (none::none::cap) τ) S1 rfl ⟨_,_,rfl⟩ rfl
 subst h2;rw[h1,R.k_,dc,fM.mpr (λ_ _=>rfl)];refine j7 ?_;rw[aH,List.length_range'];exact hl
def Vy{l:Pl}{i:Nat}(h:i<l.length):(pl l)[i]?=some (.tup [.int (l.getD i (0,0)).1,.int (l.getD i (0,0)).2]):=by
 unfold pl;rw[aO,aF h,aI,aF h];rfl
def xj(l:Pl):(pl l).length=l.length:=aH ..
def NZ{l:Pl}{n:Nat}{src:Ic}{e:Ex}{S1:jz}(hs:src τ S=.ok (kC n (pl l).length) S1)(hx:ju S1 n=some (pl l))(f:Int×Int->A)
  (he:∀p:Int×Int,e (.int p.1::.int p.2::kN cap τ) S1=.ok (f p) S1) (hl:l.length<=16777216) :
  j6 (none::none::cap) src TJ oV e τ S=.ok (.ref S1.length) (S1++[.lst (l.map f)]):=by
 rw[HA hs (λi=>.int (l.getD i (0,0)).1) (λi=>.int (l.getD i (0,0)).2) (λi=>f (l.getD i (0,0))) (λi hi=>by
  have hi:i<(pl l).length:=hi;rw[xj]at hi;show(ju S1 n).bind _=_;rw[hx,dH,Vy hi]) (by
   show(match ju S1 n with
    | some ys=>decide (ys.length<=(pl l).length)
    | none=>false)=true
   rw[hx];simp) (λi _=>he _) (by show(pl l).length<=_;rw[xj];exact hl)]
 have:=range_getD l (0,0)
 skip
 rw[xj]
 conv=>rhs;rw[<- this,bh]
 rfl
def L7{xs:ae}{n:Nat}{src:Ic}{t:Te}{e:Ex}{S1:jz}(hs:src τ S=.ok (kC n xs.length) S1)(hx:ju S1 n=some xs)(p:A->Bool)(f:A->A)
  (ht:∀x∈xs,t (x::kN cap τ) S1=.ok (p x) S1) (he:∀x∈xs,p x=true->e (x::kN cap τ) S1=.ok (f x) S1) (hl:xs.length<=16777216) :
  j6 (none::cap) src (j4 0) t e τ S=.ok (.ref S1.length) (S1++[.lst ((xs.filter p).map f)]):=by
 have:=NV (S:=S1) (src:=λ_ _=>.ok (kC n xs.length) S1) (τ:=τ) rfl hx p f ht he hl;unfold j6 at this ⊢;rw[hs];exact this
def D9{S:jz}:lE (S++[.pK d]) S.length=some d:=Eo IM
def OV{o:O}{n:Nat}(h:lE S n=some d):lE (S++[o]) n=some d:=by
 have h':=qz h;exact Eo (by rw[bI (aL.mp h').1];exact h')
def Wl{S:jz}{n:Nat}(h:lE S n=some d):n<S.length:=(aL.mp (qz h)).1
def Qi{S:jz}{n:Nat}(h:n<S.length):lE (S.set n (.pK d)) n=some d:=Eo (b_ h)
def Ks{n:Nat}(h:lE S n=some d)(h':ju S m=some xs):n≠m:=λz=>by
 subst z;have e1:=qz h;rw[jN h']at e1
 cases e1
def JX{f:A->ae->jz->R A}{co:Ex}{d:sP}:FD f co d τ S=(co τ S).bind λx S1=>opt (dk? x S1) λ_=>(d τ S1).bind λas S2=>f x as S2:=rfl
def Q7{n:Nat}:dk? (.ref n) S=(lE S n).map λ_=>Unit.unit:=rfl
def Gs{n:Nat}{k:Int}:wI (.ref n) [.int k,y] S=opt (lE S n) λkvs=>.ok ((nI kvs k).getD y) S:=rfl
def Jh{co ci:Ex}{a:A}:Fl co ci a τ S=(co τ S).bind λo S1=>(ci τ S1).bind λi S2=>(CL o i a S2).bind λ_ S3=>.ok τ S3:=rfl
def GK{n:Nat}{k:Int}{v:A}{S:jz}:CL (.ref n) (.int k) v S=opt (lE S n) λkvs=>gd (kvs.length<sizeLine) (.ok Unit.unit (S.set n (.pK (zC kvs k v)))):=rfl
def JN{n:Nat}{k:Int}:zu (.ref n) (.int k) S=opt (lE S n) λkvs=>opt (nI kvs k) λv=>.ok v S:=rfl
def zq{S:jz}:BQ τ S=.ok (.ref S.length) (S++[.pK []]):=rfl
def Mf{n:Nat}{S:jz}:zf (.ref n) S=opt (lE S n) λkvs=>.ok (.ref S.length) (S++[.lst ((sortI (kvs.map Prod.fst)).map .int)]):=rfl
def Mj{n:Nat}{S:jz}:Hw (.ref n) S=opt (ju S n) λxs=>opt (SW xs) λps=>.ok (.ref S.length) (S++[.pK (SD ps)]):=rfl
def abc{i j:Int}(h:i.natAbs<big)(h':j.natAbs<big):F4 (.int i) (.int j) S=.ok (.int (i * j)) S:=mF ⟨h,h'⟩
def Q8(d:Pl):(iv d).length=d.length:=aH ..
meta abbrev WK:Sm:=j5 (jA kj (FD wI (jt 2) (jo (jt 3) (jo (eC (.int 0)) (jy)))) (jt 4)) (Fl (jt 2) (jt 3))
def acc_step{S:jz}{D:Pl}{k v:Int}(hd:lE S d=some (iv D))(hl:D.length<16777216):WK [x0,x1,.ref d,.int k,.int v] S=.nx [x0,x1,.ref d,.int k,.int v] (S.set d (.pK (iv (acc D k v)))):=by
 unfold WK;dsimp[jT,bools,JX,Q7,hd,c7,Gs,Rg,Jh,GK,wO (show(iv D).length<16777216 by rw[Q8];exact hl),II];rfl
meta abbrev Td:Tg:=xm 2 (ow (j4 3) (ow (j4 4) wV))
def IX{n:Nat}{D l:Pl}{src:Ic}(hs:src [x0,x1,.ref d,x3,x4] S=.ok (kC n (pl l).length) S1)(hn:ju S1 n=some (pl l))(hd:lE S1 d=some (iv D))(hl:D.length+l.length<16777216) :
  ∃y3 y4 S',lC src Td WK [x0,x1,.ref d,x3,x4] S=.nx [x0,x1,.ref d,y3,y4] S'/\lE S' d=some (iv (qR D l))/\Kp (·=d) S1 S':=by
 have nd:=Ks hd hn;refine pI (n:=n) (xs:=pl l) hs (λi τ T=>(∃y3 y4,τ=[x0,x1,.ref d,y3,y4])/\lE T d=some (iv (qR D (l.take i)))/\Kp (·=d) S1 T)
  (λr=>∃y3 y4 S',r=.nx [x0,x1,.ref d,y3,y4] S'/\lE S' d=some (iv (qR D l))/\Kp (·=d) S1 S') ⟨⟨_,_,rfl⟩,hd,Kp.refl⟩ (λi τ T h=>h.2.2.lst _ _ (dw nd) hn) ?_ ?_
 ·rintro i z τ T hz ⟨⟨y3,y4,rfl⟩,hD,kp⟩;unfold pl at hz;rw[aO]at hz;obtain⟨p,hp,rfl⟩:=aX.mp hz;refine⟨[x0,x1,.ref d,.int p.1,.int p.2],T,rfl,.inl ?_⟩;have hlen:=oG (l.take i) D;have hi:=(aL.mp hp).1;rw[bK]at hlen;refine⟨_,_,acc_step hD (),⟨_,_,rfl⟩,?_,kp.E2 (.inl rfl)⟩;rw[Qi (Wl hD),cW,hp,BY];rfl
 ·rintro τ T ⟨⟨y3,y4,rfl⟩,hD,kp⟩;rw[xj,c_]at hD;exact⟨y3,y4,T,rfl,hD,kp⟩
meta abbrev UO:Sm:=j5 (jA kj (FD wI (jt 2) (jo (jA kj (jt 3) (jt 5)) (jo (eC (.int 0)) (jy)))) (jA F4 (jt 4) (jt 6))) (Fl (jt 2) (jA kj (jt 3) (jt 5)))
meta abbrev g56:Tg:=xm 2 (ow (j4 5) (ow (j4 6) wV))
def Pn{S:jz}{D:Pl}{k v j u:Int}(hd:lE S d=some (iv D))(hl:D.length<16777216)(hv:v.natAbs<big)(hu:u.natAbs<big):UO [x0,x1,.ref d,.int k,.int v,.int j,.int u] S=.nx [x0,x1,.ref d,.int k,.int v,.int j,.int u] (S.set d (.pK (iv (acc D (k+j) (v * u))))):=by
 unfold UO;dsimp[jT,bools,JX,Q7,hd,c7,Gs,Rg,abc hv hu,Jh,GK,wO (show(iv D).length<16777216 by rw[Q8];exact hl),II];rfl
def UG{n:Nat}{D l:Pl}{k v:Int}(hn:ju S n=some (pl l))(hd:lE S d=some (iv D))(hl:D.length+l.length<16777216)(hv:v.natAbs<big)(hu:∀p∈l,p.2.natAbs<big) :
  ∃y5 y6 S',lC (lg (jt 1)) g56 UO [x0,.ref n,.ref d,.int k,.int v,x5,x6] S=.nx [x0,.ref n,.ref d,.int k,.int v,y5,y6] S'/\lE S' d=some (iv (qR D (l.map λq=>(k+q.1,v * q.2))))/\Kp (·=d) S S':=by
 have nd:=Ks hd hn;refine pI (n:=n) (xs:=pl l) (S1:=S) (lH (by dsimp[jT,bools]) hn) (λi τ T=>(∃y5 y6,τ=[x0,.ref n,.ref d,.int k,.int v,y5,y6])/\lE T d=some (iv (qR D ((l.take i).map λq=>(k+q.1,v * q.2))))/\Kp (·=d) S T)
  (λr=>∃y5 y6 S',r=.nx [x0,.ref n,.ref d,.int k,.int v,y5,y6] S'/\lE S' d=some (iv (qR D (l.map λq=>(k+q.1,v * q.2))))/\Kp (·=d) S S') ⟨⟨_,_,rfl⟩,hd,Kp.refl⟩ (λi τ T h=>h.2.2.lst _ _ (dw nd) hn) ?_ ?_
 ·rintro i z τ T hz ⟨⟨y5,y6,rfl⟩,hD,kp⟩;unfold pl at hz;rw[aO]at hz;obtain⟨p,hp,rfl⟩:=aX.mp hz;refine⟨[x0,.ref n,.ref d,.int k,.int v,.int p.1,.int p.2],T,rfl,.inl ?_⟩;have hlen:=oG ((l.take i).map λq=>(k+q.1,v * q.2)) D;have hi:=(aL.mp hp).1;rw[aH,bK]at hlen;refine⟨_,_,Pn hD () hv (hu p (aW hp)),⟨_,_,rfl⟩,?_,kp.E2 (.inl rfl)⟩;rw[Qi (Wl hD),cW,hp,bU,BY];rfl
 ·rintro τ T ⟨⟨y5,y6,rfl⟩,hD,kp⟩;rw[xj,c_]at hD;exact⟨y5,y6,T,rfl,hD,kp⟩
meta abbrev Pa:Sm:=lC (lg (jt 1)) g56 UO
def B4(f:Int×Int->A)(hf:∀p τ S,Td (f p) τ S=Td (pA p) τ S){n:Nat}{a b:Pl}(hn:ju S n=some (a.map f))(hm:ju S m=some (pl b))(hd:lE S d=some [])(hl:a.length * b.length<16777216)(ha:∀p∈a,p.2.natAbs<big)(hb:∀p∈b,p.2.natAbs<big) :
  ∃y3 y4 y5 y6 S',lC (lg (jt 0)) Td Pa [.ref n,.ref m,.ref d,x3,x4,x5,x6] S=.nx [.ref n,.ref m,.ref d,y3,y4,y5,y6] S'/\lE S' d=some (iv (qR [] (C6 a b)))/\Kp (·=d) S S':=by
 have nd:=Ks hd hn;have md:=Ks hd hm;refine pI (n:=n) (xs:=a.map f) (S1:=S) (lH (by dsimp[jT,bools]) hn) (λi τ T=>(∃y3 y4 y5 y6,τ=[.ref n,.ref m,.ref d,y3,y4,y5,y6])/\lE T d=some (iv (qR [] (C6 (a.take i) b)))/\Kp (·=d) S T)
  (λr=>∃y3 y4 y5 y6 S',r=.nx [.ref n,.ref m,.ref d,y3,y4,y5,y6] S'/\lE S' d=some (iv (qR [] (C6 a b)))/\Kp (·=d) S S') ⟨⟨_,_,_,_,rfl⟩,hd,Kp.refl⟩ (λi τ T h=>h.2.2.lst _ _ (dw nd) hn) ?_ ?_
 ·rintro i z τ T hz ⟨⟨y3,y4,y5,y6,rfl⟩,hD,kp⟩;rw[aO]at hz;obtain⟨p,hp,rfl⟩:=aX.mp hz;refine⟨[.ref n,.ref m,.ref d,.int p.1,.int p.2,y5,y6],T,hf _ _ _,.inl ?_⟩;have hlen:=oG (C6 (a.take i) b) [];have hi:=(aL.mp hp).1;rw[yF,bK,je (ja hi),bR,bZ]at hlen;have hmul:i * b.length+b.length<=a.length * b.length:=by rw[<- dS];exact bN _ hi
  obtain⟨z5,z6,T',e,hD',kp'⟩:=UG (x0:=.ref n) (x5:=y5) (x6:=y6) (k:=p.1) (v:=p.2) (kp.lst _ _ (dw md) hm) hD () (ha p (aW hp)) hb;refine⟨_,_,e,⟨_,_,_,_,rfl⟩,?_,kp.trans kp'⟩;rw[hD',cW,hp,Option.toList_some,Qz,BY]
 ·rintro τ T ⟨⟨y3,y4,y5,y6,rfl⟩,hD,kp⟩;rw[aH,c_]at hD;exact⟨y3,y4,y5,y6,T,rfl,hD,kp⟩
def ME{n:Nat}{a b:Pl}(hn:ju S n=some (pl a))(hm:ju S m=some (pl b))(hd:lE S d=some [])(hl:a.length * b.length<16777216)(ha:∀p∈a,p.2.natAbs<big)(hb:∀p∈b,p.2.natAbs<big) :
  ∃y3 y4 y5 y6 S',lC (lg (jt 0)) Td Pa [.ref n,.ref m,.ref d,x3,x4,x5,x6] S=.nx [.ref n,.ref m,.ref d,y3,y4,y5,y6] S'/\lE S' d=some (iv (qR [] (C6 a b)))/\Kp (·=d) S S':=B4 pA (λ_ _ _=>rfl) hn hm hd hl ha hb
meta abbrev abz:Ex:=j6 [none,some 0] (lg (jR (f1 zf) (jo (jt 0) (jy)))) (j4 0) (uG (jA (t8 true) (jA zu (jt 1) (jt 0)) (eC (.int 0)))) (kO (jo (jt 0) (jo (jA zu (jt 1) (jt 0)) (jy))))
def OB{S:jz}{D:Pl}(hd:lE S d=some (iv D))(hl:D.length<=16777216):∃S',abz [.ref d] S=.ok (.ref (S.length+1)) S'/\ju S' (S.length+1)=some (pl (IB D))/\kY S S':=by
 have hd1:lE (S++[.lst ((sortI (D.map Prod.fst)).map .int)]) d=some (iv D):=OV hd;have ls:(S++[O.lst ((sortI (D.map Prod.fst)).map A.int)]).length=S.length+1:=by simp
 have cc:=L7 (n:=S.length) (xs:=(sortI (D.map Prod.fst)).map A.int) (cap:=[some 0]) (src:=lg (jR (f1 zf) (jo (jt 0) (jy)))) (t:=uG (jA (t8 true) (jA zu (jt 1) (jt 0)) (eC (.int 0)))) (e:=kO (jo (jt 0) (jo (jA zu (jt 1) (jt 0)) (jy)))) (τ:=[.ref d]) (S:=S) (S1:=S++[.lst ((sortI (D.map Prod.fst)).map .int)])
  (lH (by dsimp[jT,bools,Mf,hd,SJ]) jI) jI (λx=>match x with | .int k=>val D k != 0|_=>false) (λx=>match x with | .int k=>pA (k,val D k)|_=>.non) (λx hx=>by
   obtain⟨k,hk,rfl⟩:=bu.mp hx;have hk:=(sortI_perm _).mem_iff.mp hk;dsimp[jT,bools,JN,hd1,Fd hk];rfl) (λx hx _=>by
   obtain⟨k,hk,rfl⟩:=bu.mp hx;have hk:=(sortI_perm _).mem_iff.mp hk;dsimp[jT,bools,JN,hd1,Fd hk];exact mV (show 2<=16777216 by decide)) (by rw[aH,(sortI_perm _).length_eq,aH];exact hl)
 refine⟨_,cc.trans (by rw[ls]),?_,Kp.refl.lay.lay⟩;rw[<- ls,jI];congr 1;unfold pl IB;rw[bh,jd,bh];rfl
end Am
namespace Su
open Am Po PySem L2
meta abbrev En:=ag×Nat×Pl
meta abbrev Es:=List En
abbrev ent (e:En):A:=.tup [.tup (e.1.map .int),.ref e.2.1]
abbrev kv (e:En):ag×A:=(e.1,.ref e.2.1)
abbrev At (S:jz)(es:Es):Prop:=∀e∈es,ju S e.2.1=some (pl e.2.2)
meta abbrev Ps:=List (ag×Pl)
abbrev sm (es:Es):Ps:=es.map λe=>(e.1,e.2.2)
def mT(es:Es):(sm es).length=es.length:=aH ..
def EB(a b:Es):sm (a++b)=sm a++sm b:=bU
abbrev vS (D:Ps)(o:ag):Pl:=((D.find? λe=>decide (e.1=o)).map (·.2)).getD []
abbrev hS (D:Ps)(o:ag):Bool:=D.any λe=>decide (e.1=o)
abbrev Bj (D:Ps)(o:ag)(p:Pl):Ps:=if hS D o=true then D.map (λe=>if e.1=o then(e.1,p)else e)else D++[(o,p)]
abbrev Bc (D:Ps)(o:ag)(p:Pl):Ps:=Bj D o (nu (vS D o) p)
abbrev adds (D l:Ps):Ps:=l.foldl (λD e=>Bc D e.1 e.2) D
def GF(D a b:Ps):adds D (a++b)=adds (adds D a) b:=by unfold adds;rw[dO]
abbrev toS (D:Ps):Ps:=((mE (D.map Prod.fst)).filter λo=>!(vS D o).isEmpty).map λo=>(o,vS D o)
abbrev fE (D:Es)(o:ag):Option En:=D.find? λe=>decide (e.1=o)
abbrev nU (D:Es)(o:ag)(r:Nat)(p:Pl):Es:=if (fE D o).isSome=true then D.map (λe=>if e.1=o then(e.1,r,p)else e)else D++[(o,r,p)]
def Uk(D:Es)(o:ag):(sm D).find? (λe=>decide (e.1=o))=(fE D o).map λe=>(e.1,e.2.2):=by
 unfold sm fE;rw[ig];rfl
def L0(D:Es)(o:ag):vS (sm D) o=((fE D o).map λe=>e.2.2).getD []:=by
 unfold vS;rw[Uk,f_];rfl
def abt(D:Es)(o:ag):hS (sm D) o=(fE D o).isSome:=by
 unfold hS sm fE;rw[List.any_map,Bool.eq_iff_iff,iX,gh];rfl
def HL(D:Es)(o:ag)(r:Nat)(p:Pl):sm (nU D o r p)=Bj (sm D) o p:=by
 unfold nU Bj;rw[abt];unfold sm;split
 ·rw[bh,bh];apply cP;intro e _;show((if e.1=o then(e.1,r,p)else e).1,(if e.1=o then(e.1,r,p)else e).2.2)=if e.1=o then(e.1,p)else(e.1,e.2.2)
  split<;>rfl
 ·rw[bU];rfl
def wc(D:Es)(o:ag):lV (D.map kv) o=(fE D o).map λe=>.ref e.2.1:=by
 unfold lV fE;rw[ig,f_];rfl
def Dz(D:Es)(o:ag)(r:Nat)(p:Pl):putD (D.map kv) o (.ref r)=(nU D o r p).map kv:=by
 unfold putD nU;rw[wc,gT];split
 ·rw[bh,bh];apply cP;intro e _;show(if e.1=o then(e.1,A.ref r)else(e.1,.ref e.2.1))=kv (if e.1=o then(e.1,r,p)else e);split<;>rfl
 ·rw[bU];rfl
def rZ{D:Es}{r:Nat}{p:Pl}{e:En}(h:e∈nU D o r p):e∈D\/e=(o,r,p):=by
 unfold nU at h;split at h
 ·obtain⟨e',h1,rfl⟩:=bu.mp h;split
  ·rename_i c;exact .inr (by rw[c])
  ·exact .inl h1
 ·rcases bH.mp h with z|z
  ·exact .inl z
  ·exact .inr (aS.mp z)
def DJ{D:Es}{r:Nat}{p:Pl}:(nU D o r p).length<=D.length+1:=by
 unfold nU;split
 ·rw[aH];lia
 ·rw[aQ];exact aR _
def uq{D:Es}{e:En}(h:fE D o=some e):e∈D/\e.1=o:=⟨gq h,by
 unfold fE at h;have:=iH h;simpa using this⟩
def At.put{D:Es}{r:Nat}{p:Pl}(h:At S D)(hr:ju S r=some (pl p)):At S (nU D o r p):=λe he=>by
 rcases rZ he with z|z
 ·exact h e z
 ·rw[z];exact hr
def At.kp{D:Es}{b:Nat->Prop}(h:At S D)(k:Kp b S S')(hb:∀e∈D,¬b e.2.1):At S' D:=λe he=>k.lst _ _ (hb e he) (h e he)
def At.yY{D:Es}(h:At S D)(k:kY S S'):At S' D:=h.kp k λ_ _ z=>z
def At.app{a:Es}(h:At S a)(h':At S b):At S (a++b):=λe he=>(bH.mp he).elim (h e) (h' e)
def p_{n:Nat}(h:jV S n=some d)(h':ju S m=some xs):n≠m:=λz=>by
 subst z;have e1:=oK h;rw[jN h']at e1
 cases e1
def At.G_{D:Es}(h:At S D)(k:Kp (·=d) S S')(hd:jV S d=some kvs):At S' D:=h.kp k λe he z=>p_ hd (h e he) z.symm
abbrev Vl (k b:Nat)(D:Es):Prop:=∀e∈D,Ok e.2.2/\e.2.2.length<=k/\b<=e.2.1
def Vl.mono{k:Nat}{D:Es}(h:Vl k b D)(hk:k<=k'):Vl k' b D:=λe he=>⟨(h e he).1,bJ (h e he).2.1 hk,(h e he).2.2⟩
def Vl.v{k:Nat}{D:Es}(h:Vl k b D)(o:ag):Ok (vS (sm D) o)/\(vS (sm D) o).length<=k:=by
 rw[L0]
 cases e:fE D o with
 | none=>exact⟨⟨List.Pairwise.nil,nofun⟩,bL _⟩
 | some e'=>exact⟨(h e' (uq e).1).1,(h e' (uq e).1).2.1⟩
def Ma(a b:Pl):(nu a b).length<=a.length+b.length:=by
 refine bJ (Kl _) (bJ (oG _ _) ?_);rw[aQ,bR];lia
def C5(a b:Pl):(times a b).length<=a.length * b.length:=by
 refine bJ (Kl _) (bJ (oG _ _) ?_);rw[yF,bR];lia
def Vl.add{k r:Nat}{D:Es}{p:Pl}(h:Vl k b D)(hp:p.length<=j)(hr:b<=r):Vl (k+j) b (nU D o r (nu (vS (sm D) o) p)):=λe he=>by
 rcases rZ he with z|z
 ·exact(h.mono (Nat.le_add_right _ _)) e z
 ·rw[z];refine⟨F7 _ _,?_,hr⟩;have:=Ma (vS (sm D) o) p;have:=(h.v o).2;show(nu (vS (sm D) o) p).length<=_
  lia
def rX{S:jz}:jV (S++[.dct xs]) S.length=some xs:=xT IM
def Ae{o:O}{n:Nat}(h:jV S n=some xs):jV (S++[o]) n=some xs:=by
 have h':=oK h;exact xT (by rw[bI (aL.mp h').1];exact h')
def BN{S:jz}{n:Nat}(h:jV S n=some xs):n<S.length:=(aL.mp (oK h)).1
def Az{S:jz}{n:Nat}(h:n<S.length):jV (S.set n (.dct ys)) n=some ys:=xT (b_ h)
def Lq{f:A->ae->jz->R A}{co:Ex}{d:sP}:Uc f co d τ S=(co τ S).bind λx S1=>opt (dct? x S1) λ_=>(d τ S1).bind λas S2=>f x as S2:=rfl
def JB{n:Nat}:dct? (.ref n) S=(jV S n).map λ_=>Unit.unit:=rfl
def vc{S:jz}:zQ τ S=.ok (.ref S.length) (S++[.dct []]):=rfl
def xQ{co ci:Ex}{a:A}:FF co ci a τ S=(co τ S).bind λo S1=>(ci τ S1).bind λi S2=>(GS o i a S2).bind λ_ S3=>.ok τ S3:=rfl
def JH{n:Nat}{o:ag}:Tc (.ref n) [.tup (o.map .int),y] S=opt (jV S n) λkvs=>.ok ((lV kvs o).getD y) S:=by
 show opt (jV S n) (λkvs=>opt (A.ints (o.map .int)) λk=>.ok ((lV kvs k).getD y) S)=_;rw[ints_map];rfl
def ym{n:Nat}{o:ag}{v:A}{S:jz}:GS (.ref n) (.tup (o.map .int)) v S=opt (jV S n) λkvs=>gd (kvs.length<sizeLine) (.ok Unit.unit (S.set n (.dct (putD kvs o v)))):=by
 show opt (jV S n) (λkvs=>opt (A.ints (o.map .int)) λns=>gd (kvs.length<sizeLine) (.ok Unit.unit (S.set n (.dct (putD kvs ns v)))))=_;rw[ints_map];rfl
def uI{n:Nat}{o:ag}:wC (.ref n) (.tup (o.map .int)) S=opt (jV S n) λkvs=>opt (lV kvs o) λv=>.ok v S:=by
 show opt (jV S n) (λkvs=>opt (A.ints (o.map .int)) λns=>opt (lV kvs ns) λv=>.ok v S)=_;rw[ints_map];rfl
def get_or{S:jz}{D:Es}(hd:jV S d=some (D.map kv))(hA:At S D):∃x:Nat,(lV (D.map kv) o).getD (.ref S.length)=.ref x/\ju (S++[.lst []]) x=some (pl (vS (sm D) o)):=by
 rw[wc,L0]
 cases e:fE D o with
 | none=>exact⟨S.length,rfl,jI⟩
 | some e'=>exact⟨e'.2.1,rfl,jX (hA e' (uq e).1)⟩
def SQ{α:Type}{xs:List α}(g:α->A){n:Nat}{src:Ic}{t:Te}{e:Ex}(hs:src τ S=.ok (kC n (xs.map g).length) S1)(hx:ju S1 n=some (xs.map g))(d:α)(p:α->Bool)(f:α->A)
  (step:∀x∈xs,∀T,kY S1 T->∃T1,t (g x::kN cap τ) T=.ok (p x) T1/\kY S1 T1/\(p x=true->∃T2,e (g x::kN cap τ) T1=.ok (f x) T2/\kY S1 T2)) (hl:xs.length<=16777216) :
  ∃S',j6 (none::cap) src (j4 0) t e τ S=.ok (.ref S'.length) (S'++[.lst ((xs.filter p).map f)])/\kY S1 S':=by
 have hm:∀i,i<xs.length->xs.getD i d∈xs:=λi hi=>by
  rw[aI,aF hi];exact cI hi
 have hk:(xs.map g).length=xs.length:=aH ..;obtain⟨S',h1,h2⟩:=vZ (s:=kC n (xs.map g).length) (g:=j4 0) (t:=t) (e:=e) (P:=λT=>kY S1 T) (T:=λτ'=>∃y,τ'=y::kN cap τ) (λi=>g (xs.getD i d)) (λi=>p (xs.getD i d)) (λi=>f (xs.getD i d)) (λi T hi h=>by
   have hi:i<(xs.map g).length:=hi;show(ju T n).bind _=_;rw[h.lst _ _ (λz=>z) hx,dH,aO,aF (),aI,aF ()];rfl) (λT h=>by
   show(match ju T n with
    | some ys=>decide (ys.length<=(xs.map g).length)
    | none=>false)=true
   rw[h.lst _ _ (λz=>z) hx];simp)
  (λi τ' T hi ⟨y,hy⟩ h=>by
   have hi:i<(xs.map g).length:=hi;subst hy;obtain⟨T1,e1,k1,e2⟩:=step _ (hm i ()) T h;exact⟨g (xs.getD i d)::kN cap τ,T,T1,rfl,e1,⟨_,rfl⟩,λ_=>k1,e2⟩) (xs.map g).length 0 (kN (none::cap) τ) S1 rfl ⟨_,rfl⟩ Kp.refl
 refine⟨S',?_,h2⟩;unfold j6;rw[hs,R.oM];show(mW (kC n (xs.map g).length) (j4 0) t e (xs.map g).length 0 (kN (none::cap) τ) S1).mU _=_;rw[h1,R.k_,<- dc,hk,nh xs p f d];refine j7 ?_;rw[aH];exact bJ (cN _ _) hl
def FH{es:Es}{n:Nat}{src:Ic}{ex:Ex}{S:jz}(hs:src τ S=.ok (kC n (es.map ent).length) S)(hx:ju S n=some (es.map ent))(F:Pl->Pl)
  (step:∀e∈es,∀T,kY S T->∃(r:Nat) (T':jz),ex (.tup (e.1.map .int)::.ref e.2.1::kN cap τ) T=.ok (.tup [.tup (e.1.map .int),.ref r]) T'/\ju T' r=some (pl (F e.2.2))/\T.length<=r/\kY T T') (hl:es.length<=16777216) :
  ∃(m:Nat) (S':jz) (fs:Es),j6 (none::none::cap) src TJ oV ex τ S=.ok (.ref m) S'/\ju S' m=some (fs.map ent)/\At S' fs/\sm fs=es.map (λe=>(e.1,F e.2.2))/\(∀e∈fs,S.length<=e.2.1/\e.2.1<m)/\S.length<=m/\kY S S':=by
 have hk:(es.map ent).length=es.length:=aH ..;obtain⟨ys,S',h1,k1,fs,rfl,h2,h3,h4⟩:=BR (s:=kC n (es.map ent).length) (g:=TJ) (e:=ex) (T:=λτ'=>∃y z,τ'=y::z::kN cap τ) (λi acc T=>kY S T/\∃fs:Es,acc=fs.map ent/\At T fs/\sm fs=(es.take i).map (λe=>(e.1,F e.2.2))/\∀e∈fs,S.length<=e.2.1/\e.2.1<T.length)
  (λi acc τ' T hi ⟨y,z,hy⟩ hP=>by
   have hi:i<(es.map ent).length:=hi;obtain⟨kT,fs,rfl,a1,a2,a3⟩:=hP;subst hy;have he:es[i]?=some es[i]:=aF ();obtain⟨r,T',e1,e2,e3,e4⟩:=step es[i] (aW he) T kT;have lr:=oE e2;refine⟨ent es[i],.tup (es[i].1.map .int)::.ref es[i].2.1::kN cap τ,T,_,T',?_,rfl,⟨_,_,rfl⟩,e1,kT.trans e4,fs++[(es[i].1,r,F es[i].2.2)],by rw[bU];rfl,?_,?_,?_⟩
   ·show(ju T n).bind _=_;rw[kT.lst _ _ (λz=>z) hx,dH,aO,he];rfl
   ·refine(a1.yY e4).app λe h=>?_;rw[aS.mp h];exact e2
   ·rw[EB,a2,cW,he,bU];rfl
   ·intro e h;have:=e4.len;have:=kT.len
    rcases bH.mp h with z|z
    ·have:=a3 e z;lia
    ·rw[aS.mp z];show S.length<=r/\r<_;lia) (λacc T hP=>by
   show(match ju T n with
    | some ys=>decide (ys.length<=(es.map ent).length)
    | none=>false)=true
   rw[hP.1.lst _ _ (λz=>z) hx];simp) (es.map ent).length 0 [] (kN (none::none::cap) τ) S rfl ⟨_,_,rfl⟩ ⟨Kp.refl,[],rfl,(nofun),by rw[eU];rfl,nofun⟩
 rw[show(kC n (es.map ent).length).k=es.length from hk,c_]at h3;have lf:fs.length=es.length:=by have:=dj List.length h3;rwa [mT,aH]at this
 refine⟨S'.length,S'++[.lst (fs.map ent)],fs,?_,jI,h2.yY Kp.refl.lay,h3,λe he=>h4 e he,k1.len,k1.lay⟩;unfold j6;rw[hs,R.oM];show(mW (kC n (es.map ent).length) TJ oV ex (es.map ent).length 0 (kN (none::none::cap) τ) S).mU _=_;rw[h1,R.k_];exact j7 (by rw[aH,lf];exact hl)
def GY{D:Es}{o:ag}(h:o∈D.map Prod.fst):∃e,fE D o=some e:=by
 unfold fE
 cases e:D.find? λe=>decide (e.1=o)with
 | some x=>exact⟨x,rfl⟩
 | none=>
  obtain⟨x,hx,rfl⟩:=bu.mp h;exact absurd (bf rfl) (gH.mp e x hx)
abbrev yO (k:ag):A:=.tup (k.map .int)
def Bp{S:jz}{D:Es}(hd:jV S d=some (D.map kv))(hne:∀e∈D,e.1≠[]):uV (.ref d) S=.ok (.ref S.length) (S++[.lst ((mE (D.map Prod.fst)).map yO)]):=by
 have ek:(D.map kv).map Prod.fst=D.map Prod.fst:=by rw[bh];rfl
 show opt (jV S d) _=_;rw[hd,ki];have:((D.map kv).map Prod.fst).all (λks=>!ks.isEmpty)=true:=by
  rw[ek,gS,eL];intro e he;have:=hne e he;show(!(e.1).isEmpty)=true
  cases h:e.1 with
  | nil=>exact absurd h this
  | cons=>rfl
 rw[ek]at this ⊢;rw[this];rfl
abbrev qf (D:Es)(p:Pl->Bool):Es:=((mE (D.map Prod.fst)).filter λo=>p (vS (sm D) o)).map λo=>(o,((fE D o).map λe=>e.2.1).getD 0,vS (sm D) o)
def yk(D:Es):sm (qf D λp=>!p.isEmpty)=toS (sm D):=by
 unfold qf toS sm;rw[bh,bh];rfl
def vQ{D:Es}{p:Pl->Bool}{e:En}(h:e∈qf D p):e∈D/\p e.2.2=true:=by
 obtain⟨o,ho,rfl⟩:=bu.mp h;obtain⟨h1,h2⟩:=cQ.mp ho;obtain⟨e,he⟩:=GY ((jW _).mem_iff.mp h1);rw[L0,he]at h2;rw[L0,he];obtain⟨m,rfl⟩:=uq he;exact⟨m,h2⟩
def A_{S:jz}{D:Es}{src:Ic}{t:Te}{e:Ex}(hd:jV S d=some (D.map kv))(hA:At S D)(hs:src τ S=.ok (kC S.length ((mE (D.map Prod.fst)).map yO).length) (S++[.lst ((mE (D.map Prod.fst)).map yO)]))(p:Pl->Bool)
  (ht:∀(o:ag) (r:Nat) (q:Pl) (T:jz),jV T d=some (D.map kv)->lV (D.map kv) o=some (.ref r)->ju T r=some (pl q)->∃T1,t (yO o::kN cap τ) T=.ok (p q) T1/\kY T T1)
  (he:∀(o:ag) (r:Nat) (T:jz),jV T d=some (D.map kv)->lV (D.map kv) o=some (.ref r)->e (yO o::kN cap τ) T=.ok (.tup [yO o,.ref r]) T) (hl:D.length<=16777216) :
  ∃(n:Nat) (S':jz),j6 (none::cap) src (j4 0) t e τ S=.ok (.ref n) S'/\ju S' n=some ((qf D p).map ent)/\At S' (qf D p)/\S.length<n/\kY S S':=by
 have kx:kY S (S++[.lst ((mE (D.map Prod.fst)).map yO)]):=Kp.refl.lay;obtain⟨S',e1,k1⟩:=SQ yO (t:=t) (e:=e) (cap:=cap) hs jI [] (λo=>p (vS (sm D) o)) (λo=>ent (o,((fE D o).map λe=>e.2.1).getD 0,vS (sm D) o)) (λo ho T kT=>by
  obtain⟨e',he'⟩:=GY ((jW _).mem_iff.mp ho);have lk:lV (D.map kv) o=some (.ref e'.2.1):=by rw[wc,he'];rfl
  have kST:=kx.trans kT;have dT:=kST.dct _ _ (λz=>z) hd;have lT:=kST.lst _ _ (λz=>z) (hA e' (uq he').1);obtain⟨T1,h1,h2⟩:=ht o e'.2.1 e'.2.2 T dT lk lT;rw[L0,he'];exact⟨T1,h1,kT.trans h2,λ_=>⟨T1,he o e'.2.1 T1 (h2.dct _ _ (λz=>z) dT) lk,kT.trans h2⟩⟩) (by
  rw[(jW _).length_eq,aH];exact hl)
 have kS:=kx.trans k1;refine⟨S'.length,_,e1,?_,(?_:At S' (qf D p)).yY Kp.refl.lay,?_,kS.lay⟩
 ·rw[jI];unfold qf;rw[bh];rfl
 ·exact λe h=>kS.lst _ _ (λz=>z) (hA e (vQ h).1)
 ·have:=k1.len;rw[aQ]at this;exact this
abbrev AU (F:ae->jz->R A):Prop:=∀{S:jz}{d r:Nat}{D:Es}{o:ag}{p:Pl}{k b:Nat},jV S d=some (D.map kv)->At S D->Vl k b D->ju S r=some (pl p)->D.length<16777216->k+p.length<16777216 ->
  ∃(L:Nat) (S':jz),F [.ref d,.tup (o.map .int),.ref r] S=.ok .non S'/\jV S' d=some ((nU D o L (nu (vS (sm D) o) p)).map kv)/\At S' (nU D o L (nu (vS (sm D) o) p))/\S.length<=L/\Kp (·=d) S S'
abbrev ML (F:ae->jz->R A):Prop:=∀{S:jz}{n m:Nat}{a b:Pl},ju S n=some (pl a)->ju S m=some (pl b)->a.length * b.length<16777216->(∀p∈a,p.2.natAbs<big)->(∀p∈b,p.2.natAbs<big) ->
  ∃(L:Nat) (S':jz),F [.ref n,.ref m] S=.ok (.ref L) S'/\ju S' L=some (pl (times a b))/\S.length<=L/\kY S S'
abbrev Ap (D:Es):Prop:=D.Pairwise λe f=>e.1≠f.1/\e.2.1≠f.2.1
def Ap.put{D:Es}{r:Nat}{p:Pl}(h:Ap D)(hr:∀e∈D,e.2.1≠r):Ap (nU D o r p):=by
 unfold nU;split
 ·unfold Ap;rw[cK];refine gD (λ{e f} he hf z=>?_) h;by_cases c1:e.1=o
  ·have c2:¬f.1=o:=λz2=>z.1 (c1.trans z2.symm);rw[aK c1,aJ c2];exact⟨z.1,λy=>hr f hf y.symm⟩
  ·rw[aJ c1];by_cases c2:f.1=o
   ·rw[aK c2];exact⟨z.1,hr e he⟩
   ·rw[aJ c2];exact z
 ·rename_i c;unfold Ap;rw[cB];refine⟨h,cj _ _,λe he f hf=>?_⟩;rw[aS.mp hf];refine⟨λz=>c ?_,hr e he⟩;unfold fE;rw[iX];exact⟨e,he,bf z⟩
theorem Ap.at{D:Es}(h:Ap D):∀e∈D,∀f∈D,e.1≠f.1->e.2.1≠f.2.1:=by
 unfold Ap at h
 induction h with
 | nil=>exact λe he=>nomatch he
 | @cons a D ha _ ih=>
  intro e he f hf z
  rcases bF.mp he with h1|h1<;>rcases bF.mp hf with h2|h2
  ·exact absurd (by rw[h1,h2]) z
  ·rw[h1];exact(ha f h2).2
  ·rw[h2];exact(ha e h1).2.symm
  ·exact ih e h1 f h2 z
def Ap.nd{D:Es}(h:Ap D):(D.map Prod.fst).Nodup:=by
 unfold List.Nodup;rw[cK];exact h.imp λz=>z.1
def Ap.out{D:Es}(h:Ap D)(p:Pl->Bool):Ap (qf D p):=by
 unfold Ap qf;rw[cK];have n:(mE (D.map Prod.fst)).Pairwise (·≠·):=(jW _).nodup_iff.mpr h.nd;refine gD (λ{a b} ha hb z=>?_) (n.filter _);obtain⟨e,he⟩:=GY ((jW _).mem_iff.mp (cQ.mp ha).1);obtain⟨f,hf⟩:=GY ((jW _).mem_iff.mp (cQ.mp hb).1);obtain⟨m1,e1⟩:=uq he;obtain⟨m2,e2⟩:=uq hf;refine⟨z,?_⟩;rw[he,hf];exact h.at e m1 f m2 (by rw[e1,e2];exact z)
structure Fil (T:jz)(d b i j:Nat)(P:Ps)(D:Es):Prop where
 dd:jV T d=some (D.map kv)
 aa:At T D
 ss:sm D=P
 vv:Vl (i * j) b D
 kk:∀e∈D,e.1≠[]
 ll:D.length<=i
 pw:Ap D
def Fil.mono{P:Ps}{D:Es}(h:Fil T d b i j P D)(hi:i<=i'):Fil T d b i' j P D:=⟨h.dd,h.aa,h.ss,h.vv.mono (bN _ hi),h.kk,bJ h.ll hi,h.pw⟩
def Fil.new(hd:jV S d=some []):Fil S d b 0 j [] []:=⟨hd,(nofun),rfl,(nofun),(nofun),aR _,List.Pairwise.nil⟩
def Fil.yY{P:Ps}{D:Es}(h:Fil S d b i j P D)(k:kY S T):Fil T d b i j P D:=⟨k.dct _ _ (λz=>z) h.dd,h.aa.yY k,h.ss,h.vv,h.kk,h.ll,h.pw⟩
def Fil.add{F:ae->jz->R A}(hF:AU F){T:jz}{r:Nat}{P:Ps}{D:Es}{o:ag}{p:Pl}(h:Fil T d b i j P D)(hr:ju T r=some (pl p))(hp:p.length<=j)(ho:o≠[])(hb:b<=T.length)(hl:i * j+j<16777216)(hi:i<16777216) :
  ∃(D':Es) (T':jz),F [.ref d,.tup (o.map .int),.ref r] T=.ok .non T'/\Fil T' d b (i+1) j (Bc P o p) D'/\Kp (·=d) T T':=by
 have hl0:=h.ll;obtain⟨L,T',e,h1,h2,h3,h4⟩:=hF (o:=o) h.dd h.aa h.vv hr () ();refine⟨_,T',e,⟨h1,h2,by rw[HL,h.ss];rfl,?_,λe he=>?_,?_,h.pw.put λe he z=>by have:=oE (h.aa e he);lia⟩,h4⟩
 ·have:=h.vv.add (o:=o) (p:=p) (j:=j) hp (show b<=L by lia);rw[dS];exact this
 ·rcases rZ he with z|z
  ·exact h.kk e z
  ·rw[z];exact ho
 ·have:=DJ (D:=D) (o:=o) (r:=L) (p:=nu (vS (sm D) o) p)
  lia
def U5{n i0 w:Nat}{P:Ps}{es:Es}{src:Ic}{c:Sm}(G:En->Ps->Ps)(hs:src (x0::x1::.ref d::x3::x4::xs) S=.ok (kC n (es.map ent).length) S1)(hn:ju S1 n=some (es.map ent))(hd:Fil S1 d b i0 j P D0)
  (step:∀(i:Nat) (e:En) (T:jz) (Q:Ps) (D:Es),i<es.length->e∈es->Kp (·=d) S1 T->Fil T d b (i0+w * i) j Q D->∃(D':Es) (T':jz),c (x0::x1::.ref d::.tup (e.1.map .int)::.ref e.2.1::xs) T=.nx (x0::x1::.ref d::.tup (e.1.map .int)::.ref e.2.1::xs) T'/\Fil T' d b (i0+w * (i+1)) j (G e Q) D'/\Kp (·=d) T T') :
  ∃(y3 y4:A) (D:Es) (S':jz),lC src Td c (x0::x1::.ref d::x3::x4::xs) S=.nx (x0::x1::.ref d::y3::y4::xs) S'/\Fil S' d b (i0+w * es.length) j (es.foldl (λQ e=>G e Q) P) D/\Kp (·=d) S1 S':=by
 have hle:(es.map ent).length=es.length:=aH ..;refine pI (n:=n) (xs:=es.map ent) (S1:=S1) hs (λi τ T=>(∃y3 y4,τ=x0::x1::.ref d::y3::y4::xs)/\(∃D,Fil T d b (i0+w * i) j ((es.take i).foldl (λQ e=>G e Q) P) D)/\Kp (·=d) S1 T)
  (λr=>∃(y3 y4:A) (D:Es) (S':jz),r=.nx (x0::x1::.ref d::y3::y4::xs) S'/\Fil S' d b (i0+w * es.length) j (es.foldl (λQ e=>G e Q) P) D/\Kp (·=d) S1 S') ⟨⟨_,_,rfl⟩,⟨D0,hd⟩,Kp.refl⟩ (λi τ T h=>h.2.2.lst _ _ (dw (p_ hd.dd hn)) hn) ?_ ?_
 ·rintro i z τ T hz ⟨⟨y3,y4,rfl⟩,⟨D,f⟩,kp⟩;rw[aO]at hz;obtain⟨e,he,rfl⟩:=aX.mp hz;refine⟨x0::x1::.ref d::.tup (e.1.map .int)::.ref e.2.1::xs,T,rfl,.inl ?_⟩;obtain⟨D',T',e1,f',k'⟩:=step i e T _ D (aL.mp he).1 (aW he) kp f;refine⟨_,T',e1,⟨_,_,rfl⟩,⟨D',?_⟩,kp.trans k'⟩;rw[cW,he,dO];exact f'
 ·rintro τ T ⟨⟨y3,y4,rfl⟩,⟨D,f⟩,kp⟩;rw[hle,c_]at f;exact⟨y3,y4,D,T,rfl,f,kp⟩
def LJ(P:Ps)(es:Es):es.foldl (λQ e=>Bc Q e.1 e.2.2) P=adds P (sm es):=by
 unfold adds sm;rw[jl]
def LI(q:Pl)(P:Ps)(es:Es):es.foldl (λQ e=>Bc Q e.1 (times q e.2.2)) P=adds P ((sm es).map λe=>(e.1,times q e.2)):=by
 unfold adds sm;rw[jl,jl]
def Tv{F:ae->jz->R A}(hF:AU F){S1:jz}{n i0:Nat}{P:Ps}{es:Es}{src:Ic}(hs:src (x0::x1::.ref d::x3::x4::xs) S=.ok (kC n (es.map ent).length) S1)(hn:ju S1 n=some (es.map ent))(hA:At S1 es)(hd:Fil S1 d b i0 j P D0)(hb:b<=S1.length)
  (hj:∀e∈es,e.2.2.length<=j/\e.1≠[]) (hl:(i0+es.length) * j+j<16777216) (hl':i0+es.length<16777216) :
  ∃(y3 y4:A) (D:Es) (S':jz),lC src Td (oW (eFn F (jo (jt 2) (jo (jt 3) (jo (jt 4) jy))))) (x0::x1::.ref d::x3::x4::xs) S=.nx (x0::x1::.ref d::y3::y4::xs) S'/\Fil S' d b (i0+es.length) j (adds P (sm es)) D/\Kp (·=d) S1 S':=by
 have:=U5 (w:=1) (c:=oW (eFn F (jo (jt 2) (jo (jt 3) (jo (jt 4) jy))))) (λe Q=>Bc Q e.1 e.2.2) hs hn hd λi e T Q D hi hm kp f=>by
  have hle':=kp.len;rw[gO]at f ⊢;have hmul:(i0+i) * j<=(i0+es.length) * j:=bN _ ();obtain⟨D',T',e1,f',k'⟩:=f.add hF (o:=e.1) ((hA.G_ kp hd.dd) e hm) (hj e hm).1 (hj e hm).2 () () ();exact⟨D',T',by dsimp[jT,bools,e1],f',k'⟩
 rw[gO,LJ]at this;exact this
def B9{n i0 w:Nat}{P:Ps}{es:Es}{src:Ic}{c:Sm}{g:Tg}(Fm:A->A->ae->ae)(Z:ae->Prop)(G:En->Ps->Ps)(hg:∀(e:En) (y z:A) (xs:ae) (T:jz),g (ent e) (Fm y z xs) T=.ok (Fm (.tup (e.1.map .int)) (.ref e.2.1) xs) T)
  {x3 x4:A} {xs0:ae} (hz:Z xs0) (hs:src (Fm x3 x4 xs0) S=.ok (kC n (es.map ent).length) S1) (hn:ju S1 n=some (es.map ent)) (hd:Fil S1 d b i0 j P D0)
  (step:∀(i:Nat) (e:En) (T:jz) (Q:Ps) (D:Es) (xs:ae),i<es.length->e∈es->Z xs->Kp (·=d) S1 T->Fil T d b (i0+w * i) j Q D->∃(D':Es) (T':jz) (xs':ae),Z xs'/\c (Fm (.tup (e.1.map .int)) (.ref e.2.1) xs) T=.nx (Fm (.tup (e.1.map .int)) (.ref e.2.1) xs') T'/\Fil T' d b (i0+w * (i+1)) j (G e Q) D'/\Kp (·=d) T T') :
  ∃(y3 y4:A) (xs:ae) (D:Es) (S':jz),Z xs/\lC src g c (Fm x3 x4 xs0) S=.nx (Fm y3 y4 xs) S'/\Fil S' d b (i0+w * es.length) j (es.foldl (λQ e=>G e Q) P) D/\Kp (·=d) S1 S':=by
 have hle:(es.map ent).length=es.length:=aH ..;refine pI (n:=n) (xs:=es.map ent) (S1:=S1) hs (λi τ T=>(∃y3 y4 xs,τ=Fm y3 y4 xs/\Z xs)/\(∃D,Fil T d b (i0+w * i) j ((es.take i).foldl (λQ e=>G e Q) P) D)/\Kp (·=d) S1 T)
  (λr=>∃(y3 y4:A) (xs:ae) (D:Es) (S':jz),Z xs/\r=.nx (Fm y3 y4 xs) S'/\Fil S' d b (i0+w * es.length) j (es.foldl (λQ e=>G e Q) P) D/\Kp (·=d) S1 S') ⟨⟨_,_,_,rfl,hz⟩,⟨D0,hd⟩,Kp.refl⟩ (λi τ T h=>h.2.2.lst _ _ (dw (p_ hd.dd hn)) hn) ?_ ?_
 ·rintro i z τ T hz ⟨⟨y3,y4,xs,rfl,hx⟩,⟨D,f⟩,kp⟩;rw[aO]at hz;obtain⟨e,he,rfl⟩:=aX.mp hz;refine⟨Fm (.tup (e.1.map .int)) (.ref e.2.1) xs,T,hg _ _ _ _ _,.inl ?_⟩;obtain⟨D',T',xs',hx',e1,f',k'⟩:=step i e T _ D xs (aL.mp he).1 (aW he) hx kp f;refine⟨_,T',e1,⟨_,_,_,rfl,hx'⟩,⟨D',?_⟩,kp.trans k'⟩;rw[cW,he,dO];exact f'
 ·rintro τ T ⟨⟨y3,y4,xs,rfl,hx⟩,⟨D,f⟩,kp⟩;rw[hle,c_]at f;exact⟨y3,y4,xs,D,T,hx,rfl,f,kp⟩
end Su
namespace Su
open Am Po PySem L2
abbrev cS (l:Ps)(o:ag)(t:Int):Int:=match l with
 | []=>0
 | e::l=>(if e.1=o then cf e.2 t else 0)+cS l o t
def D4(a b:Ps)(o:ag)(t:Int):cS (a++b) o t=cS a o t+cS b o t:=by
 induction a with
 | nil=>exact(cA _).symm
 | cons e a ih=>
  show _+cS (a++b) o t=_+_+_;rw[ih,fY]
def E4(a b:Pl)(k:Int):cf (a++b) k=cf a k+cf b k:=by
 induction a with
 | nil=>exact(cA _).symm
 | cons p a ih=>
  show _+cf (a++b) k=_+_+_;rw[ih,fY]
def QJ(a b:Pl)(k:Int):cf (nu a b) k=cf a k+cf b k:=by
 unfold nu;rw[Ep (wo _ (d:=[]) dN),xN,E4];show 0+_=_;rw[cA]
def yf(a b:Pl)(k:Int):cf (times a b) k=cf (C6 a b) k:=by
 unfold times;rw[Ep (wo _ (d:=[]) dN),xN];show 0+_=_;rw[cA]
theorem Jq(s:Int):∀(b:Pl) (k c:Int),cf (b.map λq=>(c+q.1,s * q.2)) k=s * cf b (k-c)
 | [],k,c=>(ir s).symm
 | q::b,k,c=>by
  show(if c+q.1=k then s * q.2 else 0)+cf (b.map λq=>(c+q.1,s * q.2)) k=s * ((if q.1=k-c then q.2 else 0)+cf b (k-c));rw[Jq s b k c,Int.mul_add];by_cases h:c+q.1=k
  ·rw[aK h,aK ()]
  ·rw[aJ h,aJ (),ir]
meta abbrev AF:Pl:=[((-1:Int),(1:Int)),((1:Int),(-1:Int))]
def aak(b:Pl)(k:Int):cf (times AF b) k=cf b (k+1)-cf b (k-1):=by
 rw[yf];show cf ((b.map λq=>((-1:Int)+q.1,(1:Int) * q.2))++((b.map λq=>((1:Int)+q.1,(-1:Int) * q.2))++[])) k=_;rw[cH,E4,Jq,Jq,Int.one_mul,show k - -1=k+1 by lia]
 lia
def X3{D:Ps}{p:Pl}:vS (Bj D o p) o'=if o'=o then p else vS D o':=by
 have cons:∀(e:ag×Pl) (D:Ps) (x:ag),vS (e::D) x=if e.1=x then e.2 else vS D x:=λe D x=>by
  unfold vS;rw[cT];by_cases h:e.1=x
  ·rw[bf h,aK h];rfl
  ·rw[bw h,aJ h]
 unfold Bj
 cases h:hS D o with
 | true=>
  rw[aK rfl]
  induction D with
  | nil=>cases h
  | cons e D ih=>
   rw[bB,cons,cons];have hc:hS (e::D) o=(decide (e.1=o) || hS D o):=rfl;rw[hc]at h;by_cases c:e.1=o
   ·rw[aK c]
    skip
    by_cases c2:o'=o
    ·rw[aK (c.trans c2.symm),aK c2]
    ·rw[aJ (λz=>c2 (z.symm.trans c)),aJ c2,aJ (λz=>c2 (z.symm.trans c))];clear ih h hc
     induction D with
     | nil=>rfl
     | cons f D ih2=>
      rw[bB,cons,cons,ih2];by_cases c3:f.1=o
      ·rw[aK c3]
       skip
       rw[aJ (λz=>c2 (z.symm.trans c3)),aJ (λz=>c2 (z.symm.trans c3))]
      ·rw[aJ c3]
   ·rw[aJ c];rw[bw c,gz]at h;rw[ih h];by_cases c2:e.1=o'
    ·rw[aK c2,aJ (λz=>c (c2.trans z)),aK c2]
    ·rw[aJ c2,aJ c2]
 | false=>
  rw[aJ (by simp)]
  induction D with
  | nil=>
   show vS [(o,p)] o'=_;rw[cons];by_cases c:o=o'
   ·rw[aK c,aK c.symm]
   ·rw[aJ c,aJ (λz=>c z.symm)]
  | cons e D ih=>
   have hc:hS (e::D) o=(decide (e.1=o) || hS D o):=rfl;rw[hc,iE]at h;rw[List.cons_append,cons,cons,ih h.2];have:=dB h.1;by_cases c:e.1=o'
   ·rw[aK c,aK c,aJ (λz=>this (c.trans z))]
   ·rw[aJ c,aJ c]
def NK(l:Ps):∀(D:Ps) (o:ag) (t:Int),cf (vS (adds D l) o) t=cf (vS D o) t+cS l o t:=by
 induction l with
 | nil=>intro D o t;exact(dz _).symm
 | cons e l ih=>
  intro D o t;show cf (vS (adds (Bc D e.1 e.2) l) o) t=_+((if e.1=o then cf e.2 t else 0)+cS l o t);rw[ih];unfold Bc;rw[X3];by_cases h:o=e.1
  ·rw[aK h,aK h.symm,QJ,h,fY]
  ·rw[aJ h,aJ (λz=>h z.symm),cA]
structure Gd (D:Ps):Prop where
 nd:(D.map Prod.fst).Nodup
 ok:∀e∈D,Ok e.2
def Yu{D:Ps}{o:ag}:hS D o=true ↔ o∈D.map Prod.fst:=by
 unfold hS;rw[gh,bu];constructor
 ·rintro⟨p,h1,h2⟩;exact⟨p,h1,bX h2⟩
 ·rintro⟨p,h1,h2⟩;exact⟨p,h1,bf h2⟩
def LX{D:Ps}{o:ag}{p:Pl}:(Bj D o p).map Prod.fst=if hS D o=true then D.map Prod.fst else D.map Prod.fst++[o]:=by
 unfold Bj;split
 ·rw[bh];apply cP;intro e _;show(if e.1=o then(e.1,p)else e).1=e.1;split<;>rfl
 ·rw[bU];rfl
def Gd.put{D:Ps}{p:Pl}(h:Gd D)(hp:Ok p):Gd (Bj D o p):=by
 refine⟨?_,λe he=>?_⟩
 ·rw[LX];split
  ·exact h.nd
  ·rename_i c;rw[eg];refine⟨h.nd,cj _ _,λa ha b hb z=>c ?_⟩;rw[aS]at hb;rw[Yu,<- hb,<- z];exact ha
 ·unfold Bj at he;split at he
  ·obtain⟨f,hf,rfl⟩:=bu.mp he;split
   ·exact hp
   ·exact h.ok f hf
  ·rcases bH.mp he with z|z
   ·exact h.ok e z
   ·rw[aS.mp z];exact hp
theorem Gd.adds(l:Ps):∀{D:Ps},Gd D->Gd (adds D l):=by
 induction l with
 | nil=>intro D h;exact h
 | cons e l ih=>intro D h;exact ih (h.put (F7 _ _))
def Gd.nil:Gd []:=⟨dN,nofun⟩
def wR{D:Ps}:(∃e∈D,e.1=o/\vS D o=e.2)\/(o∉D.map Prod.fst/\vS D o=[]):=by
 unfold vS
 cases h:D.find? λe=>decide (e.1=o)with
 | some e=>
  have h1:=iH h;exact .inl ⟨e,gq h,by simpa using h1,rfl⟩
 | none=>
  refine .inr ⟨λz=>?_,rfl⟩;obtain⟨e,he,ee⟩:=bu.mp z;exact gH.mp h e he (bf ee)
def Gd.v{D:Ps}(h:Gd D)(o:ag):Ok (vS D o):=by
 rcases wR (D:=D) (o:=o)with⟨e,h1,_,h2⟩|⟨_,h2⟩
 ·rw[h2];exact h.ok e h1
 ·rw[h2];exact⟨List.Pairwise.nil,nofun⟩
def EU.anti{a:ag}(h1:EU a b)(h2:EU b a):a=b:=(Sx.ya h1 h2).symm
def UE{D:Ps}(h:Gd D)(h':Gd E)(hv:∀o,vS D o=vS E o):toS D=toS E:=by
 have key:∀(D:Ps),Gd D->∀o,o∈(mE (D.map Prod.fst)).filter (λo=>!(vS D o).isEmpty) ↔ (vS D o)≠[]:=λD h o=>by
  rw[cQ,(jW _).mem_iff];constructor
  ·rintro⟨_,h2⟩ z;rw[z]at h2;cases h2
  ·intro z;refine⟨?_,by cases e:vS D o with|nil=>exact absurd e z|cons=>rfl⟩
   rcases wR (D:=D) (o:=o)with⟨e,h1,h2,_⟩|⟨_,h2⟩
   ·exact bu.mpr ⟨e,h1,h2⟩
   ·exact absurd h2 z
 have pw:∀(D:Ps),((mE (D.map Prod.fst)).filter (λo=>!(vS D o).isEmpty)).Pairwise EU:=λD=>(tM _).filter _;have nd:∀(D:Ps),Gd D->((mE (D.map Prod.fst)).filter (λo=>!(vS D o).isEmpty)).Nodup:=λD h=>((jW _).nodup_iff.mpr h.nd).filter _;have e:(mE (D.map Prod.fst)).filter (λo=>!(vS D o).isEmpty)=(mE (E.map Prod.fst)).filter (λo=>!(vS E o).isEmpty):=by
  refine dW (λa b _ _ h1 h2=>EU.anti h1 h2) (pw D) (pw E) ((iR (nd D h) (nd E h')).mpr λo=>?_);rw[key D h,key E h',hv]
 unfold toS;rw[e];apply cP;intro o _;rw[hv]
def Fp{D:Ps}(h:Gd D)(h':Gd E)(hc:∀o t,cf (vS D o) t=cf (vS E o) t):toS D=toS E:=UE h h' λo=>uniq (h.v o) (h'.v o) (hc o)
theorem Iq{f:ag->Pl}{o:ag}{t:Int}:∀{ks:List (ag)},ks.Nodup->cS (ks.map λk=>(k,f k)) o t=if o∈ks then cf (f o) t else 0
 | [],_=>by rw[aJ (by simp)];rfl
 | j::ks,h=>by
  obtain⟨h1,h2⟩:=cR.mp h;show(if j=o then cf (f j) t else 0)+cS (ks.map λk=>(k,f k)) o t=_;rw[Iq h2];by_cases c:j=o
  ·subst c;rw[aK rfl,aJ h1,aK (aM ..),dz]
  ·rw[aJ c,cA];by_cases e:o∈ks
   ·rw[aK e,aK (aN _ e)]
   ·rw[aJ e,aJ λz=>(bF.mp z).elim (λz=>c z.symm) e]
def ES{D:Ps}(h:Gd D)(o:ag)(t:Int):cS (toS D) o t=cf (vS D o) t:=by
 unfold toS;rw[Iq (((jW _).nodup_iff.mpr h.nd).filter _)];split
 ·rfl
 ·rename_i c
  rcases wR (D:=D) (o:=o)with⟨e,h1,h2,h3⟩|⟨_,h2⟩
  ·by_cases z:vS D o=[]
   ·rw[z];rfl
   ·refine absurd (cQ.mpr ⟨(jW _).mem_iff.mpr (bu.mpr ⟨e,h1,h2⟩),?_⟩) c
    cases e:vS D o with|nil=>exact absurd e z|cons=>rfl
  ·rw[h2];rfl
abbrev nR (o:ag)(k:Nat):Bool:=decide (o.getD (k-1) 0>o.getD k 0)
abbrev bxL (k:Nat)(l:Ps):Ps:=l.flatMap λe=>(Wd.ex e.1 k,e.2)::(if nR e.1 k=true then[(e.1,times AF e.2)]else[])
abbrev bx (k:Nat)(l:Ps):Ps:=toS (adds [] (bxL k l))
abbrev Go (N k:Nat)(o:ag):Prop:=o.length=N/\o.getD (k-1) 0≠o.getD k 0
def Ph{N k:Nat}{o:ag}(h:o.length=N)(h1:1<=k)(h2:k<N):Wd.ex (Wd.ex o k) k=o:=Fw.ye h1 ()
def Rb{k:Nat}{o:ag}(h1:1<=k)(h2:k<o.length):(Wd.ex o k).getD (k-1) 0=o.getD k 0/\(Wd.ex o k).getD k 0=o.getD (k-1) 0:=by
 constructor
 ·rw[aI,Wd.oN h1 h2,aJ (),aK rfl,aI]
 ·rw[aI,Wd.oN h1 h2,aK rfl,aI]
def Go.ex{N k:Nat}(h:Go N k o)(h1:1<=k)(h2:k<N):Go N k (Wd.ex o k)/\nR (Wd.ex o k) k=!nR o k:=by
 obtain⟨hl,hn⟩:=h;obtain⟨e1,e2⟩:=Rb (o:=o) h1 ();refine⟨⟨by rw[Wd.mq];exact hl,by rw[e1,e2];exact λz=>hn z.symm⟩,?_⟩;unfold nR;rw[e1,e2];by_cases c:o.getD (k-1) 0>o.getD k 0
 ·rw[bf c,bw ()];rfl
 ·rw[bw c,bf ()];rfl
def JO{l:Ps}{t:Int}(h:∀e∈l,e.1≠o):cS l o t=0:=by
 induction l with
 | nil=>rfl
 | cons e l ih=>
  show(if e.1=o then _ else 0)+cS l o t=0;rw[aJ (h e (aM ..)),ih λf hf=>h f (aN _ hf)];rfl
theorem V0{N k:Nat}(h1:1<=k)(h2:k<N):∀{l:Ps},(∀e∈l,Go N k e.1)->∀{o:ag}(t:Int),Go N k o->cS (bxL k l) o t=cS l (Wd.ex o k) t+(if nR o k=true then cS l o (t+1)-cS l o (t-1)else 0)
 | [],_,o,t,_=>by show(0:Int)=0+if _ then(0:Int)-0 else 0;split<;>rfl
 | e::l,h,o,t,ho=>by
  have he:=h e (aM ..);have ih:=V0 h1 h2 (l:=l) (λf hf=>h f (aN _ hf)) t ho;have hx:(Wd.ex e.1 k=o) ↔ (e.1=Wd.ex o k):=⟨λz=>by rw[<- z,Ph he.1 h1 h2],λz=>by rw[z,Ph ho.1 h1 h2]⟩;show cS (((Wd.ex e.1 k,e.2)::(if nR e.1 k=true then[(e.1,times AF e.2)]else[]))++bxL k l) o t=_;rw[D4,ih];show(if Wd.ex e.1 k=o then cf e.2 t else 0)+cS (if nR e.1 k=true then[(e.1,times AF e.2)]else[]) o t+_=((if e.1=Wd.ex o k then cf e.2 t else 0)+cS l (Wd.ex o k) t)+(if nR o k=true then((if e.1=o then cf e.2 (t+1)else 0)+cS l o (t+1))-((if e.1=o then cf e.2 (t-1)else 0)+cS l o (t-1))else 0);have h3:cS (if nR e.1 k=true then[(e.1,times AF e.2)]else[]) o t=if nR o k=true then((if e.1=o then cf e.2 (t+1)else 0)-(if e.1=o then cf e.2 (t-1)else 0))else 0:=by
   by_cases c:e.1=o
   ·rw[c,aK rfl,aK rfl]
    cases nR o k with
    | false=>rfl
    | true=>
     rw[aK rfl,aK rfl];show(if o=o then cf (times AF e.2) t else 0)+0=_;rw[aK rfl,aak,dz]
   ·rw[aJ c,aJ c];have:cS (if nR e.1 k=true then[(e.1,times AF e.2)]else[]) o t=0:=JO λf hf=>by
     split at hf
     ·rw[aS.mp hf];exact c
     ·cases hf
    rw[this];split<;>rfl
  rw[h3];by_cases c:Wd.ex e.1 k=o
  ·rw[aK c,aK (hx.mp c)];split<;>lia
  ·rw[aJ c,aJ (λz=>c (hx.mpr z))];split<;>lia
def zI{P:ag->Prop}(l:Ps):∀{D:Ps},(∀e∈D,P e.1)->(∀e∈l,P e.1)->∀e∈adds D l,P e.1:=by
 induction l with
 | nil=>intro D h _;exact h
 | cons f l ih=>
  intro D h h';refine ih (λe he=>?_) λe he=>h' e (aN _ he);have he:e∈Bj D f.1 (nu (vS D f.1) f.2):=he;unfold Bj at he;split at he
  ·obtain⟨g,hg,rfl⟩:=bu.mp he;split
   ·exact h g hg
   ·exact h g hg
  ·rcases bH.mp he with z|z
   ·exact h e z
   ·rw[aS.mp z];exact h' f (aM ..)
def A3{P:ag->Prop}{D:Ps}(h:∀e∈D,P e.1):∀e∈toS D,P e.1:=λe he=>by
 obtain⟨o,ho,rfl⟩:=bu.mp he;obtain⟨f,hf,e⟩:=bu.mp ((jW _).mem_iff.mp (cQ.mp ho).1)
 skip
 rw[<- e];exact h f hf
abbrev gX (k:Nat)(e:En)(Q:Ps):Ps:=if nR e.1 k=true then Bc (Bc Q (Wd.ex e.1 k) e.2.2) e.1 (times AF e.2.2)else Bc Q (Wd.ex e.1 k) e.2.2
theorem DM(k:Nat):∀(es:Es) (P:Ps),es.foldl (λQ e=>gX k e Q) P=adds P (bxL k (sm es))
 | [],P=>rfl
 | e::es,P=>by
  show es.foldl (λQ e=>gX k e Q) (gX k e P)=adds P (((Wd.ex e.1 k,e.2.2)::(if nR e.1 k=true then[(e.1,times AF e.2.2)]else[]))++bxL k (sm es));rw[DM k es,GF];congr 1;unfold gX
  cases nR e.1 k<;>rfl
def Y4{p:Pl}(h:Ok p)(hb:Bd C p)(t:Int):(cf p t).natAbs<=C:=by
 rw[<- PU h.nd];exact hb.val t
def Ok.IF{l:Pl}(h:Ok l){p:Int×Int}(hp:p∈l):cf l p.1=p.2:=by
 induction l with
 | nil=>cases hp
 | cons q l ih=>
  rcases bF.mp hp with z|z
  ·rw[z];exact h.head
  ·show(if q.1=p.1 then q.2 else 0)+cf l p.1=p.2;have:=(bW.mp h.up).1 p z;rw[aJ (),ih h.tail z,cA]
end Su
namespace He
open PySem L2 Am
open Fw (Two rg G9)
open Bl (qQ)
open Su (nR)
meta abbrev Fn:=ag->Int->Int
abbrev dl (g:Int->Int)(t:Int):Int:=g (t+1)-g (t-1)
abbrev X (k:Nat)(f:Fn):Fn:=λo t=>f (Wd.ex o k) t+if nR o k=true then dl (f o) t else 0
def tY{n:Nat}{v:ag}(h:Two n o u)(h':Two n o v):u=v:=by
 have l1:=h.lu;have l2:=h'.lu;have l3:=h.lo;apply cL;intro q;by_cases hq:q<n
 ·obtain⟨p,hp,ep⟩:∃p,∃hp:p<o.length,o[p]=(q:Int)+1:=by
   have:(q:Int)+1∈o:=h.po.mem_iff.mpr (lY.mpr ⟨(),()⟩);obtain⟨p,hp,ep⟩:=List.getElem_of_mem this;exact⟨p,hp,ep⟩
  have a1:=h.ou.2 p hp;have a2:=h'.ou.2 p hp;rw[ep,show((q:Int)+1-1).toNat=q by lia]at a1 a2;rw[a1,a2]
 ·rw[bQ (),bQ ()]
abbrev bk (o:ag):ag:=(List.range o.length).map λi:Nat=>((o.idxOf ((i:Int)+1):Nat):Int)+1
def qm{n:Nat}{o:ag}(h:o.Perm (rg n)):Two n o (bk o):=by
 have lo:o.length=n:=by rw[h.length_eq,Wd.jO]
 have nd:o.Nodup:=h.nodup_iff.mpr (rF _ _);have mem:∀i,i<n->(i:Int)+1∈o:=λi hi=>h.mem_iff.mpr (lY.mpr ⟨(),()⟩);have ix:∀i,i<n->o.idxOf ((i:Int)+1)<n:=λi hi=>by rw[<- lo];exact fF.mpr (mem i hi)
 have get:∀i (hi:i<n),o[o.idxOf ((i:Int)+1)]'(by rw[lo];exact ix i hi)=(i:Int)+1:=λi hi=>iT _;refine⟨h,?_,?_,λp hp=>?_⟩
 ·have p:=Am.uD (N:=n) (g:=λi=>o.idxOf ((i:Int)+1)) ix λi j hij hj z=>by
   have a:=get i ();have b:=get j hj;dsimp[z]at a;rw[b]at a
   lia
  have p2:=p.map λi:Nat=>(i:Int)+1;rw[bh]at p2;unfold bk;rw[lo];refine List.Perm.trans p2 ?_;have:(List.range n).map (λi:Nat=>(i:Int)+1)=rg n:=by
   apply cL;intro q;rw[aO];by_cases c:q<n
   ·rw[dQ c,Wd.qv c];rfl
   ·rw[bQ (by rw[cF];lia),bQ (by rw[Wd.jO];lia)];rfl
  rw[this]
 ·unfold bk;rw[aH,cF]
 ·have m:=lY.mp (h.mem_iff.mp (cI hp));have hq:(o[p]-1).toNat<o.length:=()
  unfold bk;rw[aO,dQ hq];show some (((o.idxOf (((o[p]-1).toNat:Int)+1):Nat):Int)+1)=_;rw[show((o[p]-1).toNat:Int)+1=o[p]by lia,nd.idxOf_getElem]
def vH{n:Nat}{o:ag}(h:o.Perm (rg n)):bk (bk o)=o:=tY (qm (qm h).pu) (qm h).flip
def qu{n:Nat}{o:ag}(h:o.Perm (rg n)):(bk o).Perm (rg n):=(qm h).pu
def Vn{n k:Nat}{o:ag}(h:o.Perm (rg n))(h0:1<=k)(h1:k<n):bk (o.map (Wd.sw k))=Wd.ex (bk o) k:=by
 have t:=(qm h).step h0 h1;exact tY (qm t.po) t
def Zf{n k:Nat}{o:ag}(h:o.Perm (rg n))(h0:1<=k)(h1:k<n):bk (Wd.ex o k)=(bk o).map (Wd.sw k):=by
 have t:=((qm h).flip.step h0 h1).flip;exact tY (qm t.po) t
def we{n k p:Nat}{o u:ag}(t:Two n o u)(h1:1<=k)(h2:k<=n)(hp:o.getD p 0=(k:Int))(hpn:p<n):u.getD (k-1) 0=(p:Int)+1:=by
 have lo:=t.lo;have lp:p<o.length:=()
 have:=t.ou.2 p lp;rw[Wd.mh lp]at hp;rw[hp,show((k:Int)-1).toNat=k-1 by lia]at this;rw[aI,this];rfl
def nb{n k:Nat}{o:ag}(h:o.Perm (rg n))(h0:1<=k)(h1:k<n):o.getD (k-1) 0≠o.getD k 0:=λz=>by
 have lo:o.length=n:=by rw[h.length_eq,Wd.jO]
 have nd:o.Nodup:=h.nodup_iff.mpr (rF _ _);rw[Wd.mh (),Wd.mh ()]at z;have:=(dF nd).mp z
 lia
abbrev Pr (o:ag)(k j:Nat):Prop:=(o.getD (k-1) 0=j/\o.getD k 0=(j:Int)+1)\/(o.getD (k-1) 0=(j:Int)+1/\o.getD k 0=j)
def Pp{n k:Nat}{u:ag}(h:u.Perm (rg n))(h0:1<=j)(h1:j<n):(Pr u j k->nR (u.map (Wd.sw k)) j=!nR u j)/\(¬Pr u j k->nR (u.map (Wd.sw k)) j=nR u j):=by
 have lu:u.length=n:=by rw[h.length_eq,Wd.jO]
 have ne:=nb h h0 h1;have e1:(u.map (Wd.sw k)).getD (j-1) 0=Wd.sw k (u.getD (j-1) 0):=by
  rw[Wd.mh (by rw[aH];lia),Wd.mh (),dh]
 have e2:(u.map (Wd.sw k)).getD j 0=Wd.sw k (u.getD j 0):=by
  rw[Wd.mh (by rw[aH];lia),Wd.mh (),dh]
 unfold nR Pr;rw[e1,e2];generalize u.getD (j-1) 0=a at *
 generalize u.getD j 0=b at *
 constructor
 ·rintro(⟨z1,z2⟩|⟨z1,z2⟩)
  ·subst z1;subst z2;unfold Wd.sw;rw[aK rfl,aJ (),aK rfl,bf (),bw ()];rfl
  ·subst z1;subst z2;unfold Wd.sw;rw[aJ (),aK rfl,aK rfl,bw (),bf ()];rfl
 ·intro z;rw[i9];unfold Wd.sw;split<;>split<;>(try split)<;>(try split)<;>lia
def AH{n k:Nat}(t:Two n o u)(h0:1<=k)(h1:k<n)(h2:1<=j)(h3:j<n)(h:Pr o k j):Pr u j k:=by
 rcases h with⟨z1,z2⟩|⟨z1,z2⟩
 ·have a:=we t h2 () z1 ();have b:=we t (k:=j+1) () () (by rw[z2];lia) h1;rw[Nat.add_sub_cancel]at b;exact .inl ⟨by rw[a];lia,by rw[b]⟩
 ·have a:=we t (k:=j+1) () () (by rw[z1];lia) (show k-1<n by lia);have b:=we t h2 () z2 h1;rw[Nat.add_sub_cancel]at a;exact .inr ⟨by rw[b],by rw[a];lia⟩
def XJ{n k:Nat}(t:Two n o u)(h0:1<=k)(h1:k<n)(h2:1<=j)(h3:j<n)(h:Pr o k j):nR u j=nR o k:=by
 have a:∀x y:ag,∀i m:Nat,x.getD (i-1) 0=(m:Int)->x.getD i 0=(m:Int)+1->nR x i=false:=λx y i m p q=>by
  unfold nR;rw[p,q];exact bw ()
 have b:∀x y:ag,∀i m:Nat,x.getD (i-1) 0=(m:Int)+1->x.getD i 0=(m:Int)->nR x i=true:=λx y i m p q=>by
  unfold nR;rw[p,q];exact bf ()
 rcases h with⟨z1,z2⟩|⟨z1,z2⟩
 ·rw[a o [] k j z1 z2]
  rcases AH t h0 h1 h2 h3 (.inl ⟨z1,z2⟩)with⟨y1,y2⟩|⟨y1,y2⟩
  ·exact a u [] j k y1 y2
  ·have:=we t h2 () z1 ();lia
 ·rw[b o [] k j z1 z2]
  rcases AH t h0 h1 h2 h3 (.inr ⟨z1,z2⟩)with⟨y1,y2⟩|⟨y1,y2⟩
  ·have:=we t h2 () z2 h1;lia
  ·exact b u [] j k y1 y2
abbrev L (j:Nat)(f:Fn):Fn:=λo t=>f (o.map (Wd.sw j)) t+if nR (bk o) j=true then dl (f o) t else 0
def Ul{n k:Nat}{o:ag}(h:o.Perm (rg n))(h0:1<=k)(h1:k<n)(hp:Pr o k j):o.map (Wd.sw j)=Wd.ex o k:=by
 have lo:o.length=n:=by rw[h.length_eq,Wd.jO]
 have nd:o.Nodup:=h.nodup_iff.mpr (rF _ _);apply cL;intro p;rw[Wd.oN h0 (),aO];unfold Pr at hp;rw[Wd.mh (),Wd.mh ()]at hp;by_cases c1:p=k
 ·subst c1;rw[aK rfl,aF (),aF (),c7];congr 1;unfold Wd.sw
  rcases hp with⟨z1,z2⟩|⟨z1,z2⟩
  ·rw[z1,z2,aJ (),aK rfl]
  ·rw[z1,z2,aK rfl]
 ·rw[aJ c1];by_cases c2:p=k-1
  ·subst c2;rw[aK rfl,aF (),aF (),c7];congr 1;unfold Wd.sw
   rcases hp with⟨z1,z2⟩|⟨z1,z2⟩
   ·rw[z1,z2,aK rfl]
   ·rw[z1,z2,aJ (),aK rfl]
  ·rw[aJ c2];by_cases c3:p<o.length
   ·rw[aF c3,c7];congr 1;have n1:o[p]≠o[k]:=λz=>c1 ((dF nd).mp z);have n2:o[p]≠o[k-1]:=λz=>c2 ((dF nd).mp z);unfold Wd.sw
    rcases hp with⟨z1,z2⟩|⟨z1,z2⟩
    ·rw[aJ (by rw[<- z1];exact n2),aJ (by rw[<- z2];exact n1)]
    ·rw[aJ (by rw[<- z2];exact n1),aJ (by rw[<- z1];exact n2)]
   ·rw[bQ ()];rfl
def VS(j:Nat)(o:ag):(o.map (Wd.sw j)).map (Wd.sw j)=o:=by
 rw[bh];have:(Wd.sw j ∘ Wd.sw j)=id:=funext λx=>by
  show Wd.sw j (Wd.sw j x)=x;unfold Wd.sw;split<;>(try split)<;>(try split)<;>lia
 rw[this,jm]
def comm{n k:Nat}(f:Fn){o:ag}(h:o.Perm (rg n))(h0:1<=k)(h1:k<n)(h2:1<=j)(h3:j<n)(t:Int):X k (L j f) o t=L j (X k f) o t:=by
 have lo:o.length=n:=by rw[h.length_eq,Wd.jO]
 have tw:=qm h;have e1:(Wd.ex o k).map (Wd.sw j)=Wd.ex (o.map (Wd.sw j)) k:=(Wd.ex_map _ h0 ()).symm;have e2:=Zf h h0 h1;have f1:=Pp (k:=j) h h0 h1;have f2:=Pp (k:=k) tw.pu h2 h3;unfold X L dl;dsimp only;rw[e1,e2];by_cases c:Pr o k j
 ·have c':=AH tw h0 h1 h2 h3 c;have e3:=Ul h h0 h1 c;rw[f1.1 c,f2.1 c',XJ tw h0 h1 h2 h3 c,<- e3]
 ·have c':¬Pr (bk o) j k:=λz=>c (AH tw.flip h2 h3 h0 h1 z);rw[f1.2 c,f2.2 c']
  cases nR o k<;>cases nR (bk o) j
  ·dsimp[bA,cg]
  ·dsimp[bA,cZ,cg];lia
  ·dsimp[bA,cZ,cg];lia
  ·dsimp[cZ];lia
abbrev oS (n:Nat)(f g:Fn):Prop:=∀o:ag,o.Perm (rg n)->∀t,f o t=g o t
def oS.refl{n:Nat}{f:Fn}:oS n f f:=λ_ _ _=>rfl
def oS.symm{n:Nat}{f g:Fn}(h:oS n f g):oS n g f:=λo p t=>(h o p t).symm
def oS.trans{n:Nat}{f g e:Fn}(h:oS n f g)(h':oS n g e):oS n f e:=λo p t=>(h o p t).trans (h' o p t)
def qp{n k:Nat}{o:ag}(h:o.Perm (rg n))(h0:1<=k)(h1:k<n):(Wd.ex o k).Perm (rg n):=(Wd.EA h0 (by rw[h.length_eq,Wd.jO];exact h1)).trans h
def Vj{n k:Nat}{o:ag}(h:o.Perm (rg n))(h0:1<=k)(h1:k<n):(o.map (Wd.sw k)).Perm (rg n):=((qm h).step h0 h1).po
def Zq{n k:Nat}{f g:Fn}(h:oS n f g)(h0:1<=k)(h1:k<n):oS n (X k f) (X k g):=λo p t=>by
 unfold X dl;rw[h _ (qp p h0 h1),h o p,h o p]
def aa5{n k:Nat}{f g:Fn}(h:oS n f g)(h0:1<=k)(h1:k<n):oS n (L k f) (L k g):=λo p t=>by
 unfold L dl;rw[h _ (Vj p h0 h1),h o p,h o p]
abbrev Va (n:Nat)(w:am):Prop:=∀k∈w,1<=k/\k<n
abbrev Xw (w:am)(f:Fn):Fn:=w.foldl (λf k=>X k f) f
abbrev Lw (w:am)(f:Fn):Fn:=w.foldl (λf k=>L k f) f
theorem Cz{n:Nat}:∀{w:am}{f g:Fn},Va n w->oS n f g->oS n (Xw w f) (Xw w g)
 | [],_,_,_,h=>h
 | k::w,_,_,v,h=>Cz (w:=w) (λj hj=>v j (aN _ hj)) (Zq h (v k (aM ..)).1 (v k (aM ..)).2)
theorem BW{n:Nat}:∀{w:am}{f g:Fn},Va n w->oS n f g->oS n (Lw w f) (Lw w g)
 | [],_,_,_,h=>h
 | k::w,_,_,v,h=>BW (w:=w) (λj hj=>v j (aN _ hj)) (aa5 h (v k (aM ..)).1 (v k (aM ..)).2)
theorem ZW{n:Nat}(h2:1<=j)(h3:j<n):∀{w:am}{f:Fn},Va n w->oS n (Xw w (L j f)) (L j (Xw w f))
 | [],_,_=>.refl
 | k::w,f,v=>by
  have v1:=v k (aM ..);have v2:Va n w:=λj hj=>v j (aN _ hj)
  skip
  exact(Cz v2 (λo p t=>comm f p v1.1 v1.2 h2 h3 t)).trans (ZW h2 h3 v2)
theorem MY{n:Nat}{w:am}(v:Va n w):∀{u:am}{f:Fn},Va n u->oS n (Xw w (Lw u f)) (Lw u (Xw w f))
 | [],_,_=>.refl
 | j::u,f,vu=>by
  have v1:=vu j (aM ..);have v2:Va n u:=λi hi=>vu i (aN _ hi)
  skip
  exact(MY v v2).trans (BW v2 (ZW v1.1 v1.2 v))
abbrev D (u:ag)(g:Int->Int):Fn:=λo t=>if o=u then g t else 0
def X_D{n k:Nat}{u:ag}(g:Int->Int)(hu:u.Perm (rg n))(h0:1<=k)(h1:k<n):oS n (X k (D u g)) λo t=>D (Wd.ex u k) g o t+if nR u k=true then D u (dl g) o t else 0:=λo p t=>by
 have lo:o.length=n:=by rw[p.length_eq,Wd.jO]
 have lu:u.length=n:=by rw[hu.length_eq,Wd.jO]
 have iff:Wd.ex o k=u ↔ o=Wd.ex u k:=⟨λz=>by rw[<- z,Fw.ye h0 ()],λz=>by rw[z,Fw.ye h0 ()]⟩;unfold X D dl;dsimp only;by_cases c:o=u
 ·subst c;rw[aK rfl,aK rfl,aK rfl];congr 1;by_cases c2:Wd.ex o k=o
  ·rw[aK c2,aK c2.symm]
  ·rw[aJ c2,aJ (λz=>c2 z.symm)]
 ·rw[aJ c,aJ c,aJ c];congr 1
  ·by_cases c2:Wd.ex o k=u
   ·rw[aK c2,aK (iff.mp c2)]
   ·rw[aJ c2,aJ (λz=>c2 (iff.mpr z))]
  ·split<;>split<;>rfl
def L_D{n k:Nat}{u:ag}(g:Int->Int)(hu:u.Perm (rg n))(h0:1<=k)(h1:k<n):oS n (L k (D u g)) λo t=>D (u.map (Wd.sw k)) g o t+if nR (bk u) k=true then D u (dl g) o t else 0:=λo p t=>by
 have iff:o.map (Wd.sw k)=u ↔ o=u.map (Wd.sw k):=⟨λz=>by rw[<- z,VS],λz=>by rw[z,VS]⟩;unfold L D dl;dsimp only;by_cases c:o=u
 ·subst c;rw[aK rfl,aK rfl,aK rfl];congr 1;by_cases c2:o.map (Wd.sw k)=o
  ·rw[aK c2,aK c2.symm]
  ·rw[aJ c2,aJ (λz=>c2 z.symm)]
 ·rw[aJ c,aJ c,aJ c];congr 1
  ·by_cases c2:o.map (Wd.sw k)=u
   ·rw[aK c2,aK (iff.mp c2)]
   ·rw[aJ c2,aJ (λz=>c2 (iff.mpr z))]
  ·split<;>split<;>rfl
def F0{l:ag}{k:Nat}(h:l.getD (k-1) 0<l.getD k 0):nR l k=false:=bw ()
theorem TR{n:Nat}{g:Int->Int}:∀{w:am}{u:ag},u.Perm (rg n)->Wd.j0 u w->oS n (Xw w (D u g)) (D (Wd.led u w) g)
 | [],_,_,_=>.refl
 | k::w,u,hu,h=>by
  obtain⟨h1,h2,h3,h4⟩:=h;have lu:u.length=n:=by rw[hu.length_eq,Wd.jO]
  have pu:=qp hu h1 ();have e:oS n (X k (D u g)) (D (Wd.ex u k) g):=(X_D g hu h1 ()).trans λo p t=>by
   dsimp only;rw[F0 h3,aJ (by simp),dz]
  have v:Va n w:=λj hj=>by
   have:=Wd.j0.valid h4 j hj;rw[Wd.mq,lu]at this;exact this
  skip
  exact(Cz v e).trans (TR pu h4)
theorem Yd{n:Nat}{g:Int->Int}:∀{w:am}{u:ag},u.Perm (rg n)->Wd.j0 (bk u) w->∃v:ag,v.Perm (rg n)/\bk v=Wd.led (bk u) w/\oS n (Lw w (D u g)) (D v g)
 | [],u,hu,_=>⟨u,hu,rfl,.refl⟩
 | k::w,u,hu,h=>by
  obtain⟨h1,h2,h3,h4⟩:=h;have lb:(bk u).length=n:=by rw[(qu hu).length_eq,Wd.jO]
  have pu:=Vj hu h1 ();have eb:bk (u.map (Wd.sw k))=Wd.ex (bk u) k:=Vn hu h1 ();have e:oS n (L k (D u g)) (D (u.map (Wd.sw k)) g):=(L_D g hu h1 ()).trans λo p t=>by
   dsimp only;rw[F0 h3,aJ (by simp),dz]
  have v:Va n w:=λj hj=>by
   have:=Wd.j0.valid h4 j hj;rw[Wd.mq,lb]at this;exact this
  rw[<- eb]at h4;obtain⟨x,x1,x2,x3⟩:=Yd (g:=g) pu h4;refine⟨x,x1,?_,(BW v e).trans x3⟩;rw[x2,eb];rfl
def Bq(n:Nat):(rg n).Perm (rg n):=.refl _
theorem wA{n:Nat}:∀(m:Nat) {u:ag},u.Perm (rg n)->Iv.inv u=m->∃w,Wd.j0 (rg n) w/\Wd.led (rg n) w=u
 | 0,u,hu,hm=>by
  refine⟨[],trivial,(Fw.IS hu λk hk=>?_).symm⟩;have:=Fw.sq hk.1 hk.2.1 hk.2.2
  lia
 | m+1,u,hu,hm=>by
  obtain⟨k,hk⟩:=Fw.Jk (l:=u) ();have lu:u.length=n:=by rw[hu.length_eq,Wd.jO]
  have hd:=Fw.sq hk.1 hk.2.1 hk.2.2;obtain⟨w,h1,h2⟩:=wA m (qp hu hk.1 (by rw[<- lu];exact hk.2.1)) ();obtain⟨e1,e2⟩:=Su.Rb (o:=u) hk.1 hk.2.1;refine⟨w++[k],Wd.j0.snoc h1 hk.1 (by rw[Wd.jO,<- lu];exact hk.2.1) (by rw[h2,e1,e2];exact hk.2.2),?_⟩;rw[Wd.Aq,h2];exact Fw.ye hk.1 hk.2.1
def Ln(n:Nat):bk (rg n)=rg n:=by
 refine tY (qm (Bq n)) ⟨Bq n,Bq n,rfl,λp hp=>?_⟩;have hp':p<n:=by rw[Wd.jO]at hp;exact hp
 have e:=Wd.qv hp';rw[aF hp]at e;have e:=a_ e;rw[show((rg n)[p]-1).toNat=p by rw[e];lia];exact Wd.qv hp'
def Sl{n:Nat}{u:ag}(hu:u.Perm (rg n)):∃v,Va n v/\∀g,oS n (Lw v (D (rg n) g)) (D u g):=by
 obtain⟨w,h1,h2⟩:=wA _ (qu hu) rfl;have v:Va n w:=λk hk=>by have:=Wd.j0.valid h1 k hk;rwa [Wd.jO]at this
 refine⟨w,v,λg=>?_⟩;have h1':Wd.j0 (bk (rg n)) w:=by rw[Ln];exact h1
 obtain⟨x,x1,x2,x3⟩:=Yd (g:=g) (Bq n) h1';rw[Ln,h2]at x2;have:x=u:=by rw[<- vH x1,x2,vH hu]
 rw[<- this];exact x3
def Xy{n:Nat}{w:am}(h:Wd.j0 (rg n) w)(h':Wd.j0 (rg n) w')(e:Wd.led (rg n) w=Wd.led (rg n) w'){u:ag}(hu:u.Perm (rg n))(g:Int->Int):oS n (Xw w (D u g)) (Xw w' (D u g)):=by
 obtain⟨v,v1,v2⟩:=Sl hu;have a:∀{w:am},Wd.j0 (rg n) w->oS n (Xw w (D u g)) (Lw v (D (Wd.led (rg n) w) g)):=λ{w} h=>by
  have vw:Va n w:=λk hk=>by have:=Wd.j0.valid h k hk;rwa [Wd.jO]at this
  exact(Cz vw (v2 g).symm).trans ((MY vw v1).trans (BW v1 (TR (Bq n) h)))
 refine(a h).trans ?_;rw[e];exact(a h').symm
abbrev add (f g:Fn):Fn:=λo t=>f o t+g o t
def aac(k:Nat)(f g:Fn):X k (add f g)=add (X k f) (X k g):=by
 funext o t
 unfold X add dl;dsimp only;split<;>lia
theorem Ek:∀(w:am) (f g:Fn),Xw w (add f g)=add (Xw w f) (Xw w g)
 | [],_,_=>rfl
 | k::w,f,g=>by
  show Xw w (X k (add f g))=_;rw[aac,Ek w];rfl
def WH(k:Nat):X k (λ_ _=>0)=λ_ _=>0:=by
 funext o t
 unfold X dl;split<;>rfl
theorem xK:∀w:am,Xw w (λ_ _=>0)=λ_ _=>0
 | []=>rfl
 | k::w=>by
  show Xw w (X k _)=_;rw[WH,xK w]
def Af(e:ag×Po.Pl)(l:Su.Ps):Su.cS (e::l)=add (D e.1 (Po.cf e.2)) (Su.cS l):=by
 funext o t
 show(if e.1=o then _ else _)+_=(if o=e.1 then _ else _)+_;by_cases c:e.1=o
 ·rw[aK c,aK c.symm]
 ·rw[aJ c,aJ (λz=>c z.symm)]
theorem EF{n:Nat}{w:am}(h:Wd.j0 (rg n) w)(h':Wd.j0 (rg n) w')(e:Wd.led (rg n) w=Wd.led (rg n) w'):∀{l:Su.Ps},(∀x∈l,x.1.Perm (rg n))->oS n (Xw w (Su.cS l)) (Xw w' (Su.cS l))
 | [],_=>by
  have z:Su.cS []=λ_ _=>0:=rfl;rw[z,xK,xK];exact .refl
 | x::l,hx=>by
  rw[Af,Ek,Ek];intro o p t;unfold add;rw[Xy h h' e (hx x (aM ..)) _ o p t,EF h h' e (λy hy=>hx y (aN _ hy)) o p t]
def Wy{n k:Nat}{l:Su.Ps}(h:∀x∈l,x.1.Perm (rg n))(h0:1<=k)(h1:k<n):oS n (Su.cS (Su.bx k l)) (X k (Su.cS l)):=λo p t=>by
 have go:∀{x:ag},x.Perm (rg n)->Su.Go n k x:=λ{x} hx=>⟨by rw[hx.length_eq,Wd.jO],nb hx h0 h1⟩;unfold Su.bx;rw[Su.ES (Su.Gd.nil.adds _),Su.NK];show 0+_=_;rw[cA,Su.V0 h0 h1 (λe he=>go (h e he)) t (go p)];rfl
end He
namespace He
open PySem L2 Am Po
open Fw (Two rg G9)
open Su (nR Ps cS)
abbrev cv:Pl->(Int->Int)->Int->Int
 | [],_,_=>0
 | q::p,g,t=>q.2 * g (t-q.1)+cv p g t
def WG(a b:Pl)(g:Int->Int)(t:Int):cv (a++b) g t=cv a g t+cv b g t:=by
 induction a with
 | nil=>exact(cA _).symm
 | cons q a ih=>
  show _+cv (a++b) g t=_+_+_;rw[ih,fY]
def zm(p:Pl)(g h:Int->Int)(t:Int):cv p (λt=>g t+h t) t=cv p g t+cv p h t:=by
 induction p with
 | nil=>rfl
 | cons q p ih=>
  show q.2 * (g (t-q.1)+h (t-q.1))+cv p _ t=(q.2 * g (t-q.1)+cv p g t)+(q.2 * h (t-q.1)+cv p h t);rw[ih,Int.mul_add];lia
def rV(p:Pl)(t:Int):cv p (λ_=>0) t=0:=by
 induction p with
 | nil=>rfl
 | cons q p ih=>
  show q.2 * 0+cv p _ t=0;rw[ih,ir];rfl
def VW(p:Pl)(g:Int->Int)(t:Int):cv p (dl g) t=dl (cv p g) t:=by
 induction p with
 | nil=>rfl
 | cons q p ih=>
  show q.2 * (g (t-q.1+1)-g (t-q.1-1))+cv p (dl g) t=(q.2 * g (t+1-q.1)+cv p g (t+1))-(q.2 * g (t-1-q.1)+cv p g (t-1));rw[ih,Int.mul_sub,show t-q.1+1=t+1-q.1 by lia,show t-q.1-1=t-1-q.1 by lia];show _+(cv p g (t+1)-cv p g (t-1))=_
  lia
def aaA(p q:Pl)(t:Int):cf (times p q) t=cv p (cf q) t:=by
 rw[Su.yf]
 induction p with
 | nil=>rfl
 | cons a p ih=>
  show cf ((q.map λb=>(a.1+b.1,a.2 * b.2))++C6 p q) t=_;rw[Su.E4,Su.Jq,ih];rfl
def Nh(p:Pl)(g:Int->Int)(t a:Int):cv p g t=cf p a * g (t-a)+cv (p.filter λq=>decide (q.1≠a)) g t:=by
 induction p with
 | nil=>show(0:Int)=0 * _+0;rw[zero_mul];rfl
 | cons q p ih=>
  show q.2 * g (t-q.1)+cv p g t=((if q.1=a then q.2 else 0)+cf p a) * g (t-a)+_;rw[c9,Int.add_mul];by_cases c:q.1=a
  ·rw[aK c,bw (by simpa using c),aJ (by simp),ih,c];lia
  ·rw[aJ c,bf c,aK rfl,ih,zero_mul];show _=0+_+(q.2 * g (t-q.1)+cv _ g t)
   lia
def MA(p:Pl)(a b:Int):cf (p.filter λq=>decide (q.1≠a)) b=if b=a then 0 else cf p b:=by
 induction p with
 | nil=>show(0:Int)=_;split<;>rfl
 | cons q p ih=>
  rw[c9];show _=if b=a then 0 else(if q.1=b then q.2 else 0)+cf p b
  by_cases c:q.1=a
  ·rw[bw (by simpa using c),aJ (by simp),ih];by_cases e:b=a
   ·rw[aK e,aK e]
   ·rw[aJ e,aJ e,aJ (),cA]
  ·rw[bf c,aK rfl];show(if q.1=b then q.2 else 0)+cf _ b=_;rw[ih];by_cases e:b=a
   ·rw[aK e,aK e,aJ ()];rfl
   ·rw[aJ e,aJ e]
def LL:∀(m:Nat) {p:Pl},p.length=m->(∀k,cf p k=0)->∀(g:Int->Int) (t:Int),cv p g t=0:=by
 intro m
 induction m using Nat.strongRecOn with
 | _ m ih=>
  intro p hm h g t
  cases p with
  | nil=>rfl
  | cons q p=>
   rw[Nh _ g t q.1,h,zero_mul,cA];refine ih _ ?_ rfl (λk=>?_) g t
   ·rw[c9,bw (by simp),aJ (by simp),<- hm];exact Nat.lt_succ_of_le (cN _ _)
   ·rw[MA];split
    ·rfl
    ·exact h k
def Xz(p:Pl)(g:Int->Int)(t:Int):cv (p.map λq=>(q.1,-q.2)) g t=- cv p g t:=by
 induction p with
 | nil=>rfl
 | cons q p ih=>
  show -q.2 * g (t-q.1)+cv (p.map _) g t=-(q.2 * g (t-q.1)+cv p g t);rw[ih,Int.neg_mul];lia
def YJ(p:Pl)(k:Int):cf (p.map λq=>(q.1,-q.2)) k=- cf p k:=by
 induction p with
 | nil=>rfl
 | cons q p ih=>
  show(if q.1=k then -q.2 else 0)+cf (p.map _) k=-((if q.1=k then q.2 else 0)+cf p k);rw[ih];split<;>lia
def aaf(p q:Pl)(g:Int->Int)(t:Int):cv p (cv q g) t=cv q (cv p g) t:=by
 induction p generalizing t with
 | nil=>exact(rV q t).symm
 | cons a p ih=>
  show a.2 * cv q g (t-a.1)+cv p (cv q g) t=cv q (λt=>a.2 * g (t-a.1)+cv p g t) t;rw[ih,zm];congr 1;clear ih
  induction q with
  | nil=>show a.2 * 0=0;rw[ir]
  | cons b q ih2=>
   show a.2 * (b.2 * g (t-a.1-b.1)+cv q g (t-a.1))=b.2 * (a.2 * g (t-b.1-a.1))+cv q _ t;rw[<- ih2,Int.mul_add,show t-a.1-b.1=t-b.1-a.1 by lia,<- Int.mul_assoc,<- Int.mul_assoc,Int.mul_comm a.2 b.2]
abbrev oJ (p:Pl)(f:Fn):Fn:=λo t=>cv p (f o) t
def W4(k:Nat)(p:Pl)(f:Fn):X k (oJ p f)=oJ p (X k f):=by
 funext o t
 show cv p (f (Wd.ex o k)) t+(if nR o k=true then dl (cv p (f o)) t else 0)=cv p (λt=>f (Wd.ex o k) t+if nR o k=true then dl (f o) t else 0) t;rw[zm]
 cases nR o k with
 | true=>dsimp[cZ];rw[<- VW]
 | false=>dsimp[bA,cg];rw[rV]
theorem Lc(p:Pl):∀(w:am) (f:Fn),Xw w (oJ p f)=oJ p (Xw w f)
 | [],_=>rfl
 | k::w,f=>by
  show Xw w (X k (oJ p f))=_;rw[W4,Lc p w];rfl
abbrev sw (n:Nat)(o:ag):am:=by
 classical
 exact if h:o.Perm (rg n)then(wA _ h rfl).choose else[]
def wK{n:Nat}{o:ag}(h:o.Perm (rg n)):Wd.j0 (rg n) (sw n o)/\Wd.led (rg n) (sw n o)=o:=by
 unfold sw;rw[dif_pos h];exact(wA _ h rfl).choose_spec
def zL{n:Nat}{o:ag}(h:o.Perm (rg n)):Va n (sw n o):=λk hk=>by have:=Wd.j0.valid (wK h).1 k hk;rwa [Wd.jO]at this
abbrev RG (G:ag->Fn):Ps->Fn
 | []=>λ_ _=>0
 | e::m=>add (oJ e.2 (G e.1)) (RG G m)
abbrev R (n:Nat)(m:Ps)(f:Fn):Fn:=RG (λo=>Xw (sw n o) f) m
def N1(G:ag->Fn)(a b:Ps):RG G (a++b)=add (RG G a) (RG G b):=by
 induction a with
 | nil=>funext o t;exact(cA _).symm
 | cons e a ih=>
  show add _ (RG G (a++b))=_;rw[ih]
  funext o t
  exact(fY _ _ _).symm
theorem V_(G:ag->Fn)(o:ag)(t:Int)(w:ag):∀m:Ps,RG G m o t=cv ((m.filter λe=>decide (e.1=w)).flatMap λe=>e.2) (G w o) t+RG G (m.filter λe=>decide (e.1≠w)) o t
 | []=>rfl
 | e::m=>by
  show cv e.2 (G e.1 o) t+RG G m o t=_;rw[V_ G o t w m,c9,c9];by_cases c:e.1=w
  ·rw[bf c,aK rfl,bw (by simpa using c),aJ (by simp),eB,WG,c];lia
  ·rw[bw c,aJ (by simp),bf c,aK rfl];show _=_+(cv e.2 (G e.1 o) t+RG G _ o t)
   lia
theorem DY(w:ag)(t:Int):∀m:Ps,cf ((m.filter λe=>decide (e.1=w)).flatMap λe=>e.2) t=cS m w t
 | []=>rfl
 | e::m=>by
  rw[c9];show _=(if e.1=w then cf e.2 t else 0)+cS m w t;by_cases c:e.1=w
  ·rw[bf c,aK rfl,aK c,eB,Su.E4,DY w t m]
  ·rw[bw c,aJ (by simp),aJ c,DY w t m,cA]
theorem zl(w o:ag)(t:Int):∀m:Ps,cS (m.filter λe=>decide (e.1≠w)) o t=if o=w then 0 else cS m o t
 | []=>by show(0:Int)=_;split<;>rfl
 | e::m=>by
  rw[c9];show _=if o=w then 0 else(if e.1=o then cf e.2 t else 0)+cS m o t
  by_cases c:e.1=w
  ·rw[bw (by simpa using c),aJ (by simp),zl w o t m];by_cases e':o=w
   ·rw[aK e',aK e']
   ·rw[aJ e',aJ e',aJ (λz=>e' (z.symm.trans c)),cA]
  ·rw[bf c,aK rfl];show(if e.1=o then cf e.2 t else 0)+cS _ o t=_;rw[zl w o t m];by_cases e':o=w
   ·rw[aK e',aK e',aJ (λz=>c (z.trans e'))];rfl
   ·rw[aJ e',aJ e']
def L_(G:ag->Fn)(o:ag)(t:Int):∀(k:Nat) {m:Ps},m.length=k->(∀w s,cS m w s=0)->RG G m o t=0:=by
 intro k
 induction k using Nat.strongRecOn with
 | _ k ih=>
  intro m hk h
  cases m with
  | nil=>rfl
  | cons e m=>
   rw[V_ G o t e.1];have z:cv (((e::m).filter λx=>decide (x.1=e.1)).flatMap λe=>e.2) (G e.1 o) t=0:=LL _ rfl (λs=>by rw[DY];exact h _ _) _ _;rw[z,cA];refine ih _ ?_ rfl λw s=>?_
   ·rw[c9,bw (by simp),aJ (by simp),<- hk];exact Nat.lt_succ_of_le (cN _ _)
   ·rw[zl];split
    ·rfl
    ·exact h w s
def Yb(G:ag->Fn)(h:∀w s,cS m w s=cS m' w s):RG G m=RG G m':=by
 funext o t
 have neg:∀m:Ps,RG G (m.map λe=>(e.1,e.2.map λq=>(q.1,-q.2))) o t=- RG G m o t:=λm=>by
  induction m with
  | nil=>rfl
  | cons e m ih=>
   show cv (e.2.map λq=>(q.1,-q.2)) (G e.1 o) t+RG G (m.map _) o t=-(cv e.2 (G e.1 o) t+RG G m o t);rw[ih,Xz];lia
 have cneg:∀(m:Ps) (w:ag) (s:Int),cS (m.map λe=>(e.1,e.2.map λq=>(q.1,-q.2))) w s=- cS m w s:=λm w s=>by
  induction m with
  | nil=>rfl
  | cons e m ih=>
   show(if e.1=w then cf (e.2.map λq=>(q.1,-q.2)) s else 0)+cS (m.map _) w s=-((if e.1=w then cf e.2 s else 0)+cS m w s);rw[ih,YJ];split<;>lia
 have:=L_ G o t _ (m:=m++m'.map λe=>(e.1,e.2.map λq=>(q.1,-q.2))) rfl λw s=>by rw[Su.D4,cneg,h];lia
 rw[N1]at this;have this:RG G m o t+RG G (m'.map λe=>(e.1,e.2.map λq=>(q.1,-q.2))) o t=0:=this;rw[neg]at this
 lia
def Zc(n:Nat)(a b:Ps)(f:Fn):R n (a++b) f=add (R n a f) (R n b f):=N1 _ a b
def ZE(n:Nat)(h:∀w s,cS m w s=cS m' w s)(f:Fn):R n m f=R n m' f:=Yb _ h
def aab{n k:Nat}{w:ag}{l:Ps}(hw:w.Perm (rg n))(h0:1<=k)(h1:k<n)(hf:nR w k=false)(hl:∀x∈l,x.1.Perm (rg n)):oS n (Xw (sw n (Wd.ex w k)) (cS l)) (X k (Xw (sw n w) (cS l))):=by
 obtain⟨a1,a2⟩:=wK hw;obtain⟨b1,b2⟩:=wK (qp hw h0 h1);have ne:=nb hw h0 h1;have hr:(Wd.led (rg n) (sw n w)).getD (k-1) 0<(Wd.led (rg n) (sw n w)).getD k 0:=by
  rw[a2];have:=dB hf
  lia
 have c1:Wd.j0 (rg n) (sw n w++[k]):=Wd.j0.snoc a1 h0 (by rw[Wd.jO];exact h1) hr;have c2:Wd.led (rg n) (sw n w++[k])=Wd.ex w k:=by rw[Wd.Aq,a2];rfl
 have:=EF b1 c1 (b2.trans c2.symm) hl;refine this.trans ?_;unfold Xw;rw[dO];exact .refl
def Zu{n k:Nat}{w:ag}{l:Ps}(hw:w.Perm (rg n))(h0:1<=k)(h1:k<n)(hf:nR w k=true)(hl:∀x∈l,x.1.Perm (rg n)):oS n (Xw (sw n w) (cS l)) (X k (Xw (sw n (Wd.ex w k)) (cS l))):=by
 have lw:w.length=n:=by rw[hw.length_eq,Wd.jO]
 have go:Su.Go n k w:=⟨lw,nb hw h0 h1⟩;have:=aab (qp hw h0 h1) h0 h1 (by rw[(go.ex h0 h1).2,hf];rfl) hl;rw[Fw.ye h0 ()]at this;exact this
def xM{n:Nat}{f g:Fn}(p:Pl)(h:oS n f g):oS n (oJ p f) (oJ p g):=λo po t=>by
 show cv p (f o) t=cv p (g o) t;rw[show f o=g o from funext λt=>h o po t]
def KP{n k:Nat}{m:Ps}(h0:1<=k)(h1:k<n)(hm:∀x∈m,x.1.Perm (rg n)):∀x∈Su.bx k m,x.1.Perm (rg n):=Su.A3 (P:=λo=>o.Perm (rg n)) (Su.zI (P:=λo=>o.Perm (rg n)) _ (nofun) λx hx=>by
 obtain⟨f,hf,hx⟩:=fP.mp hx
 rcases bF.mp hx with z|z
 ·rw[z];exact qp (hm f hf) h0 h1
 ·split at z
  ·rw[aS.mp z];exact hm f hf
  ·cases z)
abbrev Gw (w:am)(m:Ps):Ps:=w.foldl (λm k=>Su.bx k m) m
theorem Ox{n:Nat}:∀{w:am}{m:Ps},Va n w->(∀x∈m,x.1.Perm (rg n))->∀x∈Gw w m,x.1.Perm (rg n)
 | [],_,_,h=>h
 | k::w,m,v,h=>Ox (w:=w) (λj hj=>v j (aN _ hj)) (KP (v k (aM ..)).1 (v k (aM ..)).2 h)
abbrev MO (p:Pl)(l:Ps):Ps:=l.map λx=>(x.1,times p x.2)
def Pc(p:Pl)(l:Ps):cS (MO p l)=oJ p (cS l):=by
 funext o t
 induction l with
 | nil=>exact(rV p t).symm
 | cons e l ih=>
  show(if e.1=o then cf (times p e.2) t else 0)+cS (MO p l) o t=cv p (λt=>(if e.1=o then cf e.2 t else 0)+cS l o t) t;rw[zm,ih];congr 1;by_cases c:e.1=o
  ·rw[aK c,aaA,show(λt=>if e.1=o then cf e.2 t else 0)=cf e.2 from funext λt=>aK c]
  ·rw[aJ c,show(λt=>if e.1=o then cf e.2 t else(0:Int))=λ_=>0 from funext λt=>aJ c,rV]
def off{n:Nat}{m:Ps}(hm:∀x∈m,x.1.Perm (rg n)){o:ag}(h:¬o.Perm (rg n))(t:Int):cS m o t=0:=Su.JO λe he z=>h (by rw[<- z];exact hm e he)
def XX{n:Nat}{m m':Ps}(hm:∀x∈m,x.1.Perm (rg n))(hm':∀x∈m',x.1.Perm (rg n))(h:oS n (cS m) (cS m')):∀o t,cS m o t=cS m' o t:=λo t=>by
 by_cases c:o.Perm (rg n)
 ·exact h o c t
 ·rw[off hm c,off hm' c]
abbrev LO (n:Nat)(u:ag):am:=sw n (bk u)
def ZG(k:Nat)(f g:Fn):L k (add f g)=add (L k f) (L k g):=by
 funext o t
 unfold L add dl;dsimp only;split<;>lia
theorem Rq:∀(w:am) (f g:Fn),Lw w (add f g)=add (Lw w f) (Lw w g)
 | [],_,_=>rfl
 | k::w,f,g=>by
  show Lw w (L k (add f g))=_;rw[ZG,Rq w];rfl
def WT(k:Nat)(p:Pl)(f:Fn):L k (oJ p f)=oJ p (L k f):=by
 funext o t
 show cv p (f (o.map (Wd.sw k))) t+(if nR (bk o) k=true then dl (cv p (f o)) t else 0)=cv p (λt=>f (o.map (Wd.sw k)) t+if nR (bk o) k=true then dl (f o) t else 0) t;rw[zm]
 cases nR (bk o) k with
 | true=>dsimp[cZ];rw[<- VW]
 | false=>dsimp[bA,cg];rw[rV]
theorem Ja(p:Pl):∀(w:am) (f:Fn),Lw w (oJ p f)=oJ p (Lw w f)
 | [],_=>rfl
 | k::w,f=>by
  show Lw w (L k (oJ p f))=_;rw[WT,Ja p w];rfl
abbrev B (f:Fn):Fn:=λo=>f (bk o)
def B_X{n k:Nat}(h0:1<=k)(h1:k<n)(f:Fn):oS n (B (X k f)) (L k (B f)):=λo p t=>by
 show f (Wd.ex (bk o) k) t+(if nR (bk o) k=true then dl (f (bk o)) t else 0)=f (bk (o.map (Wd.sw k))) t+if nR (bk o) k=true then dl (f (bk o)) t else 0
 rw[Vn p h0 h1]
theorem Z2{n:Nat}:∀{w:am}{f:Fn},Va n w->oS n (B (Xw w f)) (Lw w (B f))
 | [],_,_=>.refl
 | k::w,f,v=>by
  have v1:=v k (aM ..);have v2:Va n w:=λj hj=>v j (aN _ hj)
  skip
  exact(Z2 v2).trans (BW v2 (B_X v1.1 v1.2 f))
abbrev d0:Int->Int:=λt=>if t=0 then 1 else 0
def Wb(p:Pl)(t:Int):cv p d0 t=cf p t:=by
 induction p with
 | nil=>rfl
 | cons q p ih=>
  show q.2 * (if t-q.1=0 then 1 else 0)+cv p d0 t=(if q.1=t then q.2 else 0)+cf p t;rw[ih];by_cases c:q.1=t
  ·rw[aK c,aK (),mul_one]
  ·rw[aJ c,aJ (),ir]
def ZM(u:ag)(p:Pl):D u (cf p)=oJ p (D u d0):=by
 funext o t
 show(if o=u then cf p t else 0)=cv p (λt=>if o=u then d0 t else 0) t;by_cases c:o=u
 ·rw[aK c,show(λt=>if o=u then d0 t else 0)=d0 from funext λt=>aK c,Wb]
 ·rw[aJ c,show(λt=>if o=u then d0 t else(0:Int))=λ_=>0 from funext λt=>aJ c,rV]
def abS{n:Nat}{u:ag}(hu:u.Perm (rg n))(g:Int->Int):Va n (LO n u)/\oS n (Lw (LO n u) (D (rg n) g)) (D u g):=by
 unfold LO;have pb:=qu hu;obtain⟨h1,h2⟩:=wK pb;refine⟨zL pb,?_⟩;have h1':Wd.j0 (bk (rg n)) (sw n (bk u)):=by rw[Ln];exact h1
 obtain⟨x,x1,x2,x3⟩:=Yd (g:=g) (Bq n) h1';rw[Ln,h2]at x2;have:x=u:=by rw[<- vH x1,x2,vH hu]
 rw[this]at x3;exact x3
def UI{n:Nat}{u w:ag}(hu:u.Perm (rg n))(hw:w.Perm (rg n))(p q:Pl):oS n (oJ p (Lw (LO n u) (D w (cf q)))) (oJ q (Xw (sw n w) (D u (cf p)))):=by
 obtain⟨v1,v2⟩:=abS hu d0;have vw:=zL hw;have xw:oS n (Xw (sw n w) (D (rg n) d0)) (D w d0):=by
  have:=TR (g:=d0) (Bq n) (wK hw).1;rw[(wK hw).2]at this;exact this
 rw[ZM,ZM,Ja,Lc];have a:oS n (Lw (LO n u) (D w d0)) (Xw (sw n w) (D u d0)):=(BW v1 xw.symm).trans ((MY vw v1).symm.trans (Cz vw v2));refine(xM p (xM q a)).trans λo _ t=>?_;exact aaf p q _ t
theorem VU(n:Nat)(f g:Fn):∀m:Ps,R n m (add f g)=add (R n m f) (R n m g)
 | []=>rfl
 | e::m=>by
  funext o t
  show oJ e.2 (Xw (sw n e.1) (add f g)) o t+R n m (add f g) o t=(oJ e.2 (Xw (sw n e.1) f) o t+R n m f o t)+(oJ e.2 (Xw (sw n e.1) g) o t+R n m g o t);rw[VU n f g m,Ek];show cv e.2 (λt=>Xw (sw n e.1) f o t+Xw (sw n e.1) g o t) t+(R n m f o t+R n m g o t)=_;rw[zm];show _=(cv e.2 (Xw (sw n e.1) f o) t+_)+(cv e.2 (Xw (sw n e.1) g o) t+_)
  lia
theorem Lf:∀w:am,Lw w (λ_ _=>0)=λ_ _=>0
 | []=>rfl
 | k::w=>by
  have:L k (λ_ _=>0)=λ_ _=>0:=by
   funext o t
   unfold L dl;split<;>rfl
  show Lw w (L k _)=_;rw[this,Lf w]
theorem Nk(n:Nat):∀m:Ps,R n m (λ_ _=>0)=λ_ _=>0
 | []=>rfl
 | e::m=>by
  funext o t
  show oJ e.2 (Xw (sw n e.1) λ_ _=>0) o t+R n m (λ_ _=>0) o t=0;rw[Nk n m,xK];show cv e.2 (λ_=>0) t+0=0;rw[rV];rfl
theorem KY{n:Nat}{u:ag}(hu:u.Perm (rg n))(p:Pl):∀{m:Ps},(∀x∈m,x.1.Perm (rg n))->oS n (oJ p (Lw (LO n u) (cS m))) (R n m (D u (cf p)))
 | [],_=>λo _ t=>by
  show cv p (Lw (LO n u) (λ_ _=>0) o) t=0;rw[Lf];exact rV p t
 | e::m,hm=>λo po t=>by
  rw[Af,Rq];show cv p (λt=>Lw (LO n u) (D e.1 (cf e.2)) o t+Lw (LO n u) (cS m) o t) t=oJ e.2 (Xw (sw n e.1) (D u (cf p))) o t+R n m (D u (cf p)) o t;rw[zm,<- KY hu p (λx hx=>hm x (aN _ hx)) o po t,<- UI hu (hm e (aM ..)) p e.2 o po t];rfl
abbrev RL (n:Nat):Ps->Fn->Fn
 | [],_=>λ_ _=>0
 | e::l,f=>add (oJ e.2 (Lw (LO n e.1) f)) (RL n l f)
theorem Zw{n:Nat}{m:Ps}(hm:∀x∈m,x.1.Perm (rg n)):∀{l:Ps},(∀x∈l,x.1.Perm (rg n))->oS n (RL n l (cS m)) (R n m (cS l))
 | [],_=>by
  have z:cS []=λ_ _=>0:=rfl;rw[z,Nk];exact .refl
 | e::l,hl=>λo p t=>by
  rw[Af,VU];show oJ e.2 (Lw (LO n e.1) (cS m)) o t+RL n l (cS m) o t=R n m (D e.1 (cf e.2)) o t+R n m (cS l) o t;rw[Zw hm (λx hx=>hl x (aN _ hx)) o p t,KY (hl e (aM ..)) e.2 hm o p t]
abbrev wb (l:Ps):Ps:=l.map λe=>(bk e.1,e.2)
theorem GJ{n:Nat}{o:ag}(po:o.Perm (rg n))(t:Int):∀{l:Ps},(∀x∈l,x.1.Perm (rg n))->cS (wb l) o t=cS l (bk o) t
 | [],_=>rfl
 | e::l,hl=>by
  show(if bk e.1=o then cf e.2 t else 0)+cS (wb l) o t=(if e.1=bk o then cf e.2 t else 0)+cS l (bk o) t;rw[GJ po t λx hx=>hl x (aN _ hx)];have he:=hl e (aM ..);congr 1;by_cases c:bk e.1=o
  ·rw[aK c,aK (by rw[<- c,vH he])]
  ·rw[aJ c,aJ (λz=>c (by rw[z,vH po]))]
def Ui{n:Nat}{m:Ps}(hm:∀x∈m,x.1.Perm (rg n)){l:Ps}(hl:∀x∈l,x.1.Perm (rg n)):oS n (B (R n (wb l) (cS (wb m)))) (R n m (cS l)):=by
 have bm:oS n (B (cS (wb m))) (cS m):=λo p t=>by
  show cS (wb m) (bk o) t=_;rw[GJ (qu p) t hm,vH p]
 have key:∀{l:Ps},(∀x∈l,x.1.Perm (rg n))->oS n (B (R n (wb l) (cS (wb m)))) (RL n l (cS m)):=by
  intro l
  induction l with
  | nil=>intro _;exact .refl
  | cons e l ih=>
   intro hl o p t;have he:=hl e (aM ..);show cv e.2 (Xw (sw n (bk e.1)) (cS (wb m)) (bk o)) t+R n (wb l) (cS (wb m)) (bk o) t=oJ e.2 (Lw (LO n e.1) (cS m)) o t+RL n l (cS m) o t;have i:=ih (λx hx=>hl x (aN _ hx)) o p t;have i':R n (wb l) (cS (wb m)) (bk o) t=RL n l (cS m) o t:=i;rw[i'];congr 1;have v:=zL (qu he);exact xM e.2 ((Z2 v).trans (BW v bm)) o p t
 exact(key hl).trans (Zw hm hl)
end He
namespace He
open PySem L2 Am Po
open Fw (Two rg G9)
open Su (nR Ps cS Gd vS toS adds bx)
def QA{D:Ps}(h:Gd D){e:ag×Pl}(he:e∈D):vS D e.1=e.2:=by
 rcases Su.wR (D:=D) (o:=e.1)with⟨e',h1,h2,h3⟩|⟨h1,_⟩
 ·rw[h3,DN h.nd e' h1 e he h2]
 ·exact absurd (fN he) h1
def Gx{D:Ps}(h:Gd D):(D.map Prod.fst).map (λk=>(k,vS D k))=D:=by
 rw[bh]
 conv=>rhs;rw[<- jm D]
 exact cP λe he=>by
  show(e.1,vS D e.1)=e;rw[QA h he]
def BJ{D:Ps}(h:Gd D)(o:ag)(t:Int):cS D o t=cf (vS D o) t:=by
 conv=>lhs;rw[<- Gx h]
 rw[Su.Iq h.nd];split
 ·rfl
 ·rename_i c
  rcases Su.wR (D:=D) (o:=o)with⟨e,h1,h2,_⟩|⟨_,h2⟩
  ·exact absurd (h2 ▸ fN h1) c
  ·rw[h2];rfl
def HV{D:Ps}(h:Gd D):Gd (toS D):=by
 refine⟨?_,λe he=>?_⟩
 ·unfold toS;rw[bh,show(Prod.fst ∘ λo=>(o,vS D o))=id from rfl,jm];exact((jW _).nodup_iff.mpr h.nd).filter _
 ·obtain⟨o,_,rfl⟩:=bu.mp he;exact h.v o
structure Cn (l:Ps):Prop where
 gd:Gd l
 eq:toS l=l
theorem Cn.toS{D:Ps}(h:Gd D):Cn (toS D):=⟨HV h,Su.Fp (HV h) h λo t=>by rw[<- BJ (HV h),Su.ES h]⟩
def Cn.uniq{l:Ps}(h:Cn l)(h':Cn m)(e:∀o t,cS l o t=cS m o t):l=m:=by
 rw[<- h.eq,<- h'.eq];exact Su.Fp h.gd h'.gd λo t=>by rw[<- BJ h.gd,<- BJ h'.gd,e]
def Cn.nil:Cn []:=⟨Gd.nil,rfl⟩
def Cn.ne{l:Ps}(h:Cn l){e:ag×Pl}(he:e∈l):e.2≠[]:=by
 rw[<- h.eq]at he;obtain⟨o,ho,rfl⟩:=bu.mp he;have:=(cQ.mp ho).2;intro z;have z:vS l o=[]:=z;rw[z]at this
 cases this
def Fo{P:Ps}(h:Gd P)(hn:∀e∈P,e.2≠[]):nF P=toS P:=by
 symm
 have all:(mE (P.map Prod.fst)).filter (λo=>!(vS P o).isEmpty)=mE (P.map Prod.fst):=by
  rw[fM];intro o ho;obtain⟨e,he,rfl⟩:=bu.mp ((jW _).mem_iff.mp ho);rw[QA h he]
  cases e':e.2 with
  | nil=>exact absurd e' (hn e he)
  | cons=>rfl
 have ts:toS P=(mE (P.map Prod.fst)).map λo=>(o,vS P o):=by unfold toS;rw[all]
 refine Bw h.nd ?_ ?_
 ·rw[ts];have:=(jW (P.map Prod.fst)).map λo=>(o,vS P o)
  rwa [Gx h]at this
 ·rw[ts,bh,show(Prod.fst ∘ λo=>(o,vS P o))=id from rfl,jm];exact tM _
def WS(l:Ps):(wb l).map Prod.fst=(l.map Prod.fst).map bk:=by
 unfold wb;rw[bh,bh];rfl
theorem Bx{n:Nat}:∀{ks:List (ag)},(∀o∈ks,o.Perm (rg n))->ks.Nodup->(ks.map bk).Nodup
 | [],_,_=>dN
 | o::ks,hp,nd=>by
  obtain⟨h1,h2⟩:=cR.mp nd;refine cR.mpr ⟨λz=>?_,Bx (λo ho=>hp o (aN _ ho)) h2⟩;obtain⟨u,hu,e⟩:=bu.mp z;have:=dj bk e;rw[vH (hp u (aN _ hu)),vH (hp o (aM ..))]at this;exact h1 (this ▸ hu)
def K7{n:Nat}{l:Ps}(h:Gd l)(hl:∀x∈l,x.1.Perm (rg n)):Gd (wb l):=by
 refine⟨?_,λe he=>?_⟩
 ·rw[WS];exact Bx (λo ho=>by obtain⟨e,he,rfl⟩:=bu.mp ho;exact hl e he) h.nd
 ·obtain⟨x,hx,rfl⟩:=bu.mp he;exact h.ok x hx
def Z6{n:Nat}{l:Ps}(hl:∀x∈l,x.1.Perm (rg n)):∀x∈wb l,x.1.Perm (rg n):=λx hx=>by
 obtain⟨y,hy,rfl⟩:=bu.mp hx;exact qu (hl y hy)
abbrev Ho (l:Ps):Ps:=nF (wb l)
def PZ{n:Nat}{l:Ps}(h:Cn l)(hl:∀x∈l,x.1.Perm (rg n)):Ho l=toS (wb l):=Fo (K7 h.gd hl) λe he=>by
 obtain⟨x,hx,z⟩:=bu.mp he;rw[<- z];exact h.ne (e:=x) hx
def Ib{n:Nat}{l:Ps}(h:Cn l)(hl:∀x∈l,x.1.Perm (rg n)):Cn (Ho l):=by
 rw[PZ h hl];exact .toS (K7 h.gd hl)
def EH{n:Nat}{l:Ps}(hl:∀x∈l,x.1.Perm (rg n)):∀x∈Ho l,x.1.Perm (rg n):=λx hx=>Z6 hl x ((rm _).mem_iff.mp hx)
def BD{n:Nat}{l:Ps}(h:Cn l)(hl:∀x∈l,x.1.Perm (rg n))(o:ag)(t:Int):cS (Ho l) o t=cS (wb l) o t:=by
 rw[PZ h hl,Su.ES (K7 h.gd hl),BJ (K7 h.gd hl)]
abbrev ff (o:ag):bp:=((List.range (o.length-1)).find? λi=>nR o (i+1)).map (·+1)
def EK{o:ag}{k:Nat}(h:ff o=some k):1<=k/\k<o.length/\nR o k=true:=by
 obtain⟨i,hi,rfl⟩:=aX.mp h;have h1:=cU.mp (gq hi);have h2:nR o (i+1)=true:=iH (p:=λi=>nR o (i+1)) hi;exact⟨(),(),h2⟩
def Sy{o:ag}(h:ff o=none):∀k,1<=k->k<o.length->nR o k=false:=λk h1 h2=>by
 have h:=Option.map_eq_none_iff.mp h;have:=gH.mp h (k-1) (cU.mpr ());rw[Nat.sub_add_cancel h1]at this;simpa using this
abbrev Vv:Nat->Ps->ag->Ps
 | 0,l,_=>l
 | m+1,l,o=>match ff o with
  | none=>l
  | some k=>bx k (Vv m l (Wd.ex o k))
def Wk(k:Nat)(l:Ps):Cn (bx k l):=.toS (Gd.nil.adds _)
theorem RW{n:Nat}{l:Ps}(hc:Cn l)(hl:∀x∈l,x.1.Perm (rg n)):∀(m:Nat) {o:ag},o.Perm (rg n)->Iv.inv o=m->Cn (Vv m l o)/\(∀x∈Vv m l o,x.1.Perm (rg n))/\oS n (cS (Vv m l o)) (Xw (sw n o) (cS l))
 | 0,o,po,hm=>by
  refine⟨hc,hl,?_⟩;have e:o=rg n:=Fw.IS po λk hk=>by
   have:=Fw.sq hk.1 hk.2.1 hk.2.2
   lia
  obtain⟨a1,a2⟩:=wK po;have:=EF a1 (show Wd.j0 (rg n) []from trivial) (a2.trans e) hl;exact this.symm
 | m+1,o,po,hm=>by
  have lo:o.length=n:=by rw[po.length_eq,Wd.jO]
  unfold Vv
  cases hf:ff o with
  | none=>
   obtain⟨k,hk⟩:=Fw.Jk (l:=o) ();have:=Sy hf k hk.1 hk.2.1;have:=dB this;exact absurd hk.2.2 ()
  | some k=>
   obtain⟨h1,h2,h3⟩:=EK hf;have hk:=bX h3;have hd:=Fw.sq h1 h2 ();rw[lo]at h2;obtain⟨_,i2,i3⟩:=RW hc hl m (qp po h1 h2) ();exact⟨Wk _ _,KP h1 h2 i2,(Wy i2 h1 h2).trans ((Zq i3 h1 h2).trans (Zu po h1 h2 h3 hl).symm)⟩
abbrev bo (l:Ps)(o:ag):Ps:=Vv (Iv.inv o) l o
def P8{n:Nat}{l:Ps}(hc:Cn l)(hl:∀x∈l,x.1.Perm (rg n)){o:ag}(po:o.Perm (rg n)):Cn (bo l o)/\(∀x∈bo l o,x.1.Perm (rg n))/\oS n (cS (bo l o)) (Xw (sw n o) (cS l)):=RW hc hl _ po rfl
def Fy{l:Ps}(h:ff o=none):bo l o=l:=by
 unfold bo
 cases Iv.inv o with
 | zero=>rfl
 | succ m=>unfold Vv;rw[h]
def TM{l:Ps}{k:Nat}(h:ff o=some k):bo l o=bx k (bo l (Wd.ex o k)):=by
 obtain⟨h1,h2,h3⟩:=EK h;have hk:=bX h3;have hd:=Fw.sq h1 h2 ();unfold bo;rw[show Iv.inv o=Iv.inv (Wd.ex o k)+1 from by lia]
 conv=>lhs;unfold Vv
 rw[h]
abbrev Cs (l m:Ps):Ps:=m.flatMap λe=>MO e.2 (bo l e.1)
abbrev Vc (l m:Ps):Ps:=toS (adds [] (Cs l m))
def UH{n:Nat}{l m:Ps}(hc:Cn l)(hl:∀x∈l,x.1.Perm (rg n))(hm:∀x∈m,x.1.Perm (rg n)):∀x∈Cs l m,x.1.Perm (rg n):=λx hx=>by
 obtain⟨e,he,hx⟩:=fP.mp hx;obtain⟨y,hy,rfl⟩:=bu.mp hx;exact(P8 hc hl (hm e he)).2.1 y hy
theorem Qo{n:Nat}{l:Ps}(hc:Cn l)(hl:∀x∈l,x.1.Perm (rg n)):∀{m:Ps},(∀x∈m,x.1.Perm (rg n))->oS n (cS (Cs l m)) (R n m (cS l))
 | [],_=>.refl
 | e::m,hm=>λo p t=>by
  show cS (MO e.2 (bo l e.1)++Cs l m) o t=cv e.2 (Xw (sw n e.1) (cS l) o) t+R n m (cS l) o t;rw[Su.D4,Pc,Qo hc hl (λx hx=>hm x (aN _ hx)) o p t];congr 1;exact xM e.2 (P8 hc hl (hm e (aM ..))).2.2 o p t
def Jv(l:Ps)(o:ag)(t:Int):cS (toS (adds [] l)) o t=cS l o t:=by
 rw[Su.ES (Gd.nil.adds _),Su.NK];exact cA _
def HW{n:Nat}{l m:Ps}(hc:Cn l)(hl:∀x∈l,x.1.Perm (rg n))(hm:∀x∈m,x.1.Perm (rg n)):Cn (Vc l m)/\(∀x∈Vc l m,x.1.Perm (rg n))/\oS n (cS (Vc l m)) (R n m (cS l)):=
 ⟨.toS (Gd.nil.adds _),Su.A3 (P:=λo=>o.Perm (rg n)) (Su.zI (P:=λo=>o.Perm (rg n)) _ (nofun) (UH hc hl hm)),λo p t=>by
  show cS (toS (adds [] (Cs l m))) o t=_;rw[Jv];exact Qo hc hl hm o p t⟩
abbrev prod (l m:Ps):Ps:=if m.length<=l.length then Vc l m else Ho (Vc (Ho m) (Ho l))
def pD{n:Nat}{l m:Ps}(hc:Cn l)(hd:Cn m)(hl:∀x∈l,x.1.Perm (rg n))(hm:∀x∈m,x.1.Perm (rg n)):Cn (prod l m)/\(∀x∈prod l m,x.1.Perm (rg n))/\oS n (cS (prod l m)) (R n m (cS l)):=by
 unfold prod;by_cases c:m.length<=l.length
 ·rw[aK c];exact HW hc hl hm
 ·rw[aJ c];obtain⟨h1,h2,h3⟩:=HW (Ib hd hm) (EH hm) (EH hl);refine⟨Ib h1 h2,EH h2,λo p t=>?_⟩;rw[BD h1 h2,GJ p t h2,h3 _ (qu p) t];rw[ZE n (λo t=>BD hc hl o t)];rw[show cS (Ho m)=cS (wb m)from funext λo=>funext λt=>BD hd hm o t];exact Ui hm hl o p t
def EY{n:Nat}{a b:Ps}(ha:Cn a)(hb:Cn b)(pa:∀x∈a,x.1.Perm (rg n))(pb:∀x∈b,x.1.Perm (rg n))(h:oS n (cS a) (cS b)):a=b:=ha.uniq hb (XX pa pb h)
abbrev one (n:Nat):Ps:=[(rg n,[((0:Int),(1:Int))])]
def xy(o:ag){p:Pl}(hp:Ok p)(h0:p≠[]):Cn [(o,p)]:=by
 have g:Gd [(o,p)]:=⟨cR.mpr ⟨(λz=>nomatch z),dN⟩,λe he=>by rw[aS.mp he];exact hp⟩;exact⟨g,(Fo g λe he=>by rw[aS.mp he];exact h0).symm⟩
def xE:Ok [((0:Int),(1:Int))]:=⟨cj _ _,λp hp=>by rw[aS.mp hp];decide⟩
def IK(g:Int->Int)(t:Int):cv [((0:Int),(1:Int))] g t=g t:=by
 show 1 * g (t-0)+0=_;rw[Int.sub_zero];lia
end He
namespace He
open PySem L2 Am Po
open Fw (Two rg G9)
open Su (nR Ps cS Gd vS toS adds bx)
abbrev arr:Nat->ag->List (ag)
 | 0,_=>[[]]
 | m+1,l=>l.flatMap λx=>(arr m (l.erase x)).map (x::·)
theorem K2:∀{m:Nat}{l o:ag},o.Perm l->l.length=m->o∈arr m l
 | 0,l,o,p,h=>by
  have:l=[]:=fO.mp h;subst this;rw[p.eq_nil];exact aS.mpr rfl
 | m+1,l,[],p,h=>by rw[<- p.length_eq]at h;cases h
 | m+1,l,x::o,p,h=>by
  obtain⟨h1,h2⟩:=List.cons_perm_iff_perm_erase.mp p;refine fP.mpr ⟨x,h1,bu.mpr ⟨o,K2 h2 ?_,rfl⟩⟩;rw[List.length_erase_of_mem h1,h];rfl
def Mi{α:Type}[DecidableEq α]{ks L:List α}(nd:ks.Nodup)(h:∀x∈ks,x∈L):ks.length<=L.length:=by
 have:=pig L.length (ks.map λx=>L.idxOf x) ?_ λi hi=>?_
 ·rwa [aH]at this
 ·refine cK.mpr (nd.imp_of_mem λ{a b} ha hb hab z=>hab ?_);have e1:=iT (fF.mpr (h a ha));have e2:=iT (fF.mpr (h b hb));rw[<- e1,<- e2];congr 1
 ·obtain⟨x,hx,rfl⟩:=bu.mp hi;exact fF.mpr (h x hx)
def Vb:∀n,n<6->(arr n (rg n)).length<=120:=by decide +kernel
def many{n:Nat}(hn:n<6){ks:List (ag)}(nd:ks.Nodup)(h:∀o∈ks,o.Perm (rg n)):ks.length<=120:=
 bJ (Mi nd λo ho=>K2 (h o ho) (Wd.jO n)) (Vb n hn)
structure FB (n P C:Nat)(f:Fn):Prop where
 c:∀o,o.Perm (rg n)->∀t,(f o t).natAbs<=C
 p:∀o,o.Perm (rg n)->∀t:Int,P<t.natAbs->f o t=0
def FB.mono{n P:Nat}{f:Fn}(h:FB n P C f)(hp:P<=P')(hc:C<=C'):FB n P' C' f:=⟨λo po t=>bJ (h.c o po t) hc,λo po t ht=>h.p o po t ()⟩
def FB.eq{n P:Nat}{f g:Fn}(h:FB n P C f)(e:oS n g f):FB n P C g:=⟨λo po t=>by rw[e o po t];exact h.c o po t,λo po t ht=>by rw[e o po t];exact h.p o po t ht⟩
theorem FB.X{n P k:Nat}{f:Fn}(h:FB n P C f)(h0:1<=k)(h1:k<n):FB n (P+1) (3 * C) (X k f):=by
 refine⟨λo po t=>?_,λo po t ht=>?_⟩
 ·have a:=h.c _ (qp po h0 h1) t;have b:=h.c o po (t+1);have d:=h.c o po (t-1);unfold He.X dl;split<;>omega
 ·have a:=h.p _ (qp po h0 h1) t (by omega);have b:=h.p o po (t+1) (by omega);have d:=h.p o po (t-1) (by omega);unfold He.X dl;split<;>omega
theorem FB.Xw{n:Nat}:∀{w:am}{P C:Nat}{f:Fn},FB n P C f->Va n w->FB n (P+w.length) (3 ^ w.length * C) (Xw w f)
 | [],P,C,f,h,_=>by
  show FB n (P+0) (1 * C) f;rw[add_zero,gO];exact h
 | k::w,P,C,f,h,v=>by
  have v1:=v k (aM ..);have:=FB.Xw (h.X v1.1 v1.2) (w:=w) λj hj=>v j (aN _ hj);show FB n (P+(w.length+1)) (3 ^ (w.length+1) * C) (He.Xw w (He.X k f));rw[show P+(w.length+1)=P+1+w.length by lia,Nat.pow_succ,Nat.mul_assoc];exact this
theorem FB.add{n P:Nat}{f g:Fn}(h:FB n P C f)(h':FB n P C' g):FB n P (C+C') (add f g):=by
 refine⟨λo po t=>?_,λo po t ht=>?_⟩
 ·have a:=h.c o po t;have b:=h'.c o po t;show(f o t+g o t).natAbs<=_;omega
 ·show f o t+g o t=0;rw[h.p o po t ht,h'.p o po t ht];rfl
structure PB (Q c:Nat)(p:Pl):Prop where
 c:∀q∈p,q.2.natAbs<=c
 p:∀q∈p,q.1.natAbs<=Q
theorem W8{n P c:Nat}{f:Fn}(h:FB n P C f){o:ag}(po:o.Perm (rg n)):∀{p:Pl},PB Q c p->(∀t,(cv p (f o) t).natAbs<=p.length * (c * C))/\∀t:Int,P+Q<t.natAbs->cv p (f o) t=0
 | [],_=>⟨λ_=>bL _,λ_ _=>rfl⟩
 | q::p,b=>by
  obtain⟨i1,i2⟩:=W8 h po (p:=p) ⟨λx hx=>b.c x (aN _ hx),λx hx=>b.p x (aN _ hx)⟩;have q1:=b.c q (aM ..);have q2:=b.p q (aM ..);refine⟨λt=>?_,λt ht=>?_⟩
  ·show(q.2 * f o (t-q.1)+cv p (f o) t).natAbs<=(p.length+1) * (c * C);refine bJ (Int.natAbs_add_le _ _) ?_;rw[Int.natAbs_mul,dS,Nat.add_comm];exact Nat.add_le_add (i1 t) (dZ q1 (h.c o po _))
  ·show q.2 * f o (t-q.1)+cv p (f o) t=0;rw[i2 t ht,h.p o po _ (by omega),ir];rfl
theorem FB.oJ{n P c:Nat}{f:Fn}(h:FB n P C f){p:Pl}(b:PB Q c p):FB n (P+Q) (p.length * (c * C)) (oJ p f):=⟨λo po t=>(W8 h po b).1 t,λo po t ht=>(W8 h po b).2 t ht⟩
theorem xg:∀{w:am}{l:ag},Wd.j0 l w->Iv.inv (Wd.led l w)=Iv.inv l+w.length
 | [],_,_=>rfl
 | k::w,l,h=>by
  have:=xg h.2.2.2;rw[Fw.HQ h.1 h.2.1 h.2.2.1]at this;show Iv.inv (Wd.led (Wd.ex l k) w)=_+(w.length+1)
  lia
def DK{n:Nat}{o:ag}(h:o.Perm (rg n)):(sw n o).length=Iv.inv o:=by
 obtain⟨a,b⟩:=wK h;have:=xg a;rw[b,Fw.P9]at this
 lia
def DS{n:Nat}(hn:n<6){o:ag}(h:o.Perm (rg n)):Iv.inv o<=25:=by
 have:=Iv.DC o;rw[h.length_eq,Wd.jO]at this;exact bJ this (dZ (show n<=5 by lia) (show n<=5 by lia))
def FB.zero(n P C:Nat):FB n P C λ_ _=>0:=⟨λ_ _ _=>bL _,λ_ _ _ _=>rfl⟩
theorem FB.R{n P c K:Nat}(hn:n<6){f:Fn}(h:FB n P C f):∀{m:Ps},(∀x∈m,x.1.Perm (rg n))->(∀x∈m,PB Q c x.2/\x.2.length<=K)->FB n (P+25+Q) (m.length * (K * (c * (3 ^ 25 * C)))) (R n m f)
 | [],_,_=>FB.zero ..
 | e::m,hm,hb=>by
  have he:=hm e (aM ..);obtain⟨b1,b2⟩:=hb e (aM ..);have i:=FB.R hn h (m:=m) (λx hx=>hm x (aN _ hx)) λx hx=>hb x (aN _ hx);have l25:(sw n e.1).length<=25:=by rw[DK he];exact DS hn he
  have a:=(h.Xw (zL he)).mono (P':=P+25) (C':=3 ^ 25 * C) () (bN _ (gb ⋯ l25));have b:=(a.oJ b1).mono (P':=P+25+Q) (C':=K * (c * (3 ^ 25 * C))) (aR _) (bN _ b2);have d:=b.add i;show FB n _ ((m.length+1) * _) (He.add _ _);rw[dS,Nat.add_comm (m.length * _)];exact d
theorem Qe:∀{l:Pl}{a b:Int},l.Pairwise (λp q=>p.1<q.1)->(∀p∈l,a<=p.1/\p.1<=b)->l.length<=(b-a+1).toNat
 | [],_,_,_,_=>bL _
 | p::l,a,b,h,hb=>by
  obtain⟨h1,h2⟩:=bW.mp h;have p1:=hb p (aM ..);have i:=Qe (l:=l) (a:=a+1) (b:=b) h2 λq hq=>by
   have:=h1 q hq;have:=hb q (aN _ hq)
   lia
  rw[bq]
  lia
def ON{p:Pl}{P c:Nat}(h:Ok p)(b:PB P c p):p.length<=2 * P+1:=by
 have:=Qe (a:=-(P:Int)) (b:=P) h.up λq hq=>by have:=b.p q hq;omega
 omega
def FB.pb{n P:Nat}{l:Ps}(h:FB n P C (cS l))(hc:Gd l)(pl:∀x∈l,x.1.Perm (rg n)){e:ag×Pl}(he:e∈l):PB P C e.2/\e.2.length<=2 * P+1:=by
 have ok:=hc.ok e he;have at_:∀q∈e.2,cS l e.1 q.1=q.2:=λq hq=>by
  rw[BJ hc,QA hc he];exact Su.Ok.IF ok hq
 have b:PB P C e.2:=⟨λq hq=>by rw[<- at_ q hq];exact h.c _ (pl e he) _,λq hq=>by
  refine iB λz=>ok.nz q hq ?_;rw[<- at_ q hq];exact h.p _ (pl e he) _ z⟩
 exact⟨b,ON ok b⟩
structure Sz (n P C:Nat)(l:Ps):Prop where
 cn:Cn l
 pm:∀x∈l,x.1.Perm (rg n)
 fb:FB n P C (cS l)
def Sz.pb{n P:Nat}{l:Ps}(h:Sz n P C l){e:ag×Pl}(he:e∈l):PB P C e.2/\e.2.length<=2 * P+1:=h.fb.pb h.cn.gd h.pm he
def Sz.many{n P:Nat}{l:Ps}(hn:n<6)(h:Sz n P C l):l.length<=120:=by
 have:=He.many hn h.cn.gd.nd λo ho=>by obtain⟨e,he,rfl⟩:=bu.mp ho;exact h.pm e he
 rwa [aH]at this
def Sz.mono{n P:Nat}{l:Ps}(h:Sz n P C l)(hp:P<=P')(hc:C<=C'):Sz n P' C' l:=⟨h.cn,h.pm,h.fb.mono hp hc⟩
theorem Sz.bx{n P k:Nat}{l:Ps}(h:Sz n P C l)(h0:1<=k)(h1:k<n):Sz n (P+1) (3 * C) (bx k l):=⟨Wk _ _,KP h0 h1 h.pm,(h.fb.X h0 h1).eq (Wy h.pm h0 h1)⟩
theorem Sz.bo{n P:Nat}(hn:n<6){l:Ps}(h:Sz n P C l){o:ag}(po:o.Perm (rg n)):Sz n (P+25) (3 ^ 25 * C) (bo l o):=by
 obtain⟨h1,h2,h3⟩:=P8 h.cn h.pm po;have l25:(sw n o).length<=25:=by rw[DK po];exact DS hn po
 exact⟨h1,h2,((h.fb.Xw (zL po)).mono () (bN _ (gb ⋯ l25))).eq h3⟩
theorem Sz.Ho{n P:Nat}{l:Ps}(h:Sz n P C l):Sz n P C (Ho l):=⟨Ib h.cn h.pm,EH h.pm,⟨λo po t=>by rw[BD h.cn h.pm,GJ po t h.pm];exact h.fb.c _ (qu po) t,λo po t ht=>by rw[BD h.cn h.pm,GJ po t h.pm];exact h.fb.p _ (qu po) t ht⟩⟩
theorem Sz.R{n P c:Nat}(hn:n<6){l:Ps}(h:Sz n P C l)(h':Sz n Q c m):FB n (P+25+Q) (120 * ((2 * Q+1) * (c * (3 ^ 25 * C)))) (R n m (cS l)):=(FB.R hn h.fb h'.pm λx hx=>h'.pb hx).mono (aR _) (bN _ (h'.many hn))
theorem Sz.Vc{n P c:Nat}(hn:n<6){l:Ps}(h:Sz n P C l)(h':Sz n Q c m):Sz n (P+25+Q) (120 * ((2 * Q+1) * (c * (3 ^ 25 * C)))) (Vc l m):=by
 obtain⟨a,b,d⟩:=HW h.cn h.pm h'.pm;exact⟨a,b,(Sz.R hn h h').eq d⟩
theorem Sz.prod{n P c:Nat}(hn:n<6){l:Ps}(h:Sz n P C l)(h':Sz n Q c m):Sz n (P+25+Q) (120 * ((2 * Q+1) * (c * (3 ^ 25 * C)))) (prod l m):=by
 obtain⟨a,b,d⟩:=pD h.cn h'.cn h.pm h'.pm;exact⟨a,b,(Sz.R hn h h').eq d⟩
end He
namespace Am
theorem Gi{α β:Type}(f:α->β)(x:ag×α):∀l:List (ag×α),BU (x.1,f x.2) (l.map λe=>(e.1,f e.2))=(BU x l).map λe=>(e.1,f e.2)
 | []=>rfl
 | y::l=>by
  rw[bB];unfold BU;by_cases h:HT.lexLt y.1 x.1=true
  ·rw[aK h,aK h,bB,Gi]
  ·rw[aJ h,aJ h];rfl
theorem yQ{α β:Type}(f:α->β):∀l:List (ag×α),nF (l.map λe=>(e.1,f e.2))=(nF l).map λe=>(e.1,f e.2)
 | []=>rfl
 | x::l=>by
  rw[bB];show BU _ (nF _)=_;rw[yQ f l];exact Gi f x (nF l)
end Am
namespace Su
open Am Po PySem L2
def Mn{es:Es}{n:Nat}{src:Ic}{ex:Ex}(hs:src τ S=.ok (kC n (es.map ent).length) S)(hx:ju S n=some (es.map ent))(f:En->A)
  (step:∀e∈es,∀T,kY S T->∃T',ex (.tup (e.1.map .int)::.ref e.2.1::kN cap τ) T=.ok (f e) T'/\kY T T') (hl:es.length<=16777216) :
  ∃S',j6 (none::none::cap) src TJ oV ex τ S=.ok (.ref S'.length) (S'++[.lst (es.map f)])/\kY S S':=by
 have hk:(es.map ent).length=es.length:=aH ..;obtain⟨ys,S',h1,k1,rfl⟩:=BR (s:=kC n (es.map ent).length) (g:=TJ) (e:=ex) (T:=λτ'=>∃y z,τ'=y::z::kN cap τ) (λi acc T=>kY S T/\acc=(es.take i).map f)
  (λi acc τ' T hi ⟨y,z,hy⟩ hP=>by
   have hi:i<(es.map ent).length:=hi;obtain⟨kT,rfl⟩:=hP;subst hy;have he:es[i]?=some es[i]:=aF (by omega);obtain⟨T',e1,e4⟩:=step es[i] (aW he) T kT;refine⟨ent es[i],.tup (es[i].1.map .int)::.ref es[i].2.1::kN cap τ,T,_,T',?_,rfl,⟨_,_,rfl⟩,e1,kT.trans e4,?_⟩
   ·show(ju T n).bind _=_;rw[kT.lst _ _ (λz=>z) hx,dH,aO,he];rfl
   ·rw[cW,he,bU];rfl) (λacc T hP=>by
   show(match ju T n with
    | some ys=>decide (ys.length<=(es.map ent).length)
    | none=>false)=true
   rw[hP.1.lst _ _ (λz=>z) hx];simp) (es.map ent).length 0 [] (kN (none::none::cap) τ) S rfl ⟨_,_,rfl⟩ ⟨Kp.refl,by rw[eU];rfl⟩
 rw[show(kC n (es.map ent).length).k=es.length from hk,c_]at h1;refine⟨S',?_,k1⟩;unfold j6;rw[hs,R.oM];show(mW (kC n (es.map ent).length) TJ oV ex (es.map ent).length 0 (kN (none::none::cap) τ) S).mU _=_;rw[h1,R.k_];exact j7 (by rw[aH];exact hl)
theorem Fx:∀es:Es,YY (es.map ent)=some (es.map λe=>(e.1,A.ref e.2.1))
 | []=>rfl
 | e::es=>by
  rw[bB];show(match A.ints (e.1.map .int)with
   | some ks=>(YY (es.map ent)).map λrs=>(ks,A.ref e.2.1)::rs
   | _=>none)=_
  rw[ints_map,Fx es];rfl
def LH{S:jz}{n:Nat}{es:Es}(h:ju S n=some (es.map ent))(nd:(es.map Prod.fst).Nodup):Ed (.ref n) S=.ok (.ref S.length) (S++[.lst ((nF es).map ent)]):=by
 show opt (ju S n) _=_;rw[h,ki,Fx,ki];have e1:(es.map λe=>(e.1,A.ref e.2.1)).map Prod.fst=es.map Prod.fst:=by rw[bh];rfl
 rw[e1];have e2:=yQ (λp:Nat×Pl=>A.ref p.1) es;rw[e2,bh];exact mF nd
def P5(es:Es):sm (nF es)=nF (sm es):=(yQ (λp:Nat×Pl=>p.2) es).symm
def CN{D:Es}{r:Nat}{p:Pl}:∃e,fE (nU D o r p) o=some e/\e.2.1=r:=by
 unfold nU;by_cases c:(fE D o).isSome=true
 ·rw[aK c];obtain⟨e,he⟩:=fC.mp c;unfold fE at he ⊢;rw[ig];have eq:((λe:En=>decide (e.1=o)) ∘ λe:En=>if e.1=o then(e.1,r,p)else e)=λe:En=>decide (e.1=o):=by
   funext x
   show decide ((if x.1=o then(x.1,r,p)else x).1=o)=_;by_cases z:x.1=o
   ·rw[aK z]
   ·rw[aJ z]
  rw[eq,he];have:=iH he;have:=bX this;exact⟨_,rfl,by show(if e.1=o then(e.1,r,p)else e).2.1=r;rw[aK this]⟩
 ·rw[aJ c];have c:fE D o=none:=Option.not_isSome_iff_eq_none.mp c;unfold fE at c ⊢;rw[List.find?_append,c];exact⟨(o,r,p),by rw[cT,bf rfl];rfl,rfl⟩
end Su
namespace He
open PySem L2 Am Po
open Fw (Two rg G9)
open Su (nR Ps cS Gd vS toS adds bx)
def Sz.of{n P:Nat}{l:Ps}(h:Cn l)(pm:∀x∈l,x.1.Perm (rg n))(pb:∀e∈l,PB P C e.2):Sz n P C l:=by
 refine⟨h,pm,⟨λo po t=>?_,λo po t ht=>?_⟩⟩
 ·rw[BJ h.gd]
  rcases Su.wR (D:=l) (o:=o)with⟨e,h1,_,h3⟩|⟨_,h2⟩
  ·rw[h3];exact Su.Y4 (h.gd.ok e h1) (λq hq=>(pb e h1).c q hq) t
  ·rw[h2];exact bL _
 ·rw[BJ h.gd]
  rcases Su.wR (D:=l) (o:=o)with⟨e,h1,_,h3⟩|⟨_,h2⟩
  ·rw[h3];have:∀q∈e.2,q.1≠t:=λq hq z=>by have:=(pb e h1).p q hq;rw[z]at this;lia
   clear h3;revert this;generalize e.2=p0;intro this
   induction p0 with
   | nil=>rfl
   | cons q p ih=>
    have z:=this q (aM ..);have i:=ih λx hx=>this x (aN _ hx);show(if q.1=t then q.2 else 0)+cf p t=0;rw[aJ z,i];rfl
  ·rw[h2];rfl
theorem PB.times{P c:Nat}{p q:Pl}(hp:PB P C p)(hq:PB Q c q):(times p q).length<=2 * (P+Q)+1:=by
 refine ON (c:=p.length * q.length * (C * c)) (Po.tX p q) ⟨λx hx=>?_,λx hx=>?_⟩
 ·have a:=Su.Ok.IF (Po.tX p q) hx;rw[Su.yf]at a;rw[<- a,<- Po.yF];have:∀l:Pl,Bd (C * c) l->(cf l x.1).natAbs<=l.length * (C * c):=λl=>by
   induction l with
   | nil=>exact λ_=>bL _
   | cons y l ih=>
    intro hb;have i:=ih λz hz=>hb z (aN _ hz);have j:=hb y (aM ..);show((if y.1=x.1 then y.2 else 0)+cf l x.1).natAbs<=(l.length+1) * (C * c);rw[dS];split<;>omega
  exact this _ (Bd.C6 (λz hz=>hp.c z hz) λz hz=>hq.c z hz)
 ·refine iB λz=>(Po.tX p q).nz x hx ?_;rw[<- Su.Ok.IF (Po.tX p q) hx,Su.yf];have:∀l:Pl,(∀y∈l,y.1.natAbs<=P+Q)->cf l x.1=0:=λl=>by
   induction l with
   | nil=>exact λ_=>rfl
   | cons y l ih=>
    intro hb;have i:=ih λz hz=>hb z (aN _ hz);have j:=hb y (aM ..);show(if y.1=x.1 then y.2 else 0)+cf l x.1=0;rw[i,aJ (λw=>by rw[w]at j;omega)];rfl
  refine this _ λy hy=>?_;unfold C6 at hy;obtain⟨u,hu,hy⟩:=fP.mp hy;obtain⟨v,hv,rfl⟩:=bu.mp hy;have:=hp.p u hu;have:=hq.p v hv
  skip
  omega
def Vd{o:ag}:((j8 1 (o.length:Int)).filter λk=>decide (o.getD (k-1).toNat 0>o.getD k.toNat 0)).head?=(ff o).map λk:Nat=>(k:Int):=by
 rw[List.head?_filter];unfold j8 ff;rw[ig,show((o.length:Int)-1).toNat=o.length-1 by lia,f_];have:((λk:Int=>decide (o.getD (k-1).toNat 0>o.getD k.toNat 0)) ∘ λk:Nat=>(1:Int)+(k:Int))=λi:Nat=>nR o (i+1):=by
  funext i
  show decide (o.getD ((1:Int)+(i:Int)-1).toNat 0>o.getD ((1:Int)+(i:Int)).toNat 0)=decide _;rw[show((1:Int)+(i:Int)-1).toNat=i+1-1 by lia,show((1:Int)+(i:Int)).toNat=i+1 by lia]
 rw[this];congr 1
 funext i
 show(1:Int)+(i:Int)=((i+1:Nat):Int)
 lia
end He
namespace He
open PySem L2 Am Po
open Fw (Two rg G9)
open Su (nR Ps cS Gd vS toS adds bx)
theorem Sz.Gw{n:Nat}:∀{w:am}{P C:Nat}{l:Ps},Sz n P C l->Va n w->Sz n (P+w.length) (3 ^ w.length * C) (Gw w l)
 | [],P,C,l,h,_=>by
  show Sz n (P+0) (1 * C) l;rw[add_zero,gO];exact h
 | k::w,P,C,l,h,v=>by
  have v1:=v k (aM ..);have:=Sz.Gw (h.bx v1.1 v1.2) (w:=w) λj hj=>v j (aN _ hj);show Sz n (P+(w.length+1)) (3 ^ (w.length+1) * C) (He.Gw w (Su.bx k l));rw[show P+(w.length+1)=P+1+w.length by lia,Nat.pow_succ,Nat.mul_assoc];exact this
theorem V9{n:Nat}:∀{w:am}{l:Ps},(∀x∈l,x.1.Perm (rg n))->Va n w->oS n (cS (Gw w l)) (Xw w (cS l))
 | [],l,_,_=>.refl
 | k::w,l,h,v=>by
  have v1:=v k (aM ..);have v2:Va n w:=λj hj=>v j (aN _ hj);exact(V9 (w:=w) (KP v1.1 v1.2 h) v2).trans (Cz v2 (Wy h v1.1 v1.2))
def RA{n:Nat}{l ds:Ps}{e:ag×Pl}{w:am}(pl:∀x∈l,x.1.Perm (rg n))(pd:∀x∈ds,x.1.Perm (rg n))(pe:e.1.Perm (rg n))(hd:oS n (cS ds) (R n ms (cS l)))(hw:Wd.j0 (rg n) w)(ew:Wd.led (rg n) w=e.1) :
  Cn (toS (adds [] (ds++MO e.2 (Gw w l))))/\(∀x∈toS (adds [] (ds++MO e.2 (Gw w l))),x.1.Perm (rg n))/\oS n (cS (toS (adds [] (ds++MO e.2 (Gw w l))))) (R n (ms++[e]) (cS l)):=by
 have va:Va n w:=λk hk=>by have:=Wd.j0.valid hw k hk;rwa [Wd.jO]at this
 refine⟨.toS (Gd.nil.adds _),Su.A3 (P:=λo=>o.Perm (rg n)) (Su.zI (P:=λo=>o.Perm (rg n)) _ (nofun) λx hx=>?_),λo p t=>?_⟩
 ·rcases bH.mp hx with z|z
  ·exact pd x z
  ·obtain⟨y,hy,rfl⟩:=bu.mp z;exact Ox va pl y hy
 ·rw[Jv,Su.D4,Pc,Zc,hd o p t];show _+cv e.2 (cS (Gw w l) o) t=_+(cv e.2 (Xw (sw n e.1) (cS l) o) t+0);rw[dz];congr 1;obtain⟨a1,a2⟩:=wK pe;exact xM e.2 ((V9 pl va).trans (EF hw a1 (ew.trans a2.symm) pl)) o p t
def ex_map(f:Int->Int){o:ag}{k:Nat}(h0:1<=k)(h1:k<o.length):Wd.ex (o.map f) k=(Wd.ex o k).map f:=by
 apply cL;intro p;rw[Wd.oN h0 (by rw[aH];exact h1),aO,aO,aO,aO,Wd.oN h0 h1];split
 ·rfl
 ·split<;>rfl
theorem yo(f:Int->Int):∀{w:am}{o:ag},(∀k∈w,1<=k/\k<o.length)->Wd.led (o.map f) w=(Wd.led o w).map f
 | [],_,_=>rfl
 | k::w,o,v=>by
  have v1:=v k (aM ..);show Wd.led (Wd.ex (o.map f) k) w=(Wd.led (Wd.ex o k) w).map f;rw[ex_map f v1.1 v1.2];exact yo f λj hj=>by rw[Wd.mq];exact v j (aN _ hj)
theorem Od{n:Nat}:∀{w:am}{l:ag},l.Perm (rg n)->Va n w->Iv.inv (Wd.led l w)<=Iv.inv l+w.length/\(Iv.inv (Wd.led l w)=Iv.inv l+w.length->Wd.j0 l w)
 | [],l,_,_=>⟨aR _,λ_=>trivial⟩
 | k::w,l,p,v=>by
  have v1:=v k (aM ..);have ll:l.length=n:=by rw[p.length_eq,Wd.jO]
  obtain⟨i1,i2⟩:=Od (w:=w) (qp p v1.1 v1.2) λj hj=>v j (aN _ hj);have i1:Iv.inv (Wd.led l (k::w))<=Iv.inv (Wd.ex l k)+w.length:=i1;have i2:Iv.inv (Wd.led l (k::w))=Iv.inv (Wd.ex l k)+w.length->Wd.j0 (Wd.ex l k) w:=i2;rw[bq]
  rcases Nat.lt_or_ge 0 0 with z|_
  ·lia
  ·by_cases c:l.getD (k-1) 0<l.getD k 0
   ·have u:=Fw.HQ v1.1 () c;exact⟨(),λh=>⟨v1.1,(),c,i2 ()⟩⟩
   ·have ne:=nb p v1.1 v1.2;have u:=Fw.sq v1.1 () (show l.getD k 0<l.getD (k-1) 0 by lia);exact⟨(),λh=>absurd h ()⟩
def PL{n:Nat}{a b:ag}(pa:a.Perm (rg n))(pb:b.Perm (rg n)):Wd.led a (sw n b)=b.map λt=>a.getD (t-1).toNat 0:=by
 have la:a.length=n:=by rw[pa.length_eq,Wd.jO]
 have va:=zL pb;have plain:(rg n).map (λt=>a.getD (t-1).toNat 0)=a:=by
  apply cL;intro p;rw[aO];by_cases c:p<n
  ·rw[Wd.qv c,c7,show((p:Int)+1-1).toNat=p by lia,aF (),aI,aF ()];rfl
  ·rw[bQ (by rw[Wd.jO];lia),bQ ()];rfl
 have:=yo (λt=>a.getD (t-1).toNat 0) (w:=sw n b) (o:=rg n) λk hk=>by rw[Wd.jO];exact va k hk
 rwa [plain,(wK pb).2]at this
theorem Zo{n:Nat}:∀{w:am}{l:ag},l.Perm (rg n)->Va n w->(Wd.led l w).Perm (rg n)
 | [],_,p,_=>p
 | k::w,l,p,v=>Zo (w:=w) (qp p (v k (aM ..)).1 (v k (aM ..)).2) λj hj=>v j (aN _ hj)
def Ru{n:Nat}{a b:ag}(pa:a.Perm (rg n))(pb:b.Perm (rg n)):(b.map λt=>a.getD (t-1).toNat 0).Perm (rg n):=by
 rw[<- PL pa pb];exact Zo pa (zL pb)
def WR{n:Nat}{a b:ag}(pa:a.Perm (rg n))(pb:b.Perm (rg n))(h:Iv.inv (b.map λt=>a.getD (t-1).toNat 0)=Iv.inv a+Iv.inv b):prod [(a,[((0:Int),(1:Int))])] [(b,[((0:Int),(1:Int))])]=[(b.map λt=>a.getD (t-1).toNat 0,[((0:Int),(1:Int))])]:=by
 have va:=zL pb;have el:=PL pa pb;have ri:=(Od pa va).2 (by rw[el,h,DK pb]);have pab:=Ru pa pb;have c1:=xy a xE (by simp);have c2:=xy b xE (by simp);have m1:∀x∈[(a,[((0:Int),(1:Int))])],x.1.Perm (rg n):=λx hx=>by rw[aS.mp hx];exact pa
 have m2:∀x∈[(b,[((0:Int),(1:Int))])],x.1.Perm (rg n):=λx hx=>by rw[aS.mp hx];exact pb
 obtain⟨q1,q2,q3⟩:=pD c1 c2 m1 m2;have cD:∀o:ag,cS [(o,[((0:Int),(1:Int))])]=D o d0:=λo=>by
  have z:cS [(o,[((0:Int),(1:Int))])]=add (D o (cf [((0:Int),(1:Int))])) (λ_ _=>0):=Af _ _;rw[z]
  funext u s
  show D o (cf [((0:Int),(1:Int))]) u s+0=_;rw[dz];unfold D;split
  ·rw[<- Wb,IK]
  ·rfl
 refine EY q1 (xy _ xE (by simp)) q2 (λx hx=>by rw[aS.mp hx];exact pab) (q3.trans λo p t=>?_);show cv [((0:Int),(1:Int))] (Xw (sw n b) (cS [(a,[((0:Int),(1:Int))])]) o) t+0=_;rw[IK,dz,cD,cD,<- el];exact TR pa ri o p t
end He
namespace K28
open PySem L2 Am
abbrev top (i:Nat):aE:=PySem.Challenge.pw_undercells_k28_products_by_any_word.main.body.getD i (.Pass ⟨0,0,0,0⟩)
meta abbrev xh:aE:=top 5
meta abbrev xG:ar:=["thing"]
meta abbrev w6:ar:=["thing"]
abbrev xB:Sm:=
 kF (NL (jR (f2 BB) (jo (jt 0) (jo (eC (.ty "int")) jy))) (X_ (jR (f2 BB) (jo (jt 0) (jo (eC (.ty "bool")) jy)))))
abbrev qK:ae->jz->R A:=kQ xG xB
meta abbrev vB:aE:=top 6
meta abbrev r_:ar:=["one", "other"]
meta abbrev se:ar:=["one", "other"]
abbrev rQ:Sm:=
 zH (uG (jA (t8 true) (jR (f1 nV) (jo (jt 0) jy)) (jR (f1 nV) (jo (jt 1) jy))))
 (sNo)
 pN
abbrev lO:ae->jz->R A:=kQ r_ rQ
meta abbrev Ef:aE:=top 7
meta abbrev Dp:ar:=["one", "other"]
meta abbrev Dk:ar:=["one", "other"]
abbrev E3:Sm:=
 jU (oW (eFn lO (jo (jt 0) (jo (jt 1) jy))))
 (kF (jR (f1 vF) (jo (j6 [none,some 0] (lg (jt 1)) (j4 0) oV (jA mJ (jt 1) (jA aSub (jt 0) (eC (.int 1))))) jy)))
abbrev yH:ae->jz->R A:=kQ Dp E3
meta abbrev HN:aE:=top 8
meta abbrev Iz:ar:=["order", "places", "at", "thing"]
meta abbrev Hs:ar:=["order"]
abbrev Qc:Ic:=
 Tf (jt 0)
abbrev Gk:Sm:=
 j5 (jA kj (jt 2) (eC (.int 1))) (Wt (jt 1) (jA aSub (jt 3) (eC (.int 1))))
abbrev HS:Sm:=
 jU (j5 (jA Ew (mQ (jo (eC (.int 0)) jy)) (jR (f1 nV) (jo (jt 0) jy))) (j4 1))
 (jU (lC Qc (xm 2 (ow (j4 2) (ow (j4 3) wV)))
 Gk)
 (kF (jR (f1 vF) (jo (jt 1) jy))))
abbrev yZ:ae->jz->R A:=kQ Iz HS
meta abbrev sV:aE:=top 9
meta abbrev sX:ar:=["n", "thing"]
meta abbrev sJ:ar:=["n", "thing"]
abbrev tD:Sm:=
 kF (NL (eFn qK (jo (jt 1) jy)) (Y0 aLe Wz (eC (.int 1)) (jt 1) (jt 0)))
abbrev nB:ae->jz->R A:=kQ sX tD
meta abbrev nS:aE:=top 10
meta abbrev n9:ar:=["order", "i", "j", "things"]
meta abbrev nX:ar:=["order", "i", "j"]
abbrev n5:Sm:=
 jU (j5 (jR (f1 wQ) (jo (jt 0) jy)) (j4 3))
 (jU (j5 (kO (jo (jA mJ (jt 3) (jA aSub (jt 2) (eC (.int 1)))) (jo (jA mJ (jt 3) (jA aSub (jt 1) (eC (.int 1)))) jy))) (xm 2 (ow (Wt (jt 3) (jA aSub (jt 1) (eC (.int 1)))) (ow (Wt (jt 3) (jA aSub (jt 2) (eC (.int 1)))) wV))))
 (kF (jR (f1 vF) (jo (jt 3) jy))))
abbrev lB:ae->jz->R A:=kQ n9 n5
meta abbrev vO:aE:=top 11
meta abbrev vf:ar:=["order", "k"]
meta abbrev pW:ar:=["order", "k"]
abbrev vq:Sm:=
 jU (zH (zE (uf (eFn nB (jo (jR (f1 nV) (jo (jt 0) jy)) (jo (jt 1) jy)))))
 (sNo)
 pN)
 (kF (eFn lB (jo (jt 0) (jo (jt 1) (jo (jA kj (jt 1) (eC (.int 1))) jy)))))
abbrev l9:ae->jz->R A:=kQ vf vq
meta abbrev sG:aE:=top 12
meta abbrev tK:ar:=["n"]
meta abbrev sA:ar:=["n"]
abbrev sY:Sm:=
 kF (ID [none,none,some 0] (qt (eC (.int 1)) (jt 0)) (j4 0) oV (qt (jA kj (jt 0) (eC (.int 1))) (jA kj (jt 2) (eC (.int 1)))) (j4 1) oV (kO (jo (jt 0) (jo (jt 1) jy))))
abbrev mH:ae->jz->R A:=kQ tK sY
meta abbrev sC:aE:=top 13
meta abbrev sj:ar:=["order"]
meta abbrev sH:ar:=["order"]
abbrev s_:Sm:=
 kF (j6 [none,none,some 0] (lg (eFn mH (jo (jR (f1 nV) (jo (jt 0) jy)) jy))) (xm 2 (ow (j4 0) (ow (j4 1) wV))) (uG (jA Hx (jA mJ (jt 2) (jA aSub (jt 0) (eC (.int 1)))) (jA mJ (jt 2) (jA aSub (jt 1) (eC (.int 1)))))) (kO (jo (jt 0) (jo (jt 1) jy))))
abbrev nG:ae->jz->R A:=kQ sj s_
meta abbrev BK:aE:=top 14
meta abbrev BV:ar:=["order"]
meta abbrev Bs:ar:=["order"]
abbrev BF:Sm:=
 kF (jR (f1 nV) (jo (eFn nG (jo (jt 0) jy)) jy))
abbrev pV:ae->jz->R A:=kQ BV BF
meta abbrev E5:aE:=top 15
meta abbrev ER:ar:=["order"]
meta abbrev yt:ar:=["order"]
abbrev Dl:Sm:=
 kF (j6 [none,some 0] (qt (eC (.int 1)) (jR (f1 nV) (jo (jt 0) jy))) (j4 0) (uG (jA Hx (jA mJ (jt 1) (jA aSub (jt 0) (eC (.int 1)))) (jA mJ (jt 1) (jt 0)))) (jt 0))
abbrev rY:ae->jz->R A:=kQ ER Dl
meta abbrev qh:aE:=top 17
meta abbrev qa:ar:=["numbers"]
meta abbrev nM:ar:=["numbers"]
abbrev qj:Sm:=
 kF (j6 [none,some 0] (lg (jR (f1 zf) (jo (jt 0) jy))) (j4 0) (uG (jA (t8 true) (jA zu (jt 1) (jt 0)) (eC (.int 0)))) (kO (jo (jt 0) (jo (jA zu (jt 1) (jt 0)) jy))))
abbrev kL:ae->jz->R A:=kQ qa qj
meta abbrev Ie:aE:=top 18
meta abbrev Hi:ar:=["one", "other", "numbers", "power", "number"]
meta abbrev HH:ar:=["one", "other"]
abbrev yv:Ic:=
 lg (jt 1)
abbrev GO:Sm:=
 j5 (jA kj (FD wI (jt 2) (jo (jt 3) (jo (eC (.int 0)) jy))) (jt 4)) (Fl (jt 2) (jt 3))
abbrev HP:Sm:=
 jU (j5 (jR (f1 Hw) (jo (jt 0) jy)) (j4 2))
 (jU (lC yv (xm 2 (ow (j4 3) (ow (j4 4) wV)))
 GO)
 (kF (eFn kL (jo (jt 2) jy))))
abbrev Br:ae->jz->R A:=kQ Hi HP
meta abbrev DB:aE:=top 19
meta abbrev EZ:ar:=["one", "other", "numbers", "power", "number", "high", "many"]
meta abbrev z9:ar:=["one", "other"]
abbrev L6:Ic:=
 lg (jt 1)
abbrev LR:Sm:=
 j5 (jA kj (FD wI (jt 2) (jo (jA kj (jt 3) (jt 5)) (jo (eC (.int 0)) jy))) (jA F4 (jt 4) (jt 6))) (Fl (jt 2) (jA kj (jt 3) (jt 5)))
abbrev CB:Ic:=
 lg (jt 0)
abbrev CZ:Sm:=
 lC L6 (xm 2 (ow (j4 5) (ow (j4 6) wV)))
 LR
abbrev Em:Sm:=
 jU (j5 BQ (j4 2))
 (jU (lC CB (xm 2 (ow (j4 3) (ow (j4 4) wV)))
 CZ)
 (kF (eFn kL (jo (jt 2) jy))))
abbrev qx:ae->jz->R A:=kQ EZ Em
meta abbrev uK:aE:=top 22
meta abbrev ug:ar:=["found", "order", "poly"]
meta abbrev qw:ar:=["found", "order", "poly"]
abbrev uw:Sm:=
 j5 (eFn Br (jo (Uc Tc (jt 0) (jo (jt 1) (jo (mQ jy) jy))) (jo (jt 2) jy))) (FF (jt 0) (jt 1))
abbrev kW:ae->jz->R A:=kQ ug uw
meta abbrev BI:aE:=top 23
meta abbrev B_:ar:=["found"]
meta abbrev xJ:ar:=["found"]
abbrev Bk:Sm:=
 kF (j6 [none,some 0] (lg (jR (f1 uV) (jo (jt 0) jy))) (j4 0) (uf (jA wC (jt 1) (jt 0))) (kO (jo (jt 0) (jo (jA wC (jt 1) (jt 0)) jy))))
abbrev rj:ae->jz->R A:=kQ B_ Bk
meta abbrev vD:aE:=top 24
meta abbrev vE:ar:=["one", "other"]
meta abbrev vp:ar:=["one", "other"]
abbrev uZ:Sm:=
 zH (TU (uf (jt 0)) (uf (jt 1)))
 (oW (eFn lO (jo (jA mJ (jA mJ (jt 0) (eC (.int 0))) (eC (.int 0))) (jo (jA mJ (jA mJ (jt 1) (eC (.int 0))) (eC (.int 0))) jy))))
 pN
abbrev pZ:ae->jz->R A:=kQ vE uZ
meta abbrev sL:aE:=top 25
meta abbrev tF:ar:=["one", "k", "found", "order", "poly"]
meta abbrev pB:ar:=["one", "k"]
abbrev nP:Ic:=
 lg (jt 0)
abbrev mG:Sm:=
 jU (oW (eFn kW (jo (jt 2) (jo (eFn l9 (jo (jt 3) (jo (jt 1) jy))) (jo (jt 4) jy)))))
 (zH (uG (jA (aIn false) (jt 1) (eFn rY (jo (jt 3) jy))))
 (oW (eFn kW (jo (jt 2) (jo (jt 3) (jo (eFn qx (jo (jR (f1 wQ) (jo (eC (.frz ([((-1:Int),(1:Int)),((1:Int),(-1:Int))].map kA))) jy)) (jo (jt 4) jy))) jy)))))
 pN)
abbrev sD:Sm:=
 jU (j5 zQ (j4 2))
 (jU (lC nP (xm 2 (ow (j4 3) (ow (j4 4) wV)))
 mG)
 (kF (eFn rj (jo (jt 2) jy))))
abbrev mK:ae->jz->R A:=kQ tF sD
meta abbrev uv:aE:=top 26
meta abbrev qG:ar:=["one", "order", "known", "ends", "ahead"]
meta abbrev o5:ar:=["one", "order", "known"]
abbrev qO (Fs:ae->jz->R A):Sm:=
 jU (zH (uG (jA (TX true) (jt 1) (jt 2)))
 (jU (j5 (eFn rY (jo (jt 1) jy)) (j4 3))
 (zH (uf (jt 3))
 (jU (j5 (eFn Fs (jo (jt 0) (jo (eFn l9 (jo (jt 1) (jo (jA mJ (jt 3) (eC (.int 0))) jy))) (jo (jt 2) jy)))) (j4 4))
 (j5 (eFn mK (jo (jt 4) (jo (jA mJ (jt 3) (eC (.int 0))) jy))) (FF (jt 2) (jt 1))))
 (j5 (jt 0) (FF (jt 2) (jt 1)))))
 pN)
 (kF (jA wC (jt 2) (jt 1)))
abbrev pU:Nat->ae->jz->R A
 | 0=>λ_ _=>.no
 | k+1=>kQ qG (qO (pU k))
abbrev xr:ae->jz->R A:=pU 26
meta abbrev u7:aE:=top 27
meta abbrev vJ:ar:=["one", "other", "found", "known", "order", "poly", "at", "many"]
meta abbrev uX:ar:=["one", "other"]
abbrev sR:Ic:=
 lg (eFn xr (jo (jt 0) (jo (jt 4) (jo (jt 3) jy))))
abbrev sE:Sm:=
 oW (eFn kW (jo (jt 2) (jo (jt 6) (jo (eFn qx (jo (jt 5) (jo (jt 7) jy))) jy))))
abbrev pH:Ic:=
 lg (jt 1)
abbrev pM:Sm:=
 lC sR (xm 2 (ow (j4 6) (ow (j4 7) wV)))
 sE
abbrev vj:Sm:=
 jU (j5 zQ (j4 2))
 (jU (j5 zQ (j4 3))
 (jU (lC pH (xm 2 (ow (j4 4) (ow (j4 5) wV)))
 pM)
 (kF (eFn rj (jo (jt 2) jy)))))
abbrev om:ae->jz->R A:=kQ vJ vj
meta abbrev uA:aE:=top 28
meta abbrev uL:ar:=["one"]
meta abbrev uC:ar:=["one"]
abbrev uE:Sm:=
 kF (jR (f1 Ed) (jo (j6 [none,none] (lg (jt 0)) (xm 2 (ow (j4 0) (ow (j4 1) wV))) oV (kO (jo (eFn yZ (jo (jt 0) jy)) (jo (jt 1) jy)))) jy))
abbrev mD:ae->jz->R A:=kQ uL uE
meta abbrev yP:aE:=top 29
meta abbrev wk:ar:=["one", "other"]
meta abbrev vV:ar:=["one", "other"]
abbrev vW:Sm:=
 jU (oW (eFn pZ (jo (jt 0) (jo (jt 1) jy))))
 (jU (zH (uG (jA ZX (jR (f1 nV) (jo (jt 0) jy)) (jR (f1 nV) (jo (jt 1) jy))))
 (kF (eFn om (jo (jt 0) (jo (jt 1) jy))))
 pN)
 (kF (eFn mD (jo (eFn om (jo (eFn mD (jo (jt 1) jy)) (jo (eFn mD (jo (jt 0) jy)) jy))) jy))))
abbrev ng:ae->jz->R A:=kQ wk vW
meta abbrev yX:aE:=top 31
meta abbrev yL:ar:=["_law_script", "_law_at", "_law_cell", "_law_great"]
meta abbrev zv:ar:=["_law_script", "_law_at"]
abbrev zg:Sm:=
 jU (j5 (eC (.int 0)) (j4 2))
 (jU (zH (uG (jA Wz (jt 1) (jR (f1 nV) (jo (jt 0) jy))))
 (j5 (jA mJ (jt 0) (jt 1)) (j4 2))
 pN)
 (jU (j5 (eC (.int 0)) (j4 3))
 (jU (zH (uG (jA ZX (jt 2) (jA Iu (eC (.int 10)) (eC (.int 18)))))
 (j5 (jt 2) (j4 3))
 pN)
 (kF (mQ (jo (jt 3) (jo (jA Er (jA kj (jA kj (jt 2) (jA Ew (eC (.int 7919)) (jt 1))) (eC (.int 13))) (eC (.int 2147483647))) jy)))))))
abbrev ud:ae->jz->R A:=kQ yL zg
meta abbrev vC:aE:=top 32
meta abbrev rT:ar:=["_law_bag_here", "_law_many", "_law_found"]
meta abbrev oq:ar:=["_law_bag_here", "_law_many"]
abbrev rK:Sm:=
 jU (zH (uG (jA Hx (jA mJ (jt 0) (eC (.int 0))) (eC (.int 0))))
 (jU (j5 (jA Er (jA mJ (jt 0) (eC (.int 0))) (jt 1)) (j4 2))
 (jU (j5 (jA I_ (jA mJ (jt 0) (eC (.int 0))) (jt 1)) (Wt (jt 0) (eC (.int 0))))
 (kF (jt 2))))
 pN)
 (jU (j5 (jA Er (jA kj (jA Ew (jA mJ (jt 0) (eC (.int 1))) (eC (.int 48271))) (eC (.int 11))) (eC (.int 2147483647))) (Wt (jt 0) (eC (.int 1))))
 (kF (jA Er (jA Er (jA Ew (jA I_ (jA mJ (jt 0) (eC (.int 1))) (eC (.int 8))) (eC (.int 69621))) (eC (.int 2147483629))) (jt 1))))
abbrev jM:ae->jz->R A:=kQ rT rK
meta abbrev qJ:aE:=top 33
meta abbrev qS:ar:=["_law_held"]
meta abbrev oO:ar:=["_law_held"]
abbrev rD:Sm:=
 kF (j6 [none,some 0] (lg (jR (f1 zf) (jo (jt 0) jy))) (j4 0) (uG (jA (t8 true) (jA zu (jt 1) (jt 0)) (eC (.int 0)))) (kO (jo (jt 0) (jo (jA zu (jt 1) (jt 0)) jy))))
abbrev lA:ae->jz->R A:=kQ qS rD
meta abbrev qZ:aE:=top 34
meta abbrev qT:ar:=["_law_one", "_law_other", "_law_held", "_law_power", "_law_number"]
meta abbrev qY:ar:=["_law_one", "_law_other"]
abbrev ni:Ic:=
 lg (jA kj (jt 0) (jt 1))
abbrev tW:Sm:=
 j5 (jA kj (FD wI (jt 2) (jo (jt 3) (jo (eC (.int 0)) jy))) (jt 4)) (Fl (jt 2) (jt 3))
abbrev qN:Sm:=
 jU (j5 BQ (j4 2))
 (jU (lC ni (xm 2 (ow (j4 3) (ow (j4 4) wV)))
 tW)
 (kF (eFn lA (jo (jt 2) jy))))
abbrev mY:ae->jz->R A:=kQ qT qN
meta abbrev qk:aE:=top 35
meta abbrev qe:ar:=["_law_one", "_law_other", "_law_held", "_law_power", "_law_number", "_law_more", "_law_many"]
meta abbrev nK:ar:=["_law_one", "_law_other"]
abbrev xS:Ic:=
 lg (jt 1)
abbrev yd:Sm:=
 j5 (jA kj (FD wI (jt 2) (jo (jA kj (jt 3) (jt 5)) (jo (eC (.int 0)) jy))) (jA F4 (jt 4) (jt 6))) (Fl (jt 2) (jA kj (jt 3) (jt 5)))
abbrev r8:Ic:=
 lg (jt 0)
abbrev rO:Sm:=
 lC xS (xm 2 (ow (j4 5) (ow (j4 6) wV)))
 yd
abbrev qg:Sm:=
 jU (j5 BQ (j4 2))
 (jU (lC r8 (xm 2 (ow (j4 3) (ow (j4 4) wV)))
 rO)
 (kF (eFn lA (jo (jt 2) jy))))
abbrev ko:ae->jz->R A:=kQ qe qg
meta abbrev vN:aE:=top 36
meta abbrev vK:ar:=["_law_bag_here", "_law_n", "_law_left", "_law_made"]
meta abbrev vm:ar:=["_law_bag_here", "_law_n"]
abbrev sS:Te:=
 uG (jA Hx (jR (f1 nV) (jo (jt 2) jy)) (eC (.int 0)))
abbrev tu:Sm:=
 oW (V7 um (jt 3) (jo (V7 Ig (jt 2) (jo (eFn jM (jo (jt 0) (jo (jR (f1 nV) (jo (jt 2) jy)) jy))) jy)) jy))
abbrev vn:Sm:=
 jU (j5 (jR (f1 wQ) (jo (jR (f2 DQ) (jo (eC (.int 1)) (jo (jA kj (jt 1) (eC (.int 1))) jy))) jy)) (j4 2))
 (jU (j5 (mQ jy) (j4 3))
 (jU (nY sS
 tu 1000000)
 (kF (jR (f1 vF) (jo (jt 3) jy)))))
abbrev pS:ae->jz->R A:=kQ vK vn
meta abbrev qi:aE:=top 37
meta abbrev p7:ar:=["_law_bag_here", "_law_n", "_law_most", "_law_held", "_law_k", "_law_one", "_law_power", "_law_own", "_law_shift"]
meta abbrev qo:ar:=["_law_bag_here", "_law_n", "_law_most"]
abbrev rW:Ic:=
 t6 (jA kj (eC (.int 1)) (eFn jM (jo (jt 0) (jo (jt 2) jy))))
abbrev rJ:Sm:=
 jU (j5 (eFn pS (jo (jt 0) (jo (jt 1) jy))) (j4 5))
 (jU (j5 (jA aSub (eFn jM (jo (jt 0) (jo (eC (.int 5)) jy))) (eC (.int 2))) (j4 6))
 (jU (j5 (mQ (jo (kO (jo (jt 6) (jo (jA kj (eC (.int 1)) (eFn jM (jo (jt 0) (jo (eC (.int 3)) jy)))) jy))) jy)) (j4 7))
 (jU (zH (uG (jA (t8 false) (eFn jM (jo (jt 0) (jo (eC (.int 2)) jy))) (eC (.int 1))))
 (oW (V7 um (jt 7) (jo (kO (jo (jA kj (jA kj (jt 6) (eC (.int 1))) (eFn jM (jo (jt 0) (jo (eC (.int 3)) jy)))) (jo (jA mJ (mQ (jo (Mq yN (eC (.int 2))) (jo (Mq yN (eC (.int 1))) (jo (eC (.int 1)) (jo (jA Iu (eC (.int 10)) (eC (.int 20))) jy))))) (eFn jM (jo (jt 0) (jo (eC (.int 4)) jy)))) jy))) jy)))
 pN)
 (jU (j5 (jA mJ (mQ (jo (eC (.int 0)) (jo (eC (.int 0)) (jo (eC (.int 55)) (jo (Mq yN (eC (.int 55))) jy))))) (eFn jM (jo (jt 0) (jo (eC (.int 4)) jy)))) (j4 8))
 (j5 (j6 [none,none,some 8] (lg (jt 7)) (xm 2 (ow (j4 0) (ow (j4 1) wV))) oV (kO (jo (jA kj (jt 0) (jt 2)) (jo (jt 1) jy)))) (FF (jt 3) (jt 5)))))))
abbrev p8:Sm:=
 jU (j5 zQ (j4 3))
 (jU (lC rW (j4 4)
 rJ)
 (kF (j6 [none,some 3] (lg (jR (f1 uV) (jo (jt 3) jy))) (j4 0) oV (kO (jo (jt 0) (jo (jA wC (jt 1) (jt 0)) jy))))))
abbrev lI:ae->jz->R A:=kQ p7 p8
meta abbrev sQ:aE:=top 38
meta abbrev sW:ar:=["_law_found", "_law_one", "_law_number"]
meta abbrev sF:ar:=["_law_found"]
abbrev uO:Ic:=
 lg (jt 1)
abbrev uQ:Sm:=
 zH (MX (zE (uf (jR (f2 BB) (jo (jt 2) (jo (eC (.ty "int")) jy))))) (uf (jR (f2 BB) (jo (jt 2) (jo (eC (.ty "bool")) jy)))))
 (kF (eC (.bl false)))
 pN
abbrev uN:Ic:=
 lg (jt 0)
abbrev uM:Sm:=
 jU (zH (MX (zE (uf (jR (f2 BB) (jo (jt 1) (jo (eC (.ty "tuple")) jy))))) (MX (uG (jA (t8 true) (jR (f1 nV) (jo (jt 1) jy)) (eC (.int 2)))) (uG (jA (t8 false) (jA mJ (jt 1) (eC (.int 1))) (eC (.int 0))))))
 (kF (eC (.bl false)))
 pN)
 (lC uO (j4 2)
 uQ)
abbrev tB:Sm:=
 jU (zH (zE (uf (jR (f2 BB) (jo (jt 0) (jo (eC (.ty "list")) jy)))))
 (kF (eC (.bl false)))
 pN)
 (jU (lC uN (j4 1)
 uM)
 (kF (jR (f1 Nd) (jo (j6 [none,some 0] (t6 (jA aSub (jR (f1 nV) (jo (jt 0) jy)) (eC (.int 1)))) (j4 0) oV (jA Wz (jA mJ (jA mJ (jt 1) (jt 0)) (eC (.int 0))) (jA mJ (jA mJ (jt 1) (jA kj (jt 0) (eC (.int 1)))) (eC (.int 0))))) jy))))
abbrev nH:ae->jz->R A:=kQ sW tB
meta abbrev uF:aE:=top 39
meta abbrev uJ:ar:=["_law_found", "_law_one"]
meta abbrev uy:ar:=["_law_found"]
abbrev vM:Ic:=
 lg (jt 0)
abbrev uW:Sm:=
 jU (zH (MX (zE (uf (jR (f2 BB) (jo (jt 1) (jo (eC (.ty "tuple")) jy))))) (MX (uG (jA (t8 true) (jR (f1 nV) (jo (jt 1) jy)) (eC (.int 2)))) (zE (uf (jR (f2 BB) (jo (jA mJ (jt 1) (eC (.int 0))) (jo (eC (.ty "tuple")) jy)))))))
 (kF (eC (.bl false)))
 pN)
 (zH (MX (zE (uf (eFn nH (jo (jA mJ (jt 1) (eC (.int 1))) jy)))) (uG (jA (t8 false) (jA mJ (jt 1) (eC (.int 1))) (mQ jy))))
 (kF (eC (.bl false)))
 pN)
abbrev ur:Sm:=
 jU (zH (zE (uf (jR (f2 BB) (jo (jt 0) (jo (eC (.ty "list")) jy)))))
 (kF (eC (.bl false)))
 pN)
 (jU (lC vM (j4 1)
 uW)
 (kF (eC (.bl true))))
abbrev oQ:ae->jz->R A:=kQ uJ ur
meta abbrev xD:aE:=top 40
meta abbrev wU:ar:=["_law_some"]
meta abbrev wX:ar:=["_law_some"]
abbrev xC:Sm:=
 kF (j6 [none,none] (lg (jt 0)) (xm 2 (ow (j4 0) (ow (j4 1) wV))) oV (kO (jo (jt 0) (jo (jR (f1 wQ) (jo (jt 1) jy)) jy))))
abbrev oZ:ae->jz->R A:=kQ wU xC
meta abbrev qd:aE:=top 41
meta abbrev qb:ar:=["_law_held", "_law_one", "_law_own", "_law_made"]
meta abbrev nJ:ar:=["_law_held", "_law_one", "_law_own"]
abbrev p9:Sm:=
 jU (j5 (eFn mY (jo (Uc Tc (jt 0) (jo (jt 1) (jo (mQ jy) jy))) (jo (jt 2) jy))) (j4 3))
 (j5 (jt 3) (FF (jt 0) (jt 1)))
abbrev kc:ae->jz->R A:=kQ qb p9
meta abbrev sf:aE:=top 42
meta abbrev tH:ar:=["_law_held"]
meta abbrev pJ:ar:=["_law_held"]
abbrev sI:Sm:=
 kF (j6 [none,some 0] (lg (jR (f1 uV) (jo (jt 0) jy))) (j4 0) (uG (jA (t8 true) (jA wC (jt 1) (jt 0)) (mQ jy))) (kO (jo (jt 0) (jo (jA wC (jt 1) (jt 0)) jy))))
abbrev lR:ae->jz->R A:=kQ tH sI
meta abbrev nQ:aE:=top 43
meta abbrev n_:ar:=["_law_some", "_law_k", "_law_held", "_law_one", "_law_own", "_law_other"]
meta abbrev n6:ar:=["_law_some", "_law_k"]
abbrev lN:Ic:=
 lg (jt 0)
abbrev kJ:Sm:=
 jU (j5 (jA kj (jA kj (YU (jt 3) Dg (C4 (jA aSub (jt 1) (eC (.int 1))))) (kO (jo (jA mJ (jt 3) (jt 1)) (jo (jA mJ (jt 3) (jA aSub (jt 1) (eC (.int 1)))) jy)))) (YU (jt 3) (C4 (jA kj (jt 1) (eC (.int 1)))) Dg)) (j4 5))
 (jU (oW (eFn kc (jo (jt 2) (jo (jt 5) (jo (jt 4) jy)))))
 (zH (uG (jA Hx (jA mJ (jt 3) (jA aSub (jt 1) (eC (.int 1)))) (jA mJ (jt 3) (jt 1))))
 (oW (eFn kc (jo (jt 2) (jo (jt 3) (jo (eFn ko (jo (mQ (jo (kO (jo (Mq yN (eC (.int 1))) (jo (eC (.int 1)) jy))) (jo (kO (jo (eC (.int 1)) (jo (Mq yN (eC (.int 1))) jy))) jy))) (jo (jt 4) jy))) jy)))))
 pN))
abbrev n8:Sm:=
 jU (j5 zQ (j4 2))
 (jU (lC lN (xm 2 (ow (j4 3) (ow (j4 4) wV)))
 kJ)
 (kF (eFn lR (jo (jt 2) jy))))
abbrev lD:ae->jz->R A:=kQ n_ n8
meta abbrev xF:aE:=top 44
meta abbrev wZ:ar:=["_law_bag_here", "_law_one", "_law_word_here", "_law_some", "_law_k"]
meta abbrev xx:ar:=["_law_bag_here", "_law_one"]
abbrev ux:Te:=
 uG (jA (t8 true) (jt 3) (mQ jy))
abbrev yq:Sm:=
 jU (j5 (jA mJ (jt 3) (eFn jM (jo (jt 0) (jo (jR (f1 nV) (jo (jt 3) jy)) jy)))) (j4 4))
 (jU (j5 (jA kj (mQ (jo (jt 4) jy)) (jt 2)) (j4 2))
 (jU (j5 (jA kj (jA kj (YU (jt 1) Dg (C4 (jA aSub (jt 4) (eC (.int 1))))) (kO (jo (jA mJ (jt 1) (jt 4)) (jo (jA mJ (jt 1) (jA aSub (jt 4) (eC (.int 1)))) jy)))) (YU (jt 1) (C4 (jA kj (jt 4) (eC (.int 1)))) Dg)) (j4 1))
 (j5 (j6 [none,some 1] (qt (eC (.int 1)) (jR (f1 nV) (jo (jt 1) jy))) (j4 0) (uG (jA Hx (jA mJ (jt 1) (jA aSub (jt 0) (eC (.int 1)))) (jA mJ (jt 1) (jt 0)))) (jt 0)) (j4 3))))
abbrev wW:Sm:=
 jU (j5 (mQ jy) (j4 2))
 (jU (j5 (j6 [none,some 1] (qt (eC (.int 1)) (jR (f1 nV) (jo (jt 1) jy))) (j4 0) (uG (jA Hx (jA mJ (jt 1) (jA aSub (jt 0) (eC (.int 1)))) (jA mJ (jt 1) (jt 0)))) (jt 0)) (j4 3))
 (jU (nY ux
 yq 1000000)
 (kF (jt 2))))
abbrev qW:ae->jz->R A:=kQ wZ wW
meta abbrev qX:aE:=top 45
meta abbrev rB:ar:=["_law_some", "_law_word_here", "_law_k"]
meta abbrev qU:ar:=["_law_some", "_law_word_here"]
abbrev t_:Ic:=
 lg (jt 1)
abbrev tR:Sm:=
 j5 (eFn lD (jo (jt 0) (jo (jt 2) jy))) (j4 0)
abbrev rf:Sm:=
 jU (lC t_ (j4 2)
 tR)
 (kF (jt 0))
abbrev mZ:ae->jz->R A:=kQ rB rf
meta abbrev oY:aE:=top 46
meta abbrev o7:ar:=["_law_own", "_law_some"]
meta abbrev o_:ar:=["_law_own", "_law_some"]
abbrev o6:Sm:=
 kF (j6 [none,none,some 0] (lg (jt 1)) (xm 2 (ow (j4 0) (ow (j4 1) wV))) oV (kO (jo (jt 0) (jo (eFn ko (jo (jt 2) (jo (jt 1) jy))) jy))))
abbrev lX:ae->jz->R A:=kQ o7 o6
meta abbrev qI:aE:=top 47
meta abbrev qH:ar:=["_law_one", "_law_other", "_law_held", "_law_some", "_law_own"]
meta abbrev rE:ar:=["_law_one", "_law_other"]
abbrev nk:Ic:=
 lg (jA kj (jt 0) (jt 1))
abbrev tP:Sm:=
 oW (eFn kc (jo (jt 2) (jo (jt 3) (jo (jt 4) jy))))
abbrev qD:Sm:=
 jU (j5 zQ (j4 2))
 (jU (lC nk (xm 2 (ow (j4 3) (ow (j4 4) wV)))
 tP)
 (kF (eFn lR (jo (jt 2) jy))))
abbrev mS:ae->jz->R A:=kQ qH qD
meta abbrev zx:aE:=top 48
meta abbrev zF:ar:=["_law_bag_here", "_law_one", "_law_other", "_law_due_here", "_law_some", "_law_own", "_law_made"]
meta abbrev zA:ar:=["_law_bag_here", "_law_one", "_law_other"]
abbrev zP:Ic:=
 lg (jt 2)
abbrev zN:Sm:=
 jU (j5 (eFn mZ (jo (jt 1) (jo (eFn qW (jo (jt 0) (jo (jt 4) jy))) jy))) (j4 6))
 (j5 (eFn mS (jo (jt 3) (jo (eFn lX (jo (jt 5) (jo (jt 6) jy))) jy))) (j4 3))
abbrev y_:Sm:=
 jU (j5 (mQ jy) (j4 3))
 (jU (lC zP (xm 2 (ow (j4 4) (ow (j4 5) wV)))
 zN)
 (kF (jt 3)))
abbrev tN:ae->jz->R A:=kQ zF y_
meta abbrev vt:aE:=top 49
meta abbrev u_:ar:=["_law_found", "_law_k"]
meta abbrev uU:ar:=["_law_found"]
abbrev wN:Ic:=
 t6 (jR (f1 nV) (jo (jt 0) jy))
abbrev wM:Sm:=
 oW (V7 um (jA mJ (jA mJ (jt 0) (jt 1)) (eC (.int 1))) (jo (kO (jo (jA kj (eC (.int 100)) (jt 1)) (jo (eC (.int 1)) jy))) jy))
abbrev vL:Sm:=
 jU (lC wN (j4 1)
 wM)
 (kF (jR (f1 Nd) (jo (j6 [none,some 0] (t6 (jR (f1 nV) (jo (jt 0) jy))) (j4 0) oV (jA (t8 false) (jA mJ (jA mJ (jA mJ (jt 1) (jt 0)) (eC (.int 1))) (Mq yN (eC (.int 1)))) (kO (jo (jA kj (eC (.int 100)) (jt 0)) (jo (eC (.int 1)) jy))))) jy)))
abbrev pX:ae->jz->R A:=kQ u_ vL
meta abbrev vz:aE:=top 50
meta abbrev vI:ar:=["_law_one", "_law_other", "_law_due_here", "_law_first", "_law_second", "_law_turn", "_law_found"]
meta abbrev uY:ar:=["_law_one", "_law_other", "_law_due_here"]
abbrev wH:Ic:=
 t6 (eC (.int 2))
abbrev wL:Sm:=
 jU (j5 (eFn ng (jo (jt 3) (jo (jt 4) jy))) (j4 6))
 (jU (zH (MX (zE (uf (eFn oQ (jo (jt 6) jy)))) (MX (uG (jA (t8 true) (jt 6) (jt 2))) (MX (uG (jA (t8 true) (jt 3) (jt 0))) (uG (jA (t8 true) (jt 4) (jt 1))))))
 (kF (eC (.bl false)))
 pN)
 (jU (zH (zE (uf (eFn pX (jo (jt 6) jy))))
 (kF (eC (.bl false)))
 pN)
 (oW (V7 um (jt 6) (jo (kO (jo (kO (jo (eC (.int 1)) jy)) (jo (mQ (jo (kO (jo (eC (.int 0)) (jo (eC (.int 1)) jy))) jy)) jy))) jy)))))
abbrev vg:Sm:=
 jU (j5 (eFn oZ (jo (jt 0) jy)) (j4 3))
 (jU (j5 (eFn oZ (jo (jt 1) jy)) (j4 4))
 (jU (lC wH (j4 5)
 wL)
 (kF (eC (.bl true)))))
abbrev pO:ae->jz->R A:=kQ vI vg
meta abbrev NI:aE:=top 51
meta abbrev NW:ar:=["_law_script", "_law_k", "_law_bag_here", "_law_n", "_law_most", "_law_one", "_law_other", "_law_first", "_law_second", "_law_both"]
meta abbrev We:ar:=["_law_script"]
abbrev Ll:Ic:=
 t6 (jR (f2 M3) (jo (eC (.int 1)) (jo (jR (f2 N4) (jo (jR (f1 nV) (jo (jt 0) jy)) (jo (eC (.int 3)) jy))) jy)))
abbrev Ku:Sm:=
 jU (j5 (eFn ud (jo (jt 0) (jo (jt 1) jy))) (j4 2))
 (jU (j5 (jA mJ (jA mJ (mQ (jo (mQ (jo (eC (.int 2)) (jo (eC (.int 3)) (jo (eC (.int 3)) (jo (eC (.int 4)) (jo (eC (.int 4)) (jo (eC (.int 4)) (jo (eC (.int 4)) (jo (eC (.int 5)) jy))))))))) (jo (mQ (jo (eC (.int 2)) (jo (eC (.int 3)) (jo (eC (.int 3)) (jo (eC (.int 4)) (jo (eC (.int 4)) (jo (eC (.int 3)) (jo (eC (.int 4)) (jo (eC (.int 4)) jy))))))))) jy))) (jR (f1 J5) (jo (jA Hx (jt 1) (eC (.int 0))) jy))) (eFn jM (jo (jt 2) (jo (eC (.int 8)) jy)))) (j4 3))
 (jU (j5 (jA mJ (mQ (jo (eC (.int 6)) (jo (eC (.int 6)) (jo (eC (.int 3)) (jo (eC (.int 1)) jy))))) (jA aSub (jt 3) (eC (.int 2)))) (j4 4))
 (jU (j5 (eFn lI (jo (jt 2) (jo (jt 3) (jo (jt 4) jy)))) (j4 5))
 (jU (j5 (eFn lI (jo (jt 2) (jo (jt 3) (jo (jt 4) jy)))) (j4 6))
 (jU (zH (zE (uf (eFn pO (jo (jt 5) (jo (jt 6) (jo (eFn tN (jo (jt 2) (jo (jt 5) (jo (jt 6) jy)))) jy))))))
 (kF (eC (.bl false)))
 pN)
 (jU (j5 (jA mJ (jA mJ (jt 5) (eC (.int 0))) (eC (.int 0))) (j4 7))
 (jU (j5 (jA mJ (jA mJ (jt 6) (eC (.int 0))) (eC (.int 0))) (j4 8))
 (jU (j5 (eFn yH (jo (jt 7) (jo (jt 8) jy))) (j4 9))
 (zH (uG (jA (t8 false) (eFn pV (jo (jt 9) jy)) (jA kj (eFn pV (jo (jt 7) jy)) (eFn pV (jo (jt 8) jy)))))
 (zH (uG (jA (t8 true) (eFn ng (jo (mQ (jo (kO (jo (jt 7) (jo (mQ (jo (kO (jo (eC (.int 0)) (jo (eC (.int 1)) jy))) jy)) jy))) jy)) (jo (mQ (jo (kO (jo (jt 8) (jo (mQ (jo (kO (jo (eC (.int 0)) (jo (eC (.int 1)) jy))) jy)) jy))) jy)) jy))) (mQ (jo (kO (jo (jt 9) (jo (mQ (jo (kO (jo (eC (.int 0)) (jo (eC (.int 1)) jy))) jy)) jy))) jy))))
 (kF (eC (.bl false)))
 pN)
 pN)))))))))
abbrev Qu:Sm:=
 jU (lC Ll (j4 1)
 Ku)
 (kF (jA (t8 false) (eFn ng (jo (mQ jy) (jo (mQ (jo (kO (jo (kO (jo (eC (.int 1)) (jo (eC (.int 2)) jy))) (jo (mQ (jo (kO (jo (eC (.int 0)) (jo (eC (.int 1)) jy))) jy)) jy))) jy)) jy))) (mQ jy)))
abbrev CC:ae->jz->R A:=kQ NW Qu
section
variable {P:aj}{w:ah}{K:au}{mg:Str->bi}{base:aq}{f:ak}{fd:FuncData}
def GP:FnScope xG w6 (jE xh):=sO rfl rfl rfl ∅
def Gn(F:Fun K "is_whole" "is_whole" xh f fd)(aaI:mg "isinstance" = none)(aaP:mg "bool" = none)(aaJ:mg "int" = none):FnOk P w K mg base oU 1 f fd w6 (pR K 1 qK):=sN (m:=xB) F GP λcdv B outer s H E hr=>
 jB (jQ (M8 (jK yC aaI kI (jq (jn 0) (jq (xO aaJ IE) jw))) (M0 (XS (jK yC aaI kI (jq (jn 0) (jq (xO aaP Ko) jw)))))))
def DA:FnScope r_ se (jE vB):=sO rfl rfl rfl ∅
def Dj(F:Fun K "need_pair" "need_pair" vB f fd)(aad:mg "len" = none):FnOk P w K mg base oU 1 f fd se (pR K 2 lO):=sN (m:=rQ) F DA λcdv B outer s H E hr=>
 jB (m8 (kH (BZ hr.units) (jK nE aad lQ (jq (jn 0) jw)) (jK nE aad lQ (jq (jn 1) jw)))
 (jB (Vu))
 ku)
def OM:FnScope Dp Dk (jE Ef):=sO rfl rfl rfl ∅
def N9(F:Fun K "after" "after" Ef f fd)(aap:mg "tuple" = none)(aaQ:nA P w K mg base 1 "need_pair" se lO):FnOk P w K mg base oU 2 f fd Dk (pR K 2 yH):=sN (m:=E3) F OM λcdv B outer s H E hr=>
 jx (nc (vR aaQ hr (jn 0) (jn 1)))
 (jB (jQ (mR (Aj rfl) aap rq (jq (mO (N:=["thing", "one"]) (cap:=[none,some 0]) rfl (pY ["one"] rfl ∅ ∅ ∅ ∅ ∅ (bP.mpr ⟨by first|exact Or.inl rfl|exact Or.inr rfl,(nofun)⟩) ⟨rfl,by decide +kernel,trivial⟩) (kD (jn 1)) (λ_ _ _ _=>jG (i:=0) (show(["thing", "one"]:ar).Nodup by decide +kernel) rfl (Or.inl rfl) (.inr rfl)) (λ_ _ _ _=>pC) (λ_ _ _ _=>jZ (jn 1) (jJ oA (jn 0) jv))) jw))))
def AB:FnScope Iz Hs (jE HN):=sO rfl rfl rfl ∅
def Ua(F:Fun K "back" "back" HN f fd)(aad:mg "len" = none)(abn:mg "enumerate" = none)(aap:mg "tuple" = none):FnOk P w K mg base oU 1 f fd Hs (pR K 1 yZ):=sN (m:=HS) F AB λcdv B outer s H E hr=>
 jx (jS (i:=1) AB.nd (jJ IZ (kg (jq jv jw)) (jK nE aad lQ (jq (jn 0) jw))))
 (jx (lU bM rfl (XD abn (jn 0)) (mz rfl (jL (jG (i:=2) AB.nd) (jL (jG (i:=3) AB.nd) kR)))
 (jB (oX (jJ kK (jn 2) jv) (BP (jn 1) (jJ oA (jn 3) jv)))))
 (jB (jQ (mR (Aj rfl) aap rq (jq (jn 1) jw)))))
def BH:FnScope sX sJ (jE sV):=sO rfl rfl rfl ∅
def Bh(F:Fun K "is_exchange" "is_exchange" sV f fd)(abp:nA P w K mg base 1 "is_whole" w6 qK):FnOk P w K mg base oU 2 f fd sJ (pR K 2 nB):=sN (m:=tD) F BH λcdv B outer s H E hr=>
 jB (jQ (M8 (z_ abp hr (jn 1)) (M0 (Y9 abw (Yy hr.units) jv (jn 1) (jn 0)))))
def qq:FnScope n9 nX (jE nS):=sO rfl rfl rfl ∅
def wD(F:Fun K "exchanged_places" "exchanged_places" nS f fd)(aas:mg "list" = none)(aap:mg "tuple" = none):FnOk P w K mg base oU 1 f fd nX (pR K 3 lB):=sN (m:=n5) F qq λcdv B outer s H E hr=>
 jx (jS (i:=3) qq.nd (mR (DF rfl) aas wm (jq (jn 0) jw)))
 (jx (oX (j_ (jq (jZ (jn 3) (jJ oA (jn 2) jv)) (jq (jZ (jn 3) (jJ oA (jn 1) jv)) jw))) (mz rfl (jL (BP (jn 3) (jJ oA (jn 1) jv)) (jL (BP (jn 3) (jJ oA (jn 2) jv)) kR))))
 (jB (jQ (mR (Aj rfl) aap rq (jq (jn 3) jw)))))
def EJ:FnScope vf pW (jE vO):=sO rfl rfl rfl ∅
def DO(F:Fun K "exchanged" "exchanged" vO f fd)(aad:mg "len" = none)(abu:nA P w K mg base 2 "is_exchange" sJ nB)(aby:nA P w K mg base 1 "exchanged_places" nX lB):FnOk P w K mg base oU 3 f fd pW (pR K 2 l9):=sN (m:=vq) F EJ λcdv B outer s H E hr=>
 jx (m8 (qL (nv (vR abu hr (jK nE aad lQ (jq (jn 0) jw)) (jn 1))))
 (jB (Vu))
 ku)
 (jB (jQ (MW aby hr (jn 0) (jn 1) (jJ kK (jn 1) jv))))
def A9:FnScope tK sA (jE sG):=sO rfl rfl rfl ∅
def BL(F:Fun K "place_pairs" "place_pairs" sG f fd)(aan:mg "range" = none):FnOk P w K mg base oU 1 f fd sA (pR K 1 mH):=sN (m:=sY) F A9 λcdv B outer s H E hr=>
 jB (jQ (Ro (N:=["i", "j", "n"]) (cap:=[none,none,some 0]) rfl (pY ["n"] rfl ∅ ∅ ∅ ∅ ∅ (bP.mpr ⟨by first|exact Or.inl rfl|exact Or.inr rfl,(nofun)⟩) ⟨rfl,by decide +kernel,trivial⟩) (t9 aan jv (jn 0)) (λ_ _ _ _=>jG (i:=0) (show(["i", "j", "n"]:ar).Nodup by decide +kernel) rfl (Or.inl rfl) (.inr rfl)) (λ_ _ _ _=>pC) (λ_ _ _ _=>t9 aan (jJ kK (jn 0) jv) (jJ kK (jn 2) jv)) (λ_ _ _ _=>jG (i:=1) (show(["i", "j", "n"]:ar).Nodup by decide +kernel) rfl (Or.inl rfl) (.inr rfl)) (λ_ _ _ _=>pC) (λ_ _ _ _=>j_ (jq (jn 0) (jq (jn 1) jw)))))
def Bm:FnScope sj sH (jE sC):=sO rfl rfl rfl ∅
def Cd(F:Fun K "wrong_pairs" "wrong_pairs" sC f fd)(aad:mg "len" = none)(abE:nA P w K mg base 1 "place_pairs" sA mH):FnOk P w K mg base oU 2 f fd sH (pR K 1 nG):=sN (m:=s_) F Bm λcdv B outer s H E hr=>
 jB (jQ (mO (N:=["i", "j", "order"]) (cap:=[none,none,some 0]) rfl (pY ["order"] rfl ∅ ∅ ∅ ∅ ∅ (bP.mpr ⟨by first|exact Or.inl rfl|exact Or.inr rfl,(nofun)⟩) ⟨rfl,by decide +kernel,trivial⟩) (kD (z_ abE hr (jK nE aad lQ (jq (jn 0) jw)))) (λ_ _ _ _=>mz rfl (jL (jG (i:=0) (show(["i", "j", "order"]:ar).Nodup by decide +kernel) rfl (Or.inl rfl) (.inr rfl)) (jL (jG (i:=1) (show(["i", "j", "order"]:ar).Nodup by decide +kernel) rfl (Or.inl rfl) (.inr rfl)) kR))) (λ_ _ _ _=>rL (kH (Gh hr.units) (jZ (jn 2) (jJ oA (jn 0) jv)) (jZ (jn 2) (jJ oA (jn 1) jv)))) (λ_ _ _ _=>j_ (jq (jn 0) (jq (jn 1) jw)))))
def LF:FnScope BV Bs (jE BK):=sO rfl rfl rfl ∅
def LG(F:Fun K "length" "length" BK f fd)(aad:mg "len" = none)(abT:nA P w K mg base 2 "wrong_pairs" sH nG):FnOk P w K mg base oU 3 f fd Bs (pR K 1 pV):=sN (m:=BF) F LF λcdv B outer s H E hr=>
 jB (jQ (jK nE aad lQ (jq (z_ abT hr (jn 0)) jw)))
def RJ:FnScope ER yt (jE E5):=sO rfl rfl rfl ∅
def Rh(F:Fun K "falls" "falls" E5 f fd)(aan:mg "range" = none)(aad:mg "len" = none):FnOk P w K mg base oU 1 f fd yt (pR K 1 rY):=sN (m:=Dl) F RJ λcdv B outer s H E hr=>
 jB (jQ (mO (N:=["k", "order"]) (cap:=[none,some 0]) rfl (pY ["order"] rfl ∅ ∅ ∅ ∅ ∅ (bP.mpr ⟨by first|exact Or.inl rfl|exact Or.inr rfl,(nofun)⟩) ⟨rfl,by decide +kernel,trivial⟩) (t9 aan jv (jK nE aad lQ (jq (jn 0) jw))) (λ_ _ _ _=>jG (i:=0) (show(["k", "order"]:ar).Nodup by decide +kernel) rfl (Or.inl rfl) (.inr rfl)) (λ_ _ _ _=>rL (kH (Gh hr.units) (jZ (jn 1) (jJ oA (jn 0) jv)) (jZ (jn 1) (jn 0)))) (λ_ _ _ _=>jn 0)))
def zw:FnScope qa nM (jE qh):=sO rfl rfl rfl ∅
def zc(F:Fun K "as_polynomial" "as_polynomial" qh f fd)(aaw:mg "sorted" = none):FnOk P w K mg base oU 1 f fd nM (pR K 1 kL):=sN (m:=qj) F zw λcdv B outer s H E hr=>
 jB (jQ (mO (N:=["power", "numbers"]) (cap:=[none,some 0]) rfl (pY ["numbers"] rfl ∅ ∅ ∅ ∅ ∅ (bP.mpr ⟨by first|exact Or.inl rfl|exact Or.inr rfl,(nofun)⟩) ⟨rfl,by decide +kernel,trivial⟩) (kD (jK (J_ rfl) aaw qB (jq (jn 0) jw))) (λ_ _ _ _=>jG (i:=0) (show(["power", "numbers"]:ar).Nodup by decide +kernel) rfl (Or.inl rfl) (.inr rfl)) (λ_ _ _ _=>rL (kH (BZ hr.units) (DG hr.units (jn 1) (jn 0)) jv)) (λ_ _ _ _=>j_ (jq (jn 0) (jq (DG hr.units (jn 1) (jn 0)) jw)))))
def Ar:FnScope Hi HH (jE Ie):=sO rfl rfl rfl ∅
def U6(F:Fun K "plus" "plus" Ie f fd)(abV:mg "dict" = none)(aaR:nA P w K mg base 1 "as_polynomial" nM kL):FnOk P w K mg base oU 2 f fd HH (pR K 2 Br):=sN (m:=HP) F Ar λcdv B outer s H E hr=>
 jx (jS (i:=2) Ar.nd (mR (To rfl) abV UL (jq (jn 0) jw)))
 (jx (lU bM rfl (kD (jn 1)) (mz rfl (jL (jG (i:=3) Ar.nd) (jL (jG (i:=4) Ar.nd) kR)))
 (jB (oX (jJ kK (DX cM dR (EV hr.units) (jn 2) (jq (jn 3) (jq jv jw))) (jn 4)) (AD hr.units (jn 2) (jn 3)))))
 (jB (jQ (z_ aaR hr (jn 2)))))
def t7:FnScope EZ z9 (jE DB):=sO rfl rfl rfl ∅
def OZ(F:Fun K "times" "times" DB f fd)(aaR:nA P w K mg base 1 "as_polynomial" nM kL):FnOk P w K mg base oU 2 f fd z9 (pR K 2 qx):=sN (m:=Em) F t7 λcdv B outer s H E hr=>
 jx (jS (i:=2) t7.nd B8)
 (jx (lU bM rfl (kD (jn 0)) (mz rfl (jL (jG (i:=3) t7.nd) (jL (jG (i:=4) t7.nd) kR)))
 (jB (lU bM rfl (kD (jn 1)) (mz rfl (jL (jG (i:=5) t7.nd) (jL (jG (i:=6) t7.nd) kR)))
 (jB (oX (jJ kK (DX cM dR (EV hr.units) (jn 2) (jq (jJ kK (jn 3) (jn 5)) (jq jv jw))) (jJ Ob (jn 4) (jn 6))) (AD hr.units (jn 2) (jJ kK (jn 3) (jn 5))))))))
 (jB (jQ (z_ aaR hr (jn 2)))))
def Ci:FnScope ug qw (jE uK):=sO rfl rfl rfl ∅
def Cv(F:Fun K "put_before" "put_before" uK f fd)(abW:nA P w K mg base 2 "plus" HH Br):FnOk P w K mg base oU 3 f fd qw (pR K 3 kW):=sN (m:=uw) F Ci λcdv B outer s H E hr=>
 jB (oX (vR abW hr (OT cM dR (VM hr.units) (jn 0) (jq (jn 1) (jq (kg jw) jw))) (jn 2)) (xR hr.units (jn 0) (jn 1)))
def MH:FnScope B_ xJ (jE BI):=sO rfl rfl rfl ∅
def LZ(F:Fun K "as_sum" "as_sum" BI f fd)(aaw:mg "sorted" = none):FnOk P w K mg base oU 1 f fd xJ (pR K 1 rj):=sN (m:=Bk) F MH λcdv B outer s H E hr=>
 jB (jQ (mO (N:=["order", "found"]) (cap:=[none,some 0]) rfl (pY ["found"] rfl ∅ ∅ ∅ ∅ ∅ (bP.mpr ⟨by first|exact Or.inl rfl|exact Or.inr rfl,(nofun)⟩) ⟨rfl,by decide +kernel,trivial⟩) (kD (jK (EM rfl) aaw qB (jq (jn 0) jw))) (λ_ _ _ _=>jG (i:=0) (show(["order", "found"]:ar).Nodup by decide +kernel) rfl (Or.inl rfl) (.inr rfl)) (λ_ _ _ _=>rL (nv (zG hr.units (jn 1) (jn 0)))) (λ_ _ _ _=>j_ (jq (jn 0) (jq (zG hr.units (jn 1) (jn 0)) jw)))))
def Dy:FnScope vE vp (jE vD):=sO rfl rfl rfl ∅
def D7(F:Fun K "need_like" "need_like" vD f fd)(aaQ:nA P w K mg base 1 "need_pair" se lO):FnOk P w K mg base oU 2 f fd vp (pR K 2 pZ):=sN (m:=uZ) F Dy λcdv B outer s H E hr=>
 jB (m8 (AW.at (Xk (nv (jn 0)) (SY (nv (jn 1)))))
 (jB (nc (vR aaQ hr (jZ (jZ (jn 0) jv) jv) (jZ (jZ (jn 1) jv) jv))))
 ku)
def oz:FnScope tF pB (jE sL):=sO rfl rfl rfl ∅
def Bu(F:Fun K "by_exchange" "by_exchange" sL f fd)(aas:mg "list" = none)(h_AT_A_FALL:∃a,mg "AT_A_FALL" = some (.ref a)/\YX K a=some [((-1:Int),(1:Int)),((1:Int),(-1:Int))])(aaM:nA P w K mg base 3 "put_before" qw kW)(aaK:nA P w K mg base 3 "exchanged" pW l9)(aaL:nA P w K mg base 1 "falls" yt rY)(aaS:nA P w K mg base 2 "times" z9 qx)(aaT:nA P w K mg base 1 "as_sum" xJ rj):FnOk P w K mg base oU 4 f fd pB (pR K 2 mK):=sN (m:=sD) F oz λcdv B outer s H E hr=>
 jx (jS (i:=2) oz.nd vY)
 (jx (lU bM rfl (kD (jn 0)) (mz rfl (jL (jG (i:=3) oz.nd) (jL (jG (i:=4) oz.nd) kR)))
 (jx (nc (MW aaM hr (jn 2) (vR aaK hr (jn 3) (jn 1)) (jn 4)))
 (jB (m8 (kH (abH hr.units) (jn 1) (z_ aaL hr (jn 3)))
 (jB (nc (MW aaM hr (jn 2) (jn 3) (vR aaS hr (mR (DF rfl) aas wm (jq (Oi h_AT_A_FALL.choose_spec.1 h_AT_A_FALL.choose_spec.2) jw)) (jn 4)))))
 ku))))
 (jB (jQ (z_ aaT hr (jn 2)))))
def vh:FnScope qG o5 (jE uv):=sO rfl rfl rfl ∅
def Gf{Fs:ae->jz->R A}(F:Fun K "by_order" "by_order" uv f fd)(aaL:nA P w K mg base 1 "falls" yt rY)(aaK:nA P w K mg base 3 "exchanged" pW l9)(aaU:nA P w K mg base 4 "by_exchange" pB mK)(aco:nA P w K mg base (5+kr) "by_order" o5 Fs):FnOk P w K mg base oU (5+kr+1) f fd o5 (pR K 3 (kQ qG (qO Fs))):=sN (m:=qO Fs) F vh λcdv B outer s H E hr=>
 jx (m8 (kH (Qj hr.units) (jn 1) (jn 2))
 (jx (jS (i:=3) vh.nd (B3 aaL (hr.mono ()) (jq (jn 1) jw) (lJ uh)))
 (jB (m8 (nv (jn 3))
 (jx (jS (i:=4) vh.nd (B3 aco (hr.mono ()) (jq (jn 0) (jq (B3 aaK (hr.mono ()) (jq (jn 1) (jq (jZ (jn 3) jv) jw)) (lJ (lJ uh))) (jq (jn 2) jw))) (lJ (lJ (lJ uh)))))
 (jB (oX (B3 aaU (hr.mono ()) (jq (jn 4) (jq (jZ (jn 3) jv) jw)) (lJ (lJ uh))) (xR hr.units (jn 2) (jn 1)))))
 (jB (oX (jn 0) (xR hr.units (jn 2) (jn 1)))))))
 ku)
 (jB (jQ (zG hr.units (jn 2) (jn 1))))
theorem xU(F:Fun K "by_order" "by_order" uv f fd)(aaL:nA P w K mg base 1 "falls" yt rY)(aaK:nA P w K mg base 3 "exchanged" pW l9)(aaU:nA P w K mg base 4 "by_exchange" pB mK)(hm:mg "by_order" = some (.ref f))(hk:PySem.W.keepIn K (.ref f)=true)(hb:Binds K fd o5 []):∀kr,FnOk P w K mg base oU (5+kr) f fd o5 (pR K 3 (pU kr))
 | 0=>WC rfl
 | kr+1=>Gf F aaL aaK aaU ⟨f,fd,xU F aaL aaK aaU hm hk hb kr,hm,hk,hb⟩
def mC:FnScope vJ uX (jE u7):=sO rfl rfl rfl ∅
def EI(F:Fun K "by_orders" "by_orders" u7 f fd)(ab2:nA P w K mg base 31 "by_order" o5 xr)(aaM:nA P w K mg base 3 "put_before" qw kW)(aaS:nA P w K mg base 2 "times" z9 qx)(aaT:nA P w K mg base 1 "as_sum" xJ rj):FnOk P w K mg base oU 32 f fd uX (pR K 2 om):=sN (m:=vj) F mC λcdv B outer s H E hr=>
 jx (jS (i:=2) mC.nd vY)
 (jx (jS (i:=3) mC.nd vY)
 (jx (lU bM rfl (kD (jn 1)) (mz rfl (jL (jG (i:=4) mC.nd) (jL (jG (i:=5) mC.nd) kR)))
 (jB (lU bM rfl (kD (MW ab2 hr (jn 0) (jn 4) (jn 3))) (mz rfl (jL (jG (i:=6) mC.nd) (jL (jG (i:=7) mC.nd) kR)))
 (jB (nc (MW aaM hr (jn 2) (jn 6) (vR aaS hr (jn 5) (jn 7))))))))
 (jB (jQ (z_ aaT hr (jn 2))))))
def Co:FnScope uL uC (jE uA):=sO rfl rfl rfl ∅
def Cp(F:Fun K "with_backs" "with_backs" uA f fd)(aaw:mg "sorted" = none)(ab3:nA P w K mg base 1 "back" Hs yZ):FnOk P w K mg base oU 2 f fd uC (pR K 1 mD):=sN (m:=uE) F Co λcdv B outer s H E hr=>
 jB (jQ (jK (QE hr.units) aaw qB (jq (mO (N:=["order", "poly"]) (cap:=[none,none]) rfl (pY [] rfl ∅ ∅ ∅ ∅ ∅ (nofun) trivial) (kD (jn 0)) (λ_ _ _ _=>mz rfl (jL (jG (i:=0) (show(["order", "poly"]:ar).Nodup by decide +kernel) rfl (Or.inl rfl) (.inr rfl)) (jL (jG (i:=1) (show(["order", "poly"]:ar).Nodup by decide +kernel) rfl (Or.inl rfl) (.inr rfl)) kR))) (λ_ _ _ _=>pC) (λ_ _ _ _=>j_ (jq (z_ ab3 hr (jn 0)) (jq (jn 1) jw)))) jw)))
def HJ:FnScope wk vV (jE yP):=sO rfl rfl rfl ∅
def HR(F:Fun K "product" "product" yP f fd)(aad:mg "len" = none)(ab4:nA P w K mg base 2 "need_like" vp pZ)(abd:nA P w K mg base 32 "by_orders" uX om)(aa9:nA P w K mg base 2 "with_backs" uC mD):FnOk P w K mg base oU 33 f fd vV (pR K 2 ng):=sN (m:=vW) F HJ λcdv B outer s H E hr=>
 jx (nc (vR ab4 hr (jn 0) (jn 1)))
 (jx (m8 (kH aaB (jK nE aad lQ (jq (jn 0) jw)) (jK nE aad lQ (jq (jn 1) jw)))
 (jB (jQ (vR abd hr (jn 0) (jn 1))))
 ku)
 (jB (jQ (z_ aa9 hr (vR abd hr (z_ aa9 hr (jn 1)) (z_ aa9 hr (jn 0)))))))
def qP:FnScope yL zv (jE yX):=sO rfl rfl rfl ∅
def Hu(F:Fun K "_law_bag" "_law_bag" yX f fd)(aad:mg "len" = none):FnOk P w K mg base oU 1 f fd zv (pR K 2 ud):=sN (m:=zg) F qP λcdv B outer s H E hr=>
 jx (jS (i:=2) qP.nd jv)
 (jx (m8 (kH (Yy hr.units) (jn 1) (jK nE aad lQ (jq (jn 0) jw)))
 (jB (jS (i:=2) qP.nd (jZ (jn 0) (jn 1))))
 ku)
 (jx (jS (i:=3) qP.nd jv)
 (jx (m8 (kH aaB (jn 2) (jJ VF jv jv))
 (jB (jS (i:=3) qP.nd (jn 2)))
 ku)
 (jB (jQ (kg (jq (jn 3) (jq (jJ Ft (jJ kK (jJ kK (jn 2) (jJ IZ jv (jn 1))) jv) jv) jw))))))))
def yp:FnScope rT oq (jE vC):=sO rfl rfl rfl ∅
def D8(F:Fun K "_law_digit" "_law_digit" vC f fd):FnOk P w K mg base oU 1 f fd oq (pR K 2 jM):=sN (m:=rK) F yp λcdv B outer s H E hr=>
 jx (m8 (kH (Gh hr.units) (jZ (jn 0) jv) jv)
 (jx (jS (i:=2) yp.nd (jJ Ft (jZ (jn 0) jv) (jn 1)))
 (jx (oX (jJ Of (jZ (jn 0) jv) (jn 1)) (BP (jn 0) jv))
 (jB (jQ (jn 2)))))
 ku)
 (jx (oX (jJ Ft (jJ kK (jJ IZ (jZ (jn 0) jv) jv) jv) jv) (BP (jn 0) jv))
 (jB (jQ (jJ Ft (jJ Ft (jJ IZ (jJ Of (jZ (jn 0) jv) jv) jv) jv) (jn 1)))))
def zT:FnScope qS oO (jE qJ):=sO rfl rfl rfl ∅
def zX(F:Fun K "_law_own_poly" "_law_own_poly" qJ f fd)(aaw:mg "sorted" = none):FnOk P w K mg base oU 1 f fd oO (pR K 1 lA):=sN (m:=rD) F zT λcdv B outer s H E hr=>
 jB (jQ (mO (N:=["_law_power", "_law_held"]) (cap:=[none,some 0]) rfl (pY ["_law_held"] rfl ∅ ∅ ∅ ∅ ∅ (bP.mpr ⟨by first|exact Or.inl rfl|exact Or.inr rfl,(nofun)⟩) ⟨rfl,by decide +kernel,trivial⟩) (kD (jK (J_ rfl) aaw qB (jq (jn 0) jw))) (λ_ _ _ _=>jG (i:=0) (show(["_law_power", "_law_held"]:ar).Nodup by decide +kernel) rfl (Or.inl rfl) (.inr rfl)) (λ_ _ _ _=>rL (kH (BZ hr.units) (DG hr.units (jn 1) (jn 0)) jv)) (λ_ _ _ _=>j_ (jq (jn 0) (jq (DG hr.units (jn 1) (jn 0)) jw)))))
def nN:FnScope qT qY (jE qZ):=sO rfl rfl rfl ∅
def zY(F:Fun K "_law_own_plus" "_law_own_plus" qZ f fd)(aaY:nA P w K mg base 1 "_law_own_poly" oO lA):FnOk P w K mg base oU 2 f fd qY (pR K 2 mY):=sN (m:=qN) F nN λcdv B outer s H E hr=>
 jx (jS (i:=2) nN.nd B8)
 (jx (lU bM rfl (kD (jJ kK (jn 0) (jn 1))) (mz rfl (jL (jG (i:=3) nN.nd) (jL (jG (i:=4) nN.nd) kR)))
 (jB (oX (jJ kK (DX cM dR (EV hr.units) (jn 2) (jq (jn 3) (jq jv jw))) (jn 4)) (AD hr.units (jn 2) (jn 3)))))
 (jB (jQ (z_ aaY hr (jn 2)))))
def kZ:FnScope qe nK (jE qk):=sO rfl rfl rfl ∅
def yS(F:Fun K "_law_own_times" "_law_own_times" qk f fd)(aaY:nA P w K mg base 1 "_law_own_poly" oO lA):FnOk P w K mg base oU 2 f fd nK (pR K 2 ko):=sN (m:=qg) F kZ λcdv B outer s H E hr=>
 jx (jS (i:=2) kZ.nd B8)
 (jx (lU bM rfl (kD (jn 0)) (mz rfl (jL (jG (i:=3) kZ.nd) (jL (jG (i:=4) kZ.nd) kR)))
 (jB (lU bM rfl (kD (jn 1)) (mz rfl (jL (jG (i:=5) kZ.nd) (jL (jG (i:=6) kZ.nd) kR)))
 (jB (oX (jJ kK (DX cM dR (EV hr.units) (jn 2) (jq (jJ kK (jn 3) (jn 5)) (jq jv jw))) (jJ Ob (jn 4) (jn 6))) (AD hr.units (jn 2) (jJ kK (jn 3) (jn 5))))))))
 (jB (jQ (z_ aaY hr (jn 2)))))
def uB:FnScope vK vm (jE vN):=sO rfl rfl rfl ∅
def Dm(F:Fun K "_law_order" "_law_order" vN f fd)(aas:mg "list" = none)(aan:mg "range" = none)(aad:mg "len" = none)(aap:mg "tuple" = none)(aaH:nA P w K mg base 1 "_law_digit" oq jM):FnOk P w K mg base oU 2 f fd vm (pR K 2 pS):=sN (m:=vn) F uB λcdv B outer s H E hr=>
 jx (jS (i:=2) uB.nd (mR (DF rfl) aas wm (jq (mR NN aan OX (jq jv (jq (jJ kK (jn 1) jv) jw))) jw)))
 (jx (jS (i:=3) uB.nd (kg jw))
 (jx (FG 1000000 bM (kH (Gh hr.units) (jK nE aad lQ (jq (jn 2) jw)) jv)
 (jB (nc (FP fG fH yc (jn 3) (jq (FP PySem.F.slot_list_pop PySem.F.type_list_pop U4 (jn 2) (jq (vR aaH hr (jn 0) (jK nE aad lQ (jq (jn 2) jw))) jw)) jw)))))
 (jB (jQ (mR (Aj rfl) aap rq (jq (jn 3) jw))))))
def kG:FnScope p7 qo (jE qi):=sO rfl rfl rfl ∅
def yT(F:Fun K "_law_small_sum" "_law_small_sum" qi f fd)(aan:mg "range" = none)(aaw:mg "sorted" = none)(aaH:nA P w K mg base 1 "_law_digit" oq jM)(ab5:nA P w K mg base 2 "_law_order" vm pS):FnOk P w K mg base oU 3 f fd qo (pR K 3 lI):=sN (m:=p8) F kG λcdv B outer s H E hr=>
 jx (jS (i:=3) kG.nd vY)
 (jx (lU bM rfl (qC aan (jJ kK jv (vR aaH hr (jn 0) (jn 2)))) (jG (i:=4) kG.nd)
 (jx (jS (i:=5) kG.nd (vR ab5 hr (jn 0) (jn 1)))
 (jx (jS (i:=6) kG.nd (jJ oA (vR aaH hr (jn 0) jv) jv))
 (jx (jS (i:=7) kG.nd (kg (jq (j_ (jq (jn 6) (jq (jJ kK jv (vR aaH hr (jn 0) jv)) jw))) jw)))
 (jx (m8 (kH (LP hr.units) (vR aaH hr (jn 0) jv) jv)
 (jB (nc (FP fG fH yc (jn 7) (jq (j_ (jq (jJ kK (jJ kK (jn 6) jv) (vR aaH hr (jn 0) jv)) (jq (jZ (kg (jq (zh jv) (jq (zh jv) (jq jv (jq (jJ VF jv jv) jw))))) (vR aaH hr (jn 0) jv)) jw))) jw))))
 ku)
 (jx (jS (i:=8) kG.nd (jZ (kg (jq jv (jq jv (jq jv (jq (zh jv) jw))))) (vR aaH hr (jn 0) jv)))
 (jB (oX (mO (N:=["_law_power", "_law_number", "_law_shift"]) (cap:=[none,none,some 8]) rfl (pY ["_law_shift"] rfl ∅ ∅ ∅ ∅ ∅ (bP.mpr ⟨by first|exact Or.inl rfl|exact Or.inr rfl,(nofun)⟩) ⟨rfl,by decide +kernel,trivial⟩) (kD (jn 7)) (λ_ _ _ _=>mz rfl (jL (jG (i:=0) (show(["_law_power", "_law_number", "_law_shift"]:ar).Nodup by decide +kernel) rfl (Or.inl rfl) (.inr rfl)) (jL (jG (i:=1) (show(["_law_power", "_law_number", "_law_shift"]:ar).Nodup by decide +kernel) rfl (Or.inl rfl) (.inr rfl)) kR))) (λ_ _ _ _=>pC) (λ_ _ _ _=>j_ (jq (jJ kK (jn 0) (jn 2)) (jq (jn 1) jw)))) (xR hr.units (jn 3) (jn 5))))))))))
 (jB (jQ (mO (N:=["_law_one", "_law_held"]) (cap:=[none,some 3]) rfl (pY ["_law_held"] rfl ∅ ∅ ∅ ∅ ∅ (bP.mpr ⟨by first|exact Or.inl rfl|exact Or.inr rfl,(nofun)⟩) ⟨rfl,by decide +kernel,trivial⟩) (kD (jK (EM rfl) aaw qB (jq (jn 3) jw))) (λ_ _ _ _=>jG (i:=0) (show(["_law_one", "_law_held"]:ar).Nodup by decide +kernel) rfl (Or.inl rfl) (.inr rfl)) (λ_ _ _ _=>pC) (λ_ _ _ _=>j_ (jq (jn 0) (jq (zG hr.units (jn 1) (jn 0)) jw)))))))
def qM:FnScope sW sF (jE sQ):=sO rfl rfl rfl ∅
def Be(F:Fun K "_law_is_poly" "_law_is_poly" sQ f fd)(aaI:mg "isinstance" = none)(aas:mg "list" = none)(aad:mg "len" = none)(aap:mg "tuple" = none)(aaP:mg "bool" = none)(aaJ:mg "int" = none)(aaZ:mg "all" = none)(aan:mg "range" = none):FnOk P w K mg base oU 1 f fd sF (pR K 1 nH):=sN (m:=tB) F qM λcdv B outer s H E hr=>
 jx (m8 (qL (nv (jK yC aaI kI (jq (jn 0) (jq (xO aas wm) jw)))))
 (jB (jQ uR))
 ku)
 (jx (lU bM rfl (kD (jn 0)) (jG (i:=1) qM.nd)
 (jx (m8 (AW.at (yG (qL (nv (jK yC aaI kI (jq (jn 1) (jq (xO aap rq) jw))))) (yG (kH (BZ hr.units) (jK nE aad lQ (jq (jn 1) jw)) jv) (BE (kH (LP hr.units) (jZ (jn 1) jv) jv)))))
 (jB (jQ uR))
 ku)
 (jB (lU bM rfl (kD (jn 1)) (jG (i:=2) qM.nd)
 (jB (m8 (AW.at (yG (qL (nv (jK yC aaI kI (jq (jn 2) (jq (xO aaJ IE) jw))))) (BE (nv (jK yC aaI kI (jq (jn 2) (jq (xO aaP Ko) jw)))))))
 (jB (jQ uR))
 ku))))))
 (jB (jQ (jK (VH rfl) aaZ QS (jq (mO (N:=["_law_k", "_law_found"]) (cap:=[none,some 0]) rfl (pY ["_law_found"] rfl ∅ ∅ ∅ ∅ ∅ (bP.mpr ⟨by first|exact Or.inl rfl|exact Or.inr rfl,(nofun)⟩) ⟨rfl,by decide +kernel,trivial⟩) (qC aan (jJ oA (jK nE aad lQ (jq (jn 0) jw)) jv)) (λ_ _ _ _=>jG (i:=0) (show(["_law_k", "_law_found"]:ar).Nodup by decide +kernel) rfl (Or.inl rfl) (.inr rfl)) (λ_ _ _ _=>pC) (λ_ _ _ _=>Dw (Yy hr.units) (jZ (jZ (jn 1) (jn 0)) jv) (jZ (jZ (jn 1) (jJ kK (jn 0) jv)) jv))) jw)))))
def wJ:FnScope uJ uy (jE uF):=sO rfl rfl rfl ∅
def Cr(F:Fun K "_law_is_sum" "_law_is_sum" uF f fd)(aaI:mg "isinstance" = none)(aas:mg "list" = none)(aap:mg "tuple" = none)(aad:mg "len" = none)(ab6:nA P w K mg base 1 "_law_is_poly" sF nH):FnOk P w K mg base oU 2 f fd uy (pR K 1 oQ):=sN (m:=ur) F wJ λcdv B outer s H E hr=>
 jx (m8 (qL (nv (jK yC aaI kI (jq (jn 0) (jq (xO aas wm) jw)))))
 (jB (jQ uR))
 ku)
 (jx (lU bM rfl (kD (jn 0)) (jG (i:=1) wJ.nd)
 (jx (m8 (AW.at (yG (qL (nv (jK yC aaI kI (jq (jn 1) (jq (xO aap rq) jw))))) (yG (kH (BZ hr.units) (jK nE aad lQ (jq (jn 1) jw)) jv) (BE (qL (nv (jK yC aaI kI (jq (jZ (jn 1) jv) (jq (xO aap rq) jw)))))))))
 (jB (jQ uR))
 ku)
 (jB (m8 (AW.at (yG (qL (nv (z_ ab6 hr (jZ (jn 1) jv)))) (BE (kH (LP hr.units) (jZ (jn 1) jv) (kg jw)))))
 (jB (jQ uR))
 ku))))
 (jB (jQ uR)))
def G0:FnScope wU wX (jE xD):=sO rfl rfl rfl ∅
def FI(F:Fun K "_law_copy" "_law_copy" xD f fd)(aas:mg "list" = none):FnOk P w K mg base oU 1 f fd wX (pR K 1 oZ):=sN (m:=xC) F G0 λcdv B outer s H E hr=>
 jB (jQ (mO (N:=["_law_one", "_law_own"]) (cap:=[none,none]) rfl (pY [] rfl ∅ ∅ ∅ ∅ ∅ (nofun) trivial) (kD (jn 0)) (λ_ _ _ _=>mz rfl (jL (jG (i:=0) (show(["_law_one", "_law_own"]:ar).Nodup by decide +kernel) rfl (Or.inl rfl) (.inr rfl)) (jL (jG (i:=1) (show(["_law_one", "_law_own"]:ar).Nodup by decide +kernel) rfl (Or.inl rfl) (.inr rfl)) kR))) (λ_ _ _ _=>pC) (λ_ _ _ _=>j_ (jq (jn 0) (jq (mR (DF rfl) aas wm (jq (jn 1) jw)) jw)))))
def tZ:FnScope qb nJ (jE qd):=sO rfl rfl rfl ∅
def zo(F:Fun K "_law_own_added" "_law_own_added" qd f fd)(ab7:nA P w K mg base 2 "_law_own_plus" qY mY):FnOk P w K mg base oU 3 f fd nJ (pR K 3 kc):=sN (m:=p9) F tZ λcdv B outer s H E hr=>
 jx (jS (i:=3) tZ.nd (vR ab7 hr (OT cM dR (VM hr.units) (jn 0) (jq (jn 1) (jq (kg jw) jw))) (jn 2)))
 (jB (oX (jn 3) (xR hr.units (jn 0) (jn 1))))
def By:FnScope tH pJ (jE sf):=sO rfl rfl rfl ∅
def Ce(F:Fun K "_law_own_sum" "_law_own_sum" sf f fd)(aaw:mg "sorted" = none):FnOk P w K mg base oU 1 f fd pJ (pR K 1 lR):=sN (m:=sI) F By λcdv B outer s H E hr=>
 jB (jQ (mO (N:=["_law_one", "_law_held"]) (cap:=[none,some 0]) rfl (pY ["_law_held"] rfl ∅ ∅ ∅ ∅ ∅ (bP.mpr ⟨by first|exact Or.inl rfl|exact Or.inr rfl,(nofun)⟩) ⟨rfl,by decide +kernel,trivial⟩) (kD (jK (EM rfl) aaw qB (jq (jn 0) jw))) (λ_ _ _ _=>jG (i:=0) (show(["_law_one", "_law_held"]:ar).Nodup by decide +kernel) rfl (Or.inl rfl) (.inr rfl)) (λ_ _ _ _=>rL (kH (BZ hr.units) (zG hr.units (jn 1) (jn 0)) (kg jw))) (λ_ _ _ _=>j_ (jq (jn 0) (jq (zG hr.units (jn 1) (jn 0)) jw)))))
def kM:FnScope n_ n6 (jE nQ):=sO rfl rfl rfl ∅
def wG(F:Fun K "_law_own_exchange" "_law_own_exchange" nQ f fd)(aaN:nA P w K mg base 3 "_law_own_added" nJ kc)(aa0:nA P w K mg base 2 "_law_own_times" nK ko)(aa6:nA P w K mg base 1 "_law_own_sum" pJ lR):FnOk P w K mg base oU 4 f fd n6 (pR K 2 lD):=sN (m:=n8) F kM λcdv B outer s H E hr=>
 jx (jS (i:=2) kM.nd vY)
 (jx (lU bM rfl (kD (jn 0)) (mz rfl (jL (jG (i:=3) kM.nd) (jL (jG (i:=4) kM.nd) kR)))
 (jx (jS (i:=5) kM.nd (jJ kK (jJ kK (JD (jn 3) Ai (Aa (jJ oA (jn 1) jv))) (j_ (jq (jZ (jn 3) (jn 1)) (jq (jZ (jn 3) (jJ oA (jn 1) jv)) jw)))) (JD (jn 3) (Aa (jJ kK (jn 1) jv)) Ai)))
 (jx (nc (MW aaN hr (jn 2) (jn 5) (jn 4)))
 (jB (m8 (kH (Gh hr.units) (jZ (jn 3) (jJ oA (jn 1) jv)) (jZ (jn 3) (jn 1)))
 (jB (nc (MW aaN hr (jn 2) (jn 3) (vR aa0 hr (kg (jq (j_ (jq (zh jv) (jq jv jw))) (jq (j_ (jq jv (jq (zh jv) jw))) jw))) (jn 4)))))
 ku)))))
 (jB (jQ (z_ aa6 hr (jn 2)))))
def mX:FnScope wZ xx (jE xF):=sO rfl rfl rfl ∅
def G3(F:Fun K "_law_word" "_law_word" xF f fd)(aan:mg "range" = none)(aad:mg "len" = none)(aaH:nA P w K mg base 1 "_law_digit" oq jM):FnOk P w K mg base oU 2 f fd xx (pR K 2 qW):=sN (m:=wW) F mX λcdv B outer s H E hr=>
 jx (jS (i:=2) mX.nd (kg jw))
 (jx (Jm (i:=3) (N:=["_law_k", "_law_one"]) (cap:=[none,some 1]) mX.nd rfl (pY ["_law_one"] rfl ∅ ∅ ∅ ∅ ∅ (bP.mpr ⟨by first|exact Or.inl rfl|exact Or.inr rfl,(nofun)⟩) ⟨rfl,by decide +kernel,trivial⟩) (t9 aan jv (jK nE aad lQ (jq (jn 1) jw))) (λ_ _ _ _=>jG (i:=0) (show(["_law_k", "_law_one"]:ar).Nodup by decide +kernel) rfl (Or.inl rfl) (.inr rfl)) (λ_ _ _ _=>rL (kH (Gh hr.units) (jZ (jn 1) (jJ oA (jn 0) jv)) (jZ (jn 1) (jn 0)))) (λ_ _ _ _=>jn 0))
 (jx (FG 1000000 bM (kH (BZ hr.units) (jn 3) (kg jw))
 (jx (jS (i:=4) mX.nd (jZ (jn 3) (vR aaH hr (jn 0) (jK nE aad lQ (jq (jn 3) jw)))))
 (jx (jS (i:=2) mX.nd (jJ kK (kg (jq (jn 4) jw)) (jn 2)))
 (jx (jS (i:=1) mX.nd (jJ kK (jJ kK (JD (jn 1) Ai (Aa (jJ oA (jn 4) jv))) (j_ (jq (jZ (jn 1) (jn 4)) (jq (jZ (jn 1) (jJ oA (jn 4) jv)) jw)))) (JD (jn 1) (Aa (jJ kK (jn 4) jv)) Ai)))
 (jB (Jm (i:=3) (N:=["_law_k", "_law_one"]) (cap:=[none,some 1]) mX.nd rfl (pY ["_law_one"] rfl ∅ ∅ ∅ ∅ ∅ (bP.mpr ⟨by first|exact Or.inl rfl|exact Or.inr rfl,(nofun)⟩) ⟨rfl,by decide +kernel,trivial⟩) (t9 aan jv (jK nE aad lQ (jq (jn 1) jw))) (λ_ _ _ _=>jG (i:=0) (show(["_law_k", "_law_one"]:ar).Nodup by decide +kernel) rfl (Or.inl rfl) (.inr rfl)) (λ_ _ _ _=>rL (kH (Gh hr.units) (jZ (jn 1) (jJ oA (jn 0) jv)) (jZ (jn 1) (jn 0)))) (λ_ _ _ _=>jn 0)))))))
 (jB (jQ (jn 2)))))
def p6:FnScope rB qU (jE qX):=sO rfl rfl rfl ∅
def z0(F:Fun K "_law_own_word" "_law_own_word" qX f fd)(ab8:nA P w K mg base 4 "_law_own_exchange" n6 lD):FnOk P w K mg base oU 5 f fd qU (pR K 2 mZ):=sN (m:=rf) F p6 λcdv B outer s H E hr=>
 jx (lU bM rfl (kD (jn 1)) (jG (i:=2) p6.nd)
 (jB (jS (i:=0) p6.nd (vR ab8 hr (jn 0) (jn 2)))))
 (jB (jQ (jn 0)))
def yj:FnScope o7 o_ (jE oY):=sO rfl rfl rfl ∅
def yx(F:Fun K "_law_own_scaled" "_law_own_scaled" oY f fd)(aa0:nA P w K mg base 2 "_law_own_times" nK ko):FnOk P w K mg base oU 3 f fd o_ (pR K 2 lX):=sN (m:=o6) F yj λcdv B outer s H E hr=>
 jB (jQ (mO (N:=["_law_one", "_law_more", "_law_own"]) (cap:=[none,none,some 0]) rfl (pY ["_law_own"] rfl ∅ ∅ ∅ ∅ ∅ (bP.mpr ⟨by first|exact Or.inl rfl|exact Or.inr rfl,(nofun)⟩) ⟨rfl,by decide +kernel,trivial⟩) (kD (jn 1)) (λ_ _ _ _=>mz rfl (jL (jG (i:=0) (show(["_law_one", "_law_more", "_law_own"]:ar).Nodup by decide +kernel) rfl (Or.inl rfl) (.inr rfl)) (jL (jG (i:=1) (show(["_law_one", "_law_more", "_law_own"]:ar).Nodup by decide +kernel) rfl (Or.inl rfl) (.inr rfl)) kR))) (λ_ _ _ _=>pC) (λ_ _ _ _=>j_ (jq (jn 0) (jq (vR aa0 hr (jn 2) (jn 1)) jw)))))
def nL:FnScope qH rE (jE qI):=sO rfl rfl rfl ∅
def zZ(F:Fun K "_law_own_both" "_law_own_both" qI f fd)(aaN:nA P w K mg base 3 "_law_own_added" nJ kc)(aa6:nA P w K mg base 1 "_law_own_sum" pJ lR):FnOk P w K mg base oU 4 f fd rE (pR K 2 mS):=sN (m:=qD) F nL λcdv B outer s H E hr=>
 jx (jS (i:=2) nL.nd vY)
 (jx (lU bM rfl (kD (jJ kK (jn 0) (jn 1))) (mz rfl (jL (jG (i:=3) nL.nd) (jL (jG (i:=4) nL.nd) kR)))
 (jB (nc (MW aaN hr (jn 2) (jn 3) (jn 4)))))
 (jB (jQ (z_ aa6 hr (jn 2)))))
def o4:FnScope zF zA (jE zx):=sO rfl rfl rfl ∅
def Hr(F:Fun K "_law_due" "_law_due" zx f fd)(ab9:nA P w K mg base 5 "_law_own_word" qU mZ)(ab_:nA P w K mg base 2 "_law_word" xx qW)(acd:nA P w K mg base 4 "_law_own_both" rE mS)(ace:nA P w K mg base 3 "_law_own_scaled" o_ lX):FnOk P w K mg base oU 6 f fd zA (pR K 3 tN):=sN (m:=y_) F o4 λcdv B outer s H E hr=>
 jx (jS (i:=3) o4.nd (kg jw))
 (jx (lU bM rfl (kD (jn 2)) (mz rfl (jL (jG (i:=4) o4.nd) (jL (jG (i:=5) o4.nd) kR)))
 (jx (jS (i:=6) o4.nd (vR ab9 hr (jn 1) (vR ab_ hr (jn 0) (jn 4))))
 (jB (jS (i:=3) o4.nd (vR acd hr (jn 3) (vR ace hr (jn 5) (jn 6)))))))
 (jB (jQ (jn 3))))
def xY:FnScope u_ uU (jE vt):=sO rfl rfl rfl ∅
def Ea(F:Fun K "_law_apart" "_law_apart" vt f fd)(aan:mg "range" = none)(aad:mg "len" = none)(aaZ:mg "all" = none):FnOk P w K mg base oU 1 f fd uU (pR K 1 pX):=sN (m:=vL) F xY λcdv B outer s H E hr=>
 jx (lU bM rfl (qC aan (jK nE aad lQ (jq (jn 0) jw))) (jG (i:=1) xY.nd)
 (jB (nc (FP fG fH yc (jZ (jZ (jn 0) (jn 1)) jv) (jq (j_ (jq (jJ kK jv (jn 1)) (jq jv jw))) jw)))))
 (jB (jQ (jK (VH rfl) aaZ QS (jq (mO (N:=["_law_k", "_law_found"]) (cap:=[none,some 0]) rfl (pY ["_law_found"] rfl ∅ ∅ ∅ ∅ ∅ (bP.mpr ⟨by first|exact Or.inl rfl|exact Or.inr rfl,(nofun)⟩) ⟨rfl,by decide +kernel,trivial⟩) (qC aan (jK nE aad lQ (jq (jn 0) jw))) (λ_ _ _ _=>jG (i:=0) (show(["_law_k", "_law_found"]:ar).Nodup by decide +kernel) rfl (Or.inl rfl) (.inr rfl)) (λ_ _ _ _=>pC) (λ_ _ _ _=>Dw (LP hr.units) (jZ (jZ (jZ (jn 1) (jn 0)) jv) (zh jv)) (j_ (jq (jJ kK jv (jn 0)) (jq jv jw))))) jw))))
def oF:FnScope vI uY (jE vz):=sO rfl rfl rfl ∅
def Dq(F:Fun K "_law_right" "_law_right" vz f fd)(aan:mg "range" = none)(abf:nA P w K mg base 1 "_law_copy" wX oZ)(aaO:nA P w K mg base 33 "product" vV ng)(acf:nA P w K mg base 2 "_law_is_sum" uy oQ)(acg:nA P w K mg base 1 "_law_apart" uU pX):FnOk P w K mg base oU 34 f fd uY (pR K 3 pO):=sN (m:=vg) F oF λcdv B outer s H E hr=>
 jx (jS (i:=3) oF.nd (z_ abf hr (jn 0)))
 (jx (jS (i:=4) oF.nd (z_ abf hr (jn 1)))
 (jx (lU bM rfl (qC aan jv) (jG (i:=5) oF.nd)
 (jx (jS (i:=6) oF.nd (vR aaO hr (jn 3) (jn 4)))
 (jx (m8 (AW.at (yG (qL (nv (z_ acf hr (jn 6)))) (yG (kH (BZ hr.units) (jn 6) (jn 2)) (yG (kH (BZ hr.units) (jn 3) (jn 0)) (BE (kH (BZ hr.units) (jn 4) (jn 1)))))))
 (jB (jQ uR))
 ku)
 (jx (m8 (qL (nv (z_ acg hr (jn 6))))
 (jB (jQ uR))
 ku)
 (jB (nc (FP fG fH yc (jn 6) (jq (j_ (jq (j_ (jq jv jw)) (jq (kg (jq (j_ (jq jv (jq jv jw))) jw)) jw))) jw))))))))
 (jB (jQ uR))))
def sM:FnScope NW We (jE NI):=sO rfl rfl rfl ∅
set_option smartUnfolding false in
theorem X6(F:Fun K "law" "law" NI f fd)(aan:mg "range" = none)(ach:mg "max" = none)(aci:mg "min" = none)(aad:mg "len" = none)(aaJ:mg "int" = none)(acj:nA P w K mg base 1 "_law_bag" zv ud)(aaH:nA P w K mg base 1 "_law_digit" oq jM)(abj:nA P w K mg base 3 "_law_small_sum" qo lI)(ack:nA P w K mg base 34 "_law_right" uY pO)(acm:nA P w K mg base 6 "_law_due" zA tN)(acn:nA P w K mg base 2 "after" Dk yH)(abb:nA P w K mg base 3 "length" Bs pV)(aaO:nA P w K mg base 33 "product" vV ng):FnOk P w K mg base oU 35 f fd We (pR K 1 CC):=sN (m:=Qu) F sM λcdv B outer s H E hr=>
 jx (lU bM rfl (qC aan (jK (W2 rfl) ach YN (jq jv (jq (jK (Wx rfl) aci Ww (jq (jK nE aad lQ (jq (jn 0) jw)) (jq jv jw))) jw)))) (jG (i:=1) sM.nd)
 (jx (jS (i:=2) sM.nd (vR acj hr (jn 0) (jn 1)))
 (jx (jS (i:=3) sM.nd (jZ (jZ (kg (jq (kg (jq jv (jq jv (jq jv (jq jv (jq jv (jq jv (jq jv (jq jv jw))))))))) (jq (kg (jq jv (jq jv (jq jv (jq jv (jq jv (jq jv (jq jv (jq jv jw))))))))) jw))) (mR Yr aaJ IE (jq (Dw (Gh hr.units) (jn 1) jv) jw))) (vR aaH hr (jn 2) jv)))
 (jx (jS (i:=4) sM.nd (jZ (kg (jq jv (jq jv (jq jv (jq jv jw))))) (jJ oA (jn 3) jv)))
 (jx (jS (i:=5) sM.nd (MW abj hr (jn 2) (jn 3) (jn 4)))
 (jx (jS (i:=6) sM.nd (MW abj hr (jn 2) (jn 3) (jn 4)))
 (jx (m8 (qL (nv (MW ack hr (jn 5) (jn 6) (MW acm hr (jn 2) (jn 5) (jn 6)))))
 (jB (jQ uR))
 ku)
 (jx (jS (i:=7) sM.nd (jZ (jZ (jn 5) jv) jv))
 (jx (jS (i:=8) sM.nd (jZ (jZ (jn 6) jv) jv))
 (jx (jS (i:=9) sM.nd (vR acn hr (jn 7) (jn 8)))
 (jB (m8 (kH (LP hr.units) (z_ abb hr (jn 9)) (jJ kK (z_ abb hr (jn 7)) (z_ abb hr (jn 8))))
 (jB (m8 (kH (BZ hr.units) (vR aaO hr (kg (jq (j_ (jq (jn 7) (jq (kg (jq (j_ (jq jv (jq jv jw))) jw)) jw))) jw)) (kg (jq (j_ (jq (jn 8) (jq (kg (jq (j_ (jq jv (jq jv jw))) jw)) jw))) jw))) (kg (jq (j_ (jq (jn 9) (jq (kg (jq (j_ (jq jv (jq jv jw))) jw)) jw))) jw)))
 (jB (jQ uR))
 ku))
 ku))))))))))))
 (jB (jQ (Dw (LP hr.units) (vR aaO hr (kg jw) (kg (jq (j_ (jq (j_ (jq jv (jq jv jw))) (jq (kg (jq (j_ (jq jv (jq jv jw))) jw)) jw))) jw))) (kg jw))))
end
end K28
namespace K28
open PySem L2 Am
abbrev yy (S:jz)(b:Nat):Prop:=∃g st:Int,ju S b=some [.int g,.int st]/\0<=g/\0<=st/\st<4294967296
def yy.kp{c:Nat->Prop}(h:yy S b)(k:Kp c S S')(hb:¬c b):yy S' b:=by
 obtain⟨g,st,e,q⟩:=h;exact⟨g,st,k.lst b _ hb e,q⟩
def yy.lt{S:jz}(h:yy S b):b<S.length:=by obtain⟨_,_,e,_⟩:=h;exact oE e
def Ug{S:jz}{ns:ag}{k:Int}(h0:0<=k)(h1:k<=100):∃S',ud [.frz (ns.map .int),.int k] S=.ok (.ref S.length) S'/\yy S' S.length/\kY S S':=by
 have e3:Iu (.int 10) (.int 18)=λS=>R.ok (.int 1000000000000000000) S:=by
  funext S;exact mF ⟨by decide,by decide,by decide⟩
 have m1:∀x:Int,Er (.int x) (.int 2147483647)=λS=>R.ok (.int (x % 2147483647)) S:=λx=>by funext S;exact Fg ⋯
 have m3:∀x:Int,Ew (.int 7919) (.int x)=λS=>R.ok (.int (7919 * x)) S:=λx=>by funext S;exact Ow ⋯ ⋯
 have s0:∀x:Int,0<=x % 2147483647:=λx=>iI _ ⋯;have s1:∀x:Int,x % 2147483647<4294967296:=λx=>by have:=gI x (show(0:Int)<2147483647 by decide);lia
 have go:∀cell:Int,∃S',((RS.seq (.nx [A.frz (ns.map .int),.int k,.int cell,.unb] S) (jU (j5 (eC (.int 0)) (j4 3))
  (jU (zH (uG (jA ZX (jt 2) (jA Iu (eC (.int 10)) (eC (.int 18))))) (j5 (jt 2) (j4 3)) (pN))
  (kF (mQ (jo (jt 3) (jo (jA Er (jA kj (jA kj (jt 2) (jA Ew (eC (.int 7919)) (jt 1))) (eC (.int 13))) (eC (.int 2147483647))) (jy)))))))).end=.ok (.ref S.length) S')/\yy S' S.length/\kY S S':=by
  intro cell;by_cases hc:1000000000000000000<=cell
  ·dsimp[jT,bools,e3,m1,m3,bf hc];exact⟨_,rfl,⟨_,_,jI,(),s0 _,s1 _⟩,Kp.refl.lay⟩
  ·dsimp[jT,bools,e3,m1,m3,bw hc];exact⟨_,rfl,⟨_,_,jI,Int.le_refl 0,s0 _,s1 _⟩,Kp.refl.lay⟩
 unfold ud zg yL;dsimp[jT,bools,lG,Nat.reduceAdd,Nat.reduceSub,aH];by_cases hk:k<(ns.length:Int)
 ·have hn:k.toNat<ns.length:=()
  have ha:pP (ns.map A.int) k=some (.int ns[k.toNat]):=yi (k:=k.toNat) () (aF hn);rw[bf hk];dsimp[jT,bools,ha];have:=go ns[k.toNat];simpa only [jT,bools]using this
 ·rw[bw hk];dsimp[jT,bools];have:=go 0;simpa only [jT,bools]using this
def digit{m:Int}(h:yy S b)(h1:1<=m)(h2:m<1073741824):∃d S',jM [.ref b,.int m] S=.ok (.int d) S'/\0<=d/\d<m/\yy S' b/\Kp (·=b) S S':=by
 obtain⟨g,st,hl,hg,hs,hs2⟩:=h;have hb:=oE hl;have i0:Cq 2 0=some 0:=BG rfl ⋯;have i1:Cq 2 1=some 1:=BG rfl ⋯;have fin:∀d g' st':Int,0<=d->d<m->0<=g'->0<=st'->st'<4294967296->jM [.ref b,.int m] S=.ok (.int d) (S.set b (.lst [.int g',.int st']))->∃d S',jM [.ref b,.int m] S=.ok (.int d) S'/\0<=d/\d<m/\yy S' b/\Kp (·=b) S S':=
  λd g' st' a1 a2 a3 a4 a5 e=>⟨d,_,e,a1,a2,⟨g',st',pL hb,a3,a4,a5⟩,Kp.refl.set (.inl rfl)⟩
 by_cases hg0:0<g
 ·refine fin (g % m) (g / m) st (iI _ ()) (gI _ ()) (Int.ediv_nonneg hg ()) hs hs2 ?_;unfold jM rK rT;rw[AK];simp[hl,A0,LC,hg0,Fg (show 0<m by lia),Nf (show 0<m by lia) h2,i0]
 ·have e1:0<=(st * 48271+11) % 2147483647:=iI _ ⋯;have e2:(st * 48271+11) % 2147483647<2147483647:=gI _ ⋯;have e3:0<=(st * 48271+11) % 2147483647 / 8:=()
  refine fin ((st * 48271+11) % 2147483647 / 8 * 69621 % 2147483629 % m) g ((st * 48271+11) % 2147483647) (iI _ ()) (gI _ ()) hg e1 () ?_;unfold jM rK rT;rw[AK];simp[hl,A0,LC,hg0,i1,Ow (show -18446744073709551616<st by lia) (),Fg (show(0:Int)<2147483647 by decide),pL hb,Nf (show(0:Int)<8 by decide) ⋯,Ow (show -18446744073709551616<(st * 48271+11) % 2147483647 / 8 by lia) (),Fg (show(0:Int)<2147483629 by decide),Fg (show 0<m by lia)]
open Po (Pl Ok Bd)
def Qv{S:jz}{D:Pl}(hd:lE S d=some (Po.iv D))(hl:D.length<=16777216):∃S',kL [.ref d] S=.ok (.ref (S.length+1)) S'/\ju S' (S.length+1)=some (Po.pl (Po.IB D))/\kY S S':=by
 obtain⟨S',e,h1,h2⟩:=OB hd hl;refine⟨S',?_,h1,h2⟩;unfold kL qj qa;dsimp[jT,bools,lG,Nat.reduceAdd,Nat.reduceSub];rw[show j6 [none,some 0] _ _ _ _ _ _=_ from e];rfl
def T9{S:jz}{n:Nat}{a b:Pl}(hn:ju S n=some (Po.pl a))(hm:ju S m=some (Po.pl b))(ha:Ok a)(hl:a.length+b.length<16777216) :
  ∃(L:Nat) (S':jz),Br [.ref n,.ref m] S=.ok (.ref L) S'/\ju S' L=some (Po.pl (Po.nu a b))/\S.length<=L/\kY S S':=by
 have hd:lE (S++[.pK (Po.iv a)]) S.length=some (Po.iv a):=D9;obtain⟨y3,y4,T,e,hD,kp⟩:=IX (S:=S++[.pK (Po.iv a)]) (S1:=S++[.pK (Po.iv a)]) (x0:=.ref n) (x1:=.ref m) (x3:=.unb) (x4:=.unb) (src:=yv) (l:=b) (show yv _ _=_ from lH (by dsimp[jT,bools]) (jX hm)) (jX hm) hd hl;have ln:=Po.oG b a;obtain⟨S',e2,h1,h2⟩:=Qv hD ();have k1:kY S T:=(Kp.refl.lay (o:=.pK (Po.iv a))).old kp λq hq _ z=>()
 refine⟨T.length+1,S',?_,by rw[h1,<- Po.Uu ha];rfl,by have:=k1.len;lia,k1.trans h2⟩;unfold Br HP Hi;dsimp[jT,bools,lG,Nat.reduceAdd,Nat.reduceSub,Mj,hn,Po.VX,Po.UM,Po.Tj ha];rw[show lC yv _ GO _ _=_ from e];dsimp[jT,bools,e2]
def C_(f:Int×Int->A)(hf:∀p τ S,Td (f p) τ S=Td (Po.pA p) τ S){S:jz}{n:Nat}{a b:Pl}(hn:ju S n=some (a.map f))(hm:ju S m=some (Po.pl b))(hl:a.length * b.length<16777216)(ha:∀p∈a,p.2.natAbs<big)(hb:∀p∈b,p.2.natAbs<big) :
  ∃(L:Nat) (S':jz),qx [.ref n,.ref m] S=.ok (.ref L) S'/\ju S' L=some (Po.pl (Po.times a b))/\S.length<=L/\kY S S':=by
 have hd:lE (S++[.pK []]) S.length=some []:=D9;obtain⟨y3,y4,y5,y6,T,e,hD,kp⟩:=B4 f hf (S:=S++[.pK []]) (x3:=.unb) (x4:=.unb) (x5:=.unb) (x6:=.unb) (jX hn) (jX hm) hd hl ha hb;have ln:=Po.oG (Po.C6 a b) [];rw[Po.yF,bR,bZ]at ln;obtain⟨S',e2,h1,h2⟩:=Qv hD ();have k1:kY S T:=(Kp.refl.lay (o:=.pK [])).old kp λq hq _ z=>()
 refine⟨T.length+1,S',?_,h1,by have:=k1.len;lia,k1.trans h2⟩;unfold qx Em EZ;dsimp[jT,bools,lG,Nat.reduceAdd,Nat.reduceSub,zq];rw[show lC CB _ CZ _ _=_ from e];dsimp[jT,bools,e2]
def tX{S:jz}{n:Nat}{a b:Pl}(hn:ju S n=some (Po.pl a))(hm:ju S m=some (Po.pl b))(hl:a.length * b.length<16777216)(ha:∀p∈a,p.2.natAbs<big)(hb:∀p∈b,p.2.natAbs<big) :
  ∃(L:Nat) (S':jz),qx [.ref n,.ref m] S=.ok (.ref L) S'/\ju S' L=some (Po.pl (Po.times a b))/\S.length<=L/\kY S S':=C_ Po.pA (λ_ _ _=>rfl) hn hm hl ha hb
end K28
namespace K28
open PySem L2 Am
open Po (Pl Ok Bd)
open Su (Es At Vl)
def Xx{S:jz}{r:Nat}{D:Es}{o:ag}{p:Pl}{k:Nat}(hd:jV S d=some (D.map Su.kv))(hA:At S D)(hv:Vl k b D)(hr:ju S r=some (Po.pl p))(hl:D.length<16777216)(hk:k+p.length<16777216) :
  ∃(L:Nat) (S':jz),kW [.ref d,.tup (o.map .int),.ref r] S=.ok .non S'/\jV S' d=some ((Su.nU D o L (Po.nu (Su.vS (Su.sm D) o) p)).map Su.kv)/\At S' (Su.nU D o L (Po.nu (Su.vS (Su.sm D) o) p))/\S.length<=L/\Kp (·=d) S S':=by
 obtain⟨x,ex,hx⟩:=Su.get_or (o:=o) hd hA;have vo:=hv.v o;obtain⟨L,S2,e2,h1,h2,k2⟩:=T9 hx (jX (o:=.lst []) hr) vo.1 ();have kS:kY S S2:=(Kp.refl.lay).trans k2;have hd2:=kS.dct _ _ (λz=>z) hd;have hd1:jV (S++[.lst []]) d=some (D.map Su.kv):=Su.Ae hd;refine⟨L,S2.set d (.dct ((Su.nU D o L (Po.nu (Su.vS (Su.sm D) o) p)).map Su.kv)),?_,Su.Az (Su.BN hd2),?_,by simp at h2;lia,kS.of0.E2 (.inl rfl)⟩
 ·unfold kW uw ug;kj_on;dsimp[jT,bools,lG,Nat.reduceAdd,Nat.reduceSub,Su.Lq,Su.JB,hd,c7,n0,Su.JH,hd1,ex,e2,Su.xQ,Su.ym,hd2,wO (show(D.map Su.kv).length<16777216 by rw[aH];exact hl),Su.Dz (p:=Po.nu (Su.vS (Su.sm D) o) p)]
 ·refine(Su.At.put (hA.yY kS) h1).kp (Kp.refl.E2 (.inl rfl)) λe he z=>?_
  rcases Su.rZ he with y|y
  ·exact Su.p_ hd (hA e y) z
  ·rw[y]at z;exact Su.p_ hd2 h1 z
def Rr{S:jz}{D:Es}(hd:jV S d=some (D.map Su.kv))(hA:At S D)(hne:∀e∈D,e.1≠[])(hl:D.length<=16777216) :
  ∃(n:Nat) (S':jz),rj [.ref d] S=.ok (.ref n) S'/\ju S' n=some ((Su.qf D λp=>!p.isEmpty).map Su.ent)/\At S' (Su.qf D λp=>!p.isEmpty)/\S.length<n/\kY S S':=by
 have n0:=Su.Bp hd hne;obtain⟨n,S',e,h1,h2,h3,h4⟩:=Su.A_ (cap:=[some 0]) (τ:=[.ref d]) (src:=lg (jR (f1 uV) (jo (jt 0) (jy)))) (t:=uf (jA wC (jt 1) (jt 0))) (e:=kO (jo (jt 0) (jo (jA wC (jt 1) (jt 0)) (jy)))) hd hA (lH (by dsimp[jT,bools,n0]) jI) (λp=>!p.isEmpty)
  (λo r q T hT hk hr=>⟨T,by
   have tr:A.Ws (.ref r) T=some (!q.isEmpty):=by
    show(ju T r).map _=_;rw[hr]
    cases q<;>rfl
   dsimp[jT,bools,Su.yO,Su.uI,hT,hk,tr],Kp.refl⟩)
  (λo r T hT hk=>by
   dsimp[jT,bools,Su.yO,Su.uI,hT,hk];exact mV (show 2<=16777216 by decide)) hl
 refine⟨n,S',?_,h1,h2,h3,h4⟩;unfold rj Bk B_;dsimp[jT,bools,lG,Nat.reduceAdd,Nat.reduceSub,e]
def A6:Su.AU kW:=λh1 h2 h3 h4 h5 h6=>Xx h1 h2 h3 h4 h5 h6
def Hh:Su.ML qx:=λh1 h2 h3 h4 h5=>tX h1 h2 h3 h4 h5
open Po (Pl Ok Bd)
open Su (Es At Vl)
structure Sm (S:jz)(n:Nat)(es:Es):Prop where
 l:ju S n=some (es.map Su.ent)
 a:At S es
def Sm.kp{n:Nat}(h:Sm S n es)(k:kY S S'):Sm S' n es:=⟨k.lst _ _ (λz=>z) h.l,h.a.yY k⟩
def Eh{a b:ag}(h:a.length=b.length):lO [.tup (a.map .int),.tup (b.map .int)] S=.ok .non S:=by
 unfold lO rQ r_;have:((a.length:Int) == (b.length:Int))=true:=by rw[h];exact bO _
 dsimp[jT,uS,bools,lG,Nat.reduceAdd,Nat.reduceSub,aH,this,ck]
def FA{n:Nat}{xs:ae}(h:ju S n=some xs):A.Ws (.ref n) S=some (!xs.isEmpty):=by
 show(ju S n).map _=_;rw[h];rfl
def E1{n N:Nat}{es fs:Es}(h:Sm S n es)(h':Sm S m fs)(h1:∀e∈es,e.1.length=N)(h2:∀e∈fs,e.1.length=N):pZ [.ref n,.ref m] S=.ok .non S:=by
 unfold pZ uZ vE;dsimp[jT,uS,bools,lG,Nat.reduceAdd,Nat.reduceSub,FA h.l,FA h'.l]
 cases es with
 | nil=>dsimp[jT,uS,bools,gQ,i_,ck]
 | cons e es=>cases fs with
  | nil=>dsimp[jT,uS,bools,gQ,i_,ck,bB,iY,eT,FA h'.l]
  | cons f fs=>
   have q:=Eh (S:=S) ((h1 e (aM ..)).trans (h2 f (aM ..)).symm);have hl:=h.l;have hl':=h'.l;rw[bB]at hl hl';dsimp[jT,uS,bools,bB,iY,eT,FA hl',hl,hl',A0,Su.ent,q]
meta abbrev wd (w:am):ae:=w.map λk:Nat=>A.int (k:Int)
def Ss{l:ag}{k:Nat}{i:Int}(h:i=k)(hk:k<l.length):pP (l.map A.int) i=some (.int (l.getD k 0)):=yi h (by rw[aI,aF hk];rfl)
def Uj{l:ag}{k:Nat}:((l.map A.int).set (k-1) (.int (l.getD k 0))).set k (.int (l.getD (k-1) 0))=(Wd.ex l k).map A.int:=by
 unfold Wd.ex;rw[iM,iM]
def abR{f g:A->A->jz->R A}{ca cb cc:Ex}{a c:A}(h1:ca τ S=.ok a S)(h2:cb τ S=.ok b S)(h3:f a b S=.ok (.bl true) S)(h4:cc τ S=.ok c S):Y0 f g ca cb cc τ S=g b c S:=by
 unfold Y0;rw[h1,R.oM,h2,R.oM,h3,R.oM];unfold kCh;show(cc τ S).bind _=_;rw[h4];rfl
def WY{i:Int}:qK [.int i] S=.ok (.bl true) S:=by
 unfold qK xB xG;dsimp[jT,bools,lG,Nat.reduceAdd,Nat.reduceSub,show zV .int "int" = some true from rfl,show zV .int "bool" = some false from rfl,eT]
def aaW{n k:Int}(h1:1<=k)(h2:k<n):nB [.int n,.int k] S=.ok (.bl true) S:=by
 unfold nB tD sX;have c:Y0 aLe Wz (eC (.int 1)) (jt 1) (jt 0) [.int n,.int k] S=.ok (.bl true) S:=by
  rw[abR (a:=.int 1) (b:=.int k) (c:=.int n) rfl rfl (by dsimp[jT,bf h1]) rfl];dsimp[jT,bf h2]
 dsimp[jT,bools,lG,Nat.reduceAdd,Nat.reduceSub,WY,c]
def JC{xs:ag}{k:Nat}(h1:1<=k)(h2:k<xs.length)(hl:xs.length<=1000):∃S',l9 [.tup (xs.map .int),.int k] S=.ok (.tup ((Wd.ex xs k).map .int)) S'/\kY S S':=by
 have e1:=aaW (S:=S) (n:=(xs.length:Int)) (k:=(k:Int)) () ();have a1:pP (xs.map A.int) (k:Int)=some (.int (xs.getD k 0)):=Ss rfl ();have a2:pP (xs.map A.int) ((k:Int)-1)=some (.int (xs.getD (k-1) 0)):=Ss (k:=k-1) () ();have x1:Cq xs.length ((k:Int)-1)=some (k-1):=BG () ();have x2:Cq xs.length (k:Int)=some k:=BG rfl ();have hL:ju (S++[O.lst (xs.map .int)]) S.length=some (xs.map .int):=jI;have lS:∀ys,ju ((S++[O.lst (xs.map .int)]).set S.length (.lst ys)) S.length=some ys:=λys=>pL (by simp);have e2:lB [.tup (xs.map .int),.int k,.int ((k:Int)+1)] S=.ok (.tup ((Wd.ex xs k).map .int)) (((S++[O.lst (xs.map .int)]).set S.length (.lst ((xs.map A.int).set (k-1) (.int (xs.getD k 0))))).set S.length (.lst ((Wd.ex xs k).map .int))):=by
  unfold lB n5 n9;dsimp[jT,bools,lG,Nat.reduceAdd,Nat.reduceSub,hL,show(k:Int)+1-1=k by lia,a1,a2,mF (show 2<=sizeLine by decide),mF (show 2=2 from rfl),aH,x1,lS,cE,x2,Uj];rw[pL (by simp)];dsimp[jT,bools]
 unfold l9 vq vf;dsimp[jT,uS,bools,lG,Nat.reduceAdd,Nat.reduceSub,aH,e1,ck,e2];exact⟨_,rfl,((Kp.refl.lay).set (.inr (aR _))).set (.inr (aR _))⟩
def YZ{xs:ag}{i:Int}(h1:0<=i)(h2:i<xs.length):pP (xs.map A.int) i=some (.int (xs.getD i.toNat 0)):=Ss (k:=i.toNat) () ()
abbrev fl (xs:ag)(n:Nat):ag:=(j8 1 (n:Int)).filter λk=>decide (xs.getD (k-1).toNat 0>xs.getD k.toNat 0)
def F5{S:jz}{n:Nat}{xs:ag}(hlen:xs.length=n)(h2:n<=20):rY [.tup (xs.map .int)] S=.ok (.ref S.length) (S++[.lst ((fl xs n).map .int)]):=by
 have ec:=yE (lo:=1) (hi:=(n:Int)) (cap:=[some 0]) (src:=qt (eC (.int 1)) (jR (f1 nV) (jo (jt 0) (jy)))) (t:=uG (jA Hx (jA mJ (jt 1) (jA aSub (jt 0) (eC (.int 1)))) (jA mJ (jt 1) (jt 0)))) (e:=jt 0) (τ:=[.tup (xs.map .int)]) (S:=S) (S1:=S)
  (xV (S1:=S) (by dsimp[jT,bools]) (by dsimp[jT,bools,aH,hlen]) (oB () ()) (oB () ()))
  (λk=>decide (xs.getD (k-1).toNat 0>xs.getD k.toNat 0)) (λk=>.int k) (λk h1 h2=>by
   have x1:pP (xs.map A.int) (k-1)=some (.int (xs.getD (k-1).toNat 0)):=YZ () ();have x2:pP (xs.map A.int) k=some (.int (xs.getD k.toNat 0)):=YZ () ();dsimp[jT,bools,x1,x2]) (λk _ _ _=>by dsimp[jT,bools]) ()
 unfold rY Dl ER;dsimp[jT,bools,lG,Nat.reduceAdd,Nat.reduceSub,ec];rfl
theorem Ld{t:Int}:∀(p:ag),Zz S (.int t) (p.map .int)=some (decide (t∈p))
 | []=>rfl
 | x::p=>by
  show(uP S 12 (.int x) (.int t)).bind (λa=>(Zz S (.int t) (p.map .int)).map λb=>a || b)=_;rw[Ld p];show some ((x == t) || decide (t∈p))=_;by_cases c:x=t
  ·subst c;rw[bO,bf (show x∈x::p from aM ..)];rfl
  ·rw[fK.mpr c];congr 1;rw[gz,i9];constructor
   ·exact λz=>aN _ z
   ·intro z
    rcases bF.mp z with z|z
    ·exact absurd z.symm c
    ·exact z
open Po (Pl Ok Bd)
open Su (Es At Vl AF)
def Dt{o:ag}{N k:Nat}(hl:o.length=N)(h1:1<=k)(h2:k<N):decide ((k:Int)∈fl o N)=Su.nR o k:=by
 unfold fl Su.nR;rw[i9,cQ,lY,decide_eq_true_eq,show((k:Int)-1).toNat=k-1 by lia,dM];constructor
 ·exact λh=>h.2
 ·exact λh=>⟨⟨(),()⟩,h⟩
def Um{S:jz}{n N k:Nat}{es:Es}(h:Sm S n es)(h1:∀e∈es,e.1.length=N/\2 * e.2.2.length<=j/\∀p∈e.2.2,p.2.natAbs<big)(k1:1<=k)(k2:k<N)(hN:N<=20)(hl:(2 * es.length+2) * j<16777216)(hl':es.length<=100000) :
  ∃(L:Nat) (S':jz) (rs:Es),mK [.ref n,.int k] S=.ok (.ref L) S'/\Sm S' L rs/\Su.sm rs=Su.bx k (Su.sm es)/\(∀e∈rs,Ok e.2.2/\e.2.2≠[]/\e.2.2.length<=2 * es.length * j/\S.length<=e.2.1/\e.2.1<L)/\Su.Ap rs/\rs.length<=2 * es.length/\S.length<=L/\kY S S':=by
 have k0:kY S (S++[.dct []]):=Kp.refl.lay;obtain⟨y3,y4,xs,D,T,hz,e1,f,kp⟩:=Su.B9 (w:=2) (j:=j) (b:=S.length) (i0:=0) (S:=S++[.dct []]) (S1:=S++[.dct []]) (d:=S.length) (n:=n) (es:=es) (src:=nP) (c:=mG) (g:=xm 2 (ow (j4 3) (ow (j4 4) (wV)))) (λy z _=>[.ref n,.int k,.ref S.length,y,z]) (λ_=>True) (Su.gX k) (λ_ _ _ _ _=>rfl) (x3:=.unb) (x4:=.unb) (xs0:=[]) trivial
  (show nP _ _=_ from lH (by dsimp[jT,bools]) (jX h.l)) (jX h.l) (Su.Fil.new Su.rX) λi e T Q D xs hi he _ kT f=>by
   obtain⟨b1,b2,b3⟩:=h1 e he;have tl:=kT.len;have hm:2 * i+2<=2 * es.length:=()
   have hm2:(2 * i+2) * j<=(2 * es.length) * j:=bN _ hm;have hm3:(2 * es.length+2) * j=2 * es.length * j+2 * j:=by rw[jk]
   have hm4:(2 * i+2) * j=(2 * i+1) * j+j:=dS _ _;have hm5:(2 * i+1) * j=2 * i * j+j:=dS _ _;rw[aQ]at tl;obtain⟨T0,e0,kq⟩:=JC (S:=T) (xs:=e.1) (k:=k) k1 () ();have aT:=((h.a.yY k0).G_ kT Su.rX).yY kq;have f0:=f.yY kq;have qtl:=kq.len;rw[bZ]at f0;have ne1:Wd.ex e.1 k≠[]:=λz=>by have:=Wd.mq e.1 k;rw[z]at this;simp at this;lia
   obtain⟨D1,T1,e1,f1,k1'⟩:=f0.add A6 (o:=Wd.ex e.1 k) (aT e he) () ne1 () () ();have k1l:=k1'.len;have fo:=F5 (S:=T1) (xs:=e.1) (n:=N) b1 hN;have in1:aIn false (.int k) (.ref T1.length) (T1++[.lst ((fl e.1 N).map .int)])=.ok (.bl (Su.nR e.1 k)) (T1++[.lst ((fl e.1 N).map .int)]):=by
    show opt (ju _ _) _=_;rw[jI,ki,Ld,Dt b1 k1 k2];rfl
   have kE:kY T1 (T1++[.lst ((fl e.1 N).map .int)]):=Kp.refl.lay;obtain⟨U,hU⟩:∃U,U=T1++[O.lst ((fl e.1 N).map .int)]:=⟨_,rfl⟩;rw[<- hU]at in1 kE fo;have fU:=f1.yY kE;have kTU:Kp (·=S.length) T U:=(kq.of0.trans k1').trans kE.of0
   cases hf:Su.nR e.1 k with
   | false=>
    refine⟨D1,U,[],trivial,?_,?_,kTU⟩
    ·rw[hf]at in1;unfold mG;dsimp[jT,uS,bools,e0,e1,fo,in1]
    ·rw[bZ];unfold Su.gX;rw[hf,aJ (by simp)];exact fU.mono ()
   | true=>
    have aU:=(aT.G_ k1' f0.dd).yY kE;have n0:ju (U++[.lst (AF.map kA)]) U.length=some (AF.map kA):=jI;obtain⟨L,T2,e2,l1,l2,k2'⟩:=C_ kA (λ_ _ _=>rfl) n0 (jX (o:=.lst (AF.map kA)) (aU e he)) (show 2 * e.2.2.length<16777216 by lia) (λp hp=>by
     rw[Ak]
     rcases bF.mp hp with z|z
     ·rw[z];exact show 1<2 ^ 4096 by decide +kernel
     ·rw[aS.mp z];exact show 1<2 ^ 4096 by decide +kernel) b3
    have kU2:kY U T2:=(Kp.refl.lay).trans k2';have tl2:=kU2.len;have tle:=kE.len;obtain⟨D2,T3,e3,f3,k3'⟩:=(fU.yY kU2).add A6 (o:=e.1) l1 (bJ (Su.C5 _ _) (show 2 * e.2.2.length<=j from b2)) (λz=>by rw[z]at b1;simp at b1;lia) () () ();refine⟨D2,T3,[],trivial,?_,?_,(kTU.trans kU2.of0).trans k3'⟩
    ·rw[hf]at in1;unfold mG;dsimp[jT,uS,bools,e0,e1,fo,in1];rw[show[((-1:Int),(1:Int)),((1:Int),(-1:Int))].map kA=AF.map kA from rfl];dsimp[jT,uS,bools,e2,e3]
    ·rw[bZ];unfold Su.gX;rw[hf,aK rfl];exact f3
 have kT:kY S T:=k0.old kp λq hq _ z=>()
 have fl:=f.ll;rw[bZ]at fl;obtain⟨L,S',e2,r1,r2,r3,r4⟩:=Rr f.dd f.aa f.kk ();have tl:=kT.len;have fs:=f.ss;rw[Su.DM]at fs;refine⟨L,S',_,?_,⟨r1,r2⟩,by rw[Su.yk,fs];rfl,λe he=>?_,f.pw.out _,?_,(),kT.trans r4⟩
 ·unfold mK sD tF;dsimp[jT,uS,bools,lG,Nat.reduceAdd,Nat.reduceSub,Su.vc];rw[show lC nP _ mG _ _=_ from e1];dsimp[jT,uS,bools,e2]
 ·obtain⟨m1,m2⟩:=Su.vQ he;obtain⟨v1,v2,v3⟩:=f.vv e m1;have lt:=oE (f.aa e m1);rw[bZ]at v2;exact⟨v1,λz=>(by rw[z]at m2;cases m2),v2,v3,()⟩
 ·unfold Su.qf;rw[aH];refine bJ (cN _ _) ?_;rw[(jW _).length_eq,aH];exact fl
end K28
namespace K28
open PySem L2 Am
open Po (Pl Ok Bd)
open Su (Es At Vl AF)
open He (Sz)
open Fw (rg)
def Sm.G_{n:Nat}(h:Sm S n es)(k:Kp (·=d) S S')(hd:jV S d=some kvs):Sm S' n es:=⟨k.lst _ _ (λz=>Su.p_ hd h.l z.symm) h.l,h.a.G_ k hd⟩
def ny{N:Nat}{o:ag}(h:o.Perm (rg N)):o.length=N:=by rw[h.length_eq,Wd.jO]
def kX{es:Es}{l:Su.Ps}(h:Su.sm es=l){e:Su.En}(he:e∈es):(e.1,e.2.2)∈l:=by rw[<- h];exact bu.mpr ⟨e,he,rfl⟩
structure Kn (N:Nat)(l:Su.Ps)(T:jz)(d:Nat)(K:Es):Prop where
 dd:jV T d=some (K.map Su.kv)
 gd:Su.Gd (Su.sm K)
 pm:∀e∈K,e.1.Perm (rg N)
 at_:∀e∈K,∃es:Es,Sm T e.2.1 es/\Su.sm es=He.bo l e.1
def Kn.yY{N:Nat}{l:Su.Ps}{K:Es}(h:Kn N l T d K)(k:kY T T'):Kn N l T' d K:=⟨k.dct _ _ (λz=>z) h.dd,h.gd,h.pm,λe he=>by obtain⟨es,a,b⟩:=h.at_ e he;exact⟨es,a.kp k,b⟩⟩
def Kn.G_{N f:Nat}{l:Su.Ps}{K:Es}(h:Kn N l T d K)(k:Kp (·=f) T T')(hf:jV T f=some kvs)(ne:d≠f):Kn N l T' d K:=⟨k.dct _ _ ne h.dd,h.gd,h.pm,λe he=>by obtain⟨es,a,b⟩:=h.at_ e he;exact⟨es,a.G_ k hf,b⟩⟩
def Kn.many{N:Nat}{l:Su.Ps}{K:Es}(hN:N<6)(h:Kn N l T d K):K.length<=120:=by
 have:=He.many hN h.gd.nd λo ho=>by
  obtain⟨e,he,rfl⟩:=bu.mp ho;obtain⟨f,hf,rfl⟩:=bu.mp he;exact h.pm f hf
 rwa [aH,Su.mT]at this
def YR:Ok []:=⟨List.Pairwise.nil,nofun⟩
def Kn.put{N r:Nat}{l:Su.Ps}{K:Es}{o:ag}(hN:N<6)(h:Kn N l T d K)(po:o.Perm (rg N))(hr:Sm T r es)(he:Su.sm es=He.bo l o) :
  ∃T' K',GS (.ref d) (.tup (o.map .int)) (.ref r) T=.ok Unit.unit T'/\Kn N l T' d K'/\wC (.ref d) (.tup (o.map .int)) T'=.ok (.ref r) T'/\Sm T' r es/\Kp (·=d) T T':=by
 have k:Kp (·=d) T (T.set d (.dct ((Su.nU K o r []).map Su.kv))):=Kp.refl.E2 (.inl rfl);have dd:jV (T.set d (.dct ((Su.nU K o r []).map Su.kv))) d=some ((Su.nU K o r []).map Su.kv):=Su.Az (Su.BN h.dd);obtain⟨e,e1,e2⟩:=Su.CN (D:=K) (o:=o) (r:=r) (p:=[]);have hm:=h.many hN;refine⟨_,Su.nU K o r [],?_,⟨dd,?_,λe he=>?_,λe he'=>?_⟩,?_,hr.G_ k h.dd,k⟩
 ·rw[Su.ym,h.dd,ki,Su.Dz (p:=[])];exact wO (show(K.map Su.kv).length<16777216 by rw[aH];lia)
 ·rw[Su.HL];exact h.gd.put YR
 ·rcases Su.rZ he with z|z
  ·exact h.pm e z
  ·rw[z];exact po
 ·rcases Su.rZ he' with z|z
  ·obtain⟨fs,a,b⟩:=h.at_ e z;exact⟨fs,a.G_ k h.dd,b⟩
  ·rw[z];exact⟨es,hr.G_ k h.dd,he⟩
 ·rw[Su.uI,dd,ki,Su.wc,e1,c7,ki,e2]
def Yi{o:ag}:TX true (.tup (o.map .int)) (.ref d) S=opt (jV S d) λkvs=>.ok (.bl (!(lV kvs o).isSome)) S:=by
 show opt (jV S d) (λkvs=>opt (A.ints (o.map .int)) λns=>_)=_;rw[ints_map];rfl
theorem FW{N P n:Nat}{l:Su.Ps}(hN:N<6)(hz:Sz N P C l)(hP:P<=1000)(hC:3 ^ 25 * C<big)(hs:Su.sm es=l):∀(f:Nat) {S:jz}{K:Es}{o:ag},Iv.inv o<f->o.Perm (rg N)->Sm S n es->Kn N l S d K ->
  ∃(r:Nat) (S':jz) (K' rs:Es),pU f [.ref n,.tup (o.map .int),.ref d] S=.ok (.ref r) S'/\Kn N l S' d K'/\Sm S' r rs/\Su.sm rs=He.bo l o/\Kp (·=d) S S'
 | 0,S,K,o,hf,_,_,_=>absurd hf (fV _)
 | f+1,S,K,o,hf,po,h,hK=>by
  have lo:=ny po;show ∃(r:Nat) (S':jz) (K' rs:Es),kQ qG (qO (pU f)) [.ref n,.tup (o.map .int),.ref d] S=.ok (.ref r) S'/\_;have i1:TX true (.tup (o.map .int)) (.ref d) S=.ok (.bl (!(lV (K.map Su.kv) o).isSome)) S:=by rw[Yi,hK.dd,ki]
  unfold qO qG
  cases hL:Su.fE K o with
  | some e=>
   obtain⟨m1,rfl⟩:=Su.uq hL;obtain⟨rs,r1,r2⟩:=hK.at_ e m1;have lk:lV (K.map Su.kv) e.1=some (.ref e.2.1):=by rw[Su.wc,hL];rfl
   have x1:wC (.ref d) (.tup (e.1.map .int)) S=.ok (.ref e.2.1) S:=by rw[Su.uI,hK.dd,ki,lk,ki]
   rw[lk]at i1;refine⟨e.2.1,S,K,rs,?_,hK,r1,r2,Kp.refl⟩;dsimp[jT,uS,bools,lG,Nat.reduceAdd,Nat.reduceSub,i1,isSome_some,ck,x1]
  | none=>
   have lk:lV (K.map Su.kv) o=none:=by rw[Su.wc,hL];rfl
   rw[lk]at i1;have fo:=F5 (S:=S) (xs:=o) (n:=N) lo ();have hh:(fl o N).head?=(He.ff o).map λk:Nat=>(k:Int):=by
    have:=He.Vd (o:=o);rw[lo]at this;exact this
   obtain⟨S1,hS1⟩:∃S1,S1=S++[O.lst ((fl o N).map .int)]:=⟨_,rfl⟩;have k1:kY S S1:=by rw[hS1];exact Kp.refl.lay
   have l1:ju S1 S.length=some ((fl o N).map .int):=by rw[hS1];exact jI
   rw[<- hS1]at fo;have tr:=FA l1
   cases hf1:He.ff o with
   | none=>
    have fe:fl o N=[]:=by
     rw[hf1]at hh;exact List.head?_eq_none_iff.mp hh
    obtain⟨T',K',e1,n1,x1,s1,kp⟩:=(hK.yY k1).put hN po (h.kp k1) (by rw[hs];exact(He.Fy hf1).symm);refine⟨n,T',K',es,?_,n1,s1,by rw[hs];exact(He.Fy hf1).symm,k1.of0.trans kp⟩;rw[fe]at tr;dsimp[jT,uS,bools,lG,Nat.reduceAdd,Nat.reduceSub,i1,isSome_none,eT,fo,tr,gQ,i_,ck,Su.xQ,e1,x1]
   | some k=>
    obtain⟨f1,f2,f3⟩:=He.EK hf1;obtain⟨t,ft⟩:∃t,fl o N=(k:Int)::t:=by
     rw[hf1]at hh;exact List.head?_eq_some_iff.mp hh
    rw[ft]at tr l1;have hd:=Fw.sq f1 f2 (by have:=bX f3;lia);obtain⟨S2,x2,k2⟩:=JC (S:=S1) (xs:=o) (k:=k) f1 f2 ();have k12:=k1.trans k2;have pe:=He.qp po f1 ();obtain⟨r3,S3,K3,rs3,x3,n3,s3,q3,k3⟩:=FW hN hz hP hC hs f () pe (h.kp k12) (hK.yY k12);have z3:Sz N (P+25) (3 ^ 25 * C) (Su.sm rs3):=by rw[q3];exact hz.bo hN pe
    have m3:=z3.many hN;rw[Su.mT]at m3;obtain⟨L,S4,rs4,x4,s4,q4,_,_,_,_,k4⟩:=Um (j:=2 * (2 * (P+25)+1)) s3 (k:=k) (N:=N) (λe he=>by
     have b:=z3.pb (kX rfl he);exact⟨ny (z3.pm _ (kX rfl he)),by have:=b.2;show 2 * e.2.2.length<=_;exact Nat.mul_le_mul_left _ this,λp hp=>dD (b.1.c p hp) hC⟩) f1 () () (by
      have:(2 * rs3.length+2) * (2 * (2 * (P+25)+1))<=242 * (2 * (2 * (P+25)+1)):=bN _ ()
      lia) ()
    have q4':Su.sm rs4=He.bo l o:=by rw[q4,q3];exact(He.TM hf1).symm
    obtain⟨T',K',e1,n1,x1,s1,kp⟩:=(n3.yY k4).put hN po s4 q4';refine⟨L,T',K',rs4,?_,n1,s1,q4',((k12.of0.trans k3).trans k4.of0).trans kp⟩;have l3:ju S2 S.length=some (((k:Int)::t).map .int):=k2.lst _ _ (λz=>z) l1;have l4:ju S3 S.length=some (((k:Int)::t).map .int):=k3.lst _ _ (λz=>Su.p_ (hK.yY k12).dd l3 z.symm) l3;dsimp[jT,uS,bools,lG,Nat.reduceAdd,Nat.reduceSub,i1,isSome_none,eT,fo,tr,bB,iY,ck];rw[bB]at l1 l3 l4;dsimp[jT,uS,bools,l1,A0,x2,x3,l4,x4,Su.xQ,e1,x1]
end K28
namespace K28
open PySem L2 Am
def Gm{xs:ag}{n:Nat}(px:xs.Perm (j8 1 ((n:Int)+1))):xs.length=n:=by have:=Qg px ();lia
def Ik{xs:ag}{n:Int}(px:xs.Perm (j8 1 (n+1))):xs.Nodup:=px.nodup_iff.mpr (rF _ _)
def UN{xs:ag}{n:Nat}(px:xs.Perm (j8 1 ((n:Int)+1)))(h2:n<=1000):∃(ys:ag) (S':jz),yZ [.tup (xs.map .int)] S=.ok (.tup (ys.map .int)) S'/\Bl.qQ xs ys/\ys.Perm (j8 1 ((n:Int)+1))/\kY S S':=by
 have lx:=Gm px;unfold yZ HS Iz;dsimp[jT,bools,lG,Nat.reduceAdd,Nat.reduceSub,aH,lx];rw[ZN (k:=n) jI ()];dsimp[jT,bools];have hlen:(S++[O.lst [.int 0]]).length=S.length+1:=by simp
 rw[hlen];refine Yc (xs:=xs.map .int) (S1:=S++[O.lst [.int 0]]++[O.lst (List.replicate n (.int 0))]) (XY (by dsimp[jT,bools]))
  (λt τ S'=>∃(a2 a3:A) (ps:ag),τ=[.tup (xs.map .int),.ref (S.length+1),a2,a3]/\ju S' (S.length+1)=some (ps.map .int)/\ps.length=n/\(∀(p:Nat) (h:p<xs.length),p<t->ps[(xs[p]-1).toNat]?=some ((p:Int)+1))/\kY S S')
  (λr=>∃(ys:ag) (S':jz),RS.end (RS.seq r _)=.ok (.tup (ys.map .int)) S'/\Bl.qQ xs ys/\ys.Perm (j8 1 ((n:Int)+1))/\kY S S') ⟨.unb,.unb,List.replicate n 0,rfl,?_,by simp,λ_ _ h=>absurd h (fV _),Kp.refl.lay.lay⟩ ?_ ?_
 ·rw[List.map_replicate,<- hlen];exact jI
 ·rintro t x τ S' hx ⟨a2,a3,ps,rfl,hL,hl,hps,hk⟩;rw[aO]at hx;obtain⟨v,hv,rfl⟩:=aX.mp hx;obtain⟨ht,ev⟩:=aL.mp hv;have mv:=Fi px (aW hv);refine⟨_,_,by dsimp[jT,bools,mF (show([_,_]:ae).length=2 from rfl)];rfl,.inl ?_⟩;have hi:Cq ps.length (v-1)=some (v-1).toNat:=BG () ();have lL:=oE hL;unfold Gk;dsimp[jT,bools,hL,aH,hi];refine⟨_,_,rfl,_,_,ps.set (v-1).toNat ((t:Int)+1),rfl,?_,by rw[cE];exact hl,λp hp hpt=>?_,hk.set (.inr ())⟩
  ·rw[pL lL,iM]
  ·by_cases e:p=t
   ·subst e;rw[ev,b_ ()]
   ·have ne:(xs[p]-1).toNat≠(v-1).toNat:=λz=>by
     have mp:=Fi px (cI hp);have:xs[p]=xs[t]:=by rw[ev];lia
     exact e ((dF (Ik px)).mp this)
    rw[cJ (dw ne)];exact hps p hp ()
 ·rintro τ S' ⟨a2,a3,ps,rfl,hL,hl,hps,hk⟩;rw[aH]at hps;refine⟨ps,S',by dsimp[jT,bools,hL],⟨(),λp h=>hps p h h⟩,?_,hk⟩;refine(zM (rF _ _) (λv hv=>?_) (by rw[m7];lia)).symm;have:=lY.mp hv;have hp:(v-1).toNat<xs.length:=()
  have:=aW (hps (v-1).toNat hp hp)
  rwa [show(((v-1).toNat:Nat):Int)+1=v by lia]at this
open Po (Pl Ok Bd)
open Su (Es At Vl AF)
open He (Sz)
open Fw (rg)
structure Nw (b L:Nat)(rs:Es):Prop where
 ap:Su.Ap rs
 nw:∀e∈rs,b<=e.2.1/\e.2.1<L
def CU{S:jz}{N P c n:Nat}{fs:Es}(hN:N<6)(h0:1<=N)(h:Sm S n es)(h':Sm S m fs)(hz:Sz N P C (Su.sm es))(hz':Sz N Q c (Su.sm fs))(hP:P+Q<=500)(hC:3 ^ 25 * C<big)(hc:c<big) :
  ∃(L:Nat) (S':jz) (rs:Es),om [.ref n,.ref m] S=.ok (.ref L) S'/\Sm S' L rs/\Su.sm rs=He.Vc (Su.sm es) (Su.sm fs)/\Nw S.length L rs/\S.length<=L/\kY S S':=by
 obtain⟨S1,hS1⟩:∃S1,S1=S++[O.dct []]++[O.dct []]:=⟨_,rfl⟩;have k0:kY S S1:=by rw[hS1];exact Kp.refl.lay.lay
 have d0:jV S1 S.length=some []:=by rw[hS1];exact Su.Ae Su.rX
 have d1:jV S1 (S.length+1)=some []:=by
  have:=Su.rX (S:=S++[O.dct []]) (xs:=[]);rw[aQ,b9]at this;rw[hS1];exact this
 have len1:S1.length=S.length+2:=by rw[hS1];simp
 obtain⟨j,hj⟩:∃j,j=2 * (P+25+Q)+1:=⟨_,rfl⟩;have lf:=hz'.many hN;rw[Su.mT]at lf;have hle:(fs.map Su.ent).length=fs.length:=aH ..;have key:∃(y4 y5 y6 y7:A) (D K:Es) (T:jz) (i:Nat),lC pH (xm 2 (ow (j4 4) (ow (j4 5) (wV)))) pM [.ref n,.ref m,.ref S.length,.ref (S.length+1),.unb,.unb,.unb,.unb] S1=.nx [.ref n,.ref m,.ref S.length,.ref (S.length+1),y4,y5,y6,y7] T/\i<=120 * fs.length/\Su.Fil T S.length S.length i j (Su.adds [] (He.Cs (Su.sm es) (Su.sm fs))) D/\kY S T:=by
  refine pI (n:=m) (xs:=fs.map Su.ent) (S1:=S1) (show pH _ _=_ from lH (by dsimp[jT,bools]) (k0.lst _ _ (λz=>z) h'.l))
   (λt τ T=>(∃y4 y5 y6 y7:A,τ=[.ref n,.ref m,.ref S.length,.ref (S.length+1),y4,y5,y6,y7])/\(∃(i:Nat) (D:Es),i<=120 * t/\Su.Fil T S.length S.length i j (Su.adds [] (He.Cs (Su.sm es) (Su.sm (fs.take t)))) D)/\(∃K,Kn N (Su.sm es) T (S.length+1) K)/\kY S T)
   (λr=>∃(y4 y5 y6 y7:A) (D K:Es) (T:jz) (i:Nat),r=.nx [.ref n,.ref m,.ref S.length,.ref (S.length+1),y4,y5,y6,y7] T/\i<=120 * fs.length/\Su.Fil T S.length S.length i j (Su.adds [] (He.Cs (Su.sm es) (Su.sm fs))) D/\kY S T)
   ⟨⟨_,_,_,_,rfl⟩,⟨0,[],aR _,Su.Fil.new d0⟩,⟨[],d1,Su.Gd.nil,(nofun),nofun⟩,k0⟩ (λt τ T hh=>hh.2.2.2.lst _ _ (λz=>z) h'.l) ?_ ?_
  ·rintro t z τ T hz1 ⟨⟨y4,y5,y6,y7,rfl⟩,⟨i,D,hi,fT⟩,⟨K,hK⟩,kT⟩;rw[aO]at hz1;obtain⟨e,he,rfl⟩:=aX.mp hz1;have htl:=(aL.mp he).1;have me:=aW he;have pe:=hz'.pm _ (kX rfl me);have be:=hz'.pb (kX rfl me);refine⟨[.ref n,.ref m,.ref S.length,.ref (S.length+1),.tup (e.1.map .int),.ref e.2.1,y6,y7],T,rfl,.inl ?_⟩;obtain⟨r,T1,K1,rs,x1,n1,s1,q1,k1⟩:=FW hN hz () hC rfl 26 (by have:=He.DS hN pe;lia) pe (h.kp kT) hK;have z1:Sz N (P+25) (3 ^ 25 * C) (Su.sm rs):=by rw[q1];exact hz.bo hN pe
   have m1:=z1.many hN;rw[Su.mT]at m1;have f1:Su.Fil T1 S.length S.length i j (Su.adds [] (He.Cs (Su.sm es) (Su.sm (fs.take t)))) D:=⟨k1.dct _ _ () fT.dd,fT.aa.G_ k1 hK.dd,fT.ss,fT.vv,fT.kk,fT.ll,fT.pw⟩;have p1:ju T1 e.2.1=some (Po.pl e.2.2):=k1.lst _ _ (λz=>Su.p_ hK.dd ((h'.kp kT).a e me) z.symm) ((h'.kp kT).a e me);have tl:=kT.len;have tl1:=k1.len;have len2:S.length+2<=T.length:=by have:=Su.BN hK.dd;lia
   obtain⟨z6,z7,_,D2,T2,_,x2,f2,k2⟩:=Su.B9 (w:=1) (j:=j) (b:=S.length) (i0:=i) (S:=T) (S1:=T1) (d:=S.length) (n:=r) (es:=rs) (src:=sR) (c:=sE) (g:=xm 2 (ow (j4 6) (ow (j4 7) (wV)))) (λy z _=>[.ref n,.ref m,.ref S.length,.ref (S.length+1),.tup (e.1.map .int),.ref e.2.1,y,z]) (λ_=>True) (λx Q=>Su.Bc Q x.1 (Po.times e.2.2 x.2.2)) (λ_ _ _ _ _=>rfl) (x3:=y6) (x4:=y7) (xs0:=[]) trivial
    (show sR _ _=_ from lH (by
     have x1':xr [.ref n,.tup (e.1.map .int),.ref (S.length+1)] T=.ok (.ref r) T1:=x1;dsimp[jT,uS,bools,x1']) s1.l) s1.l f1 λa x U Q1 D' xs ha hx _ kU f=>by
     have ul:=kU.len;have b1:=z1.pb (kX rfl hx);rw[gO]at f;rw[gO];have ai:i+a<14400:=()
     have hm1:(i+a) * j<=14400 * j:=bN _ ();obtain⟨L,U1,e1,l1,l2,k1'⟩:=Hh (kU.lst _ _ (λz=>Su.p_ f1.dd p1 z.symm) p1) ((s1.a.G_ kU f1.dd) x hx) (by
      have a1:=be.2;have a2:=b1.2;have a3:(2 * Q+1) * (2 * (P+25)+1)<=1001 * 1051:=dZ () ();exact dD (bJ (dZ a1 a2) a3) ⋯) (λp hp=>dD (be.1.c p hp) hc) λp hp=>dD (b1.1.c p hp) hC
     have k1l:=k1'.len;have tl':(Po.times e.2.2 x.2.2).length<=j:=by
      have:=He.PB.times be.1 b1.1;rw[hj];refine bJ this ?_
      lia
     obtain⟨D3,U2,e2,f',k'⟩:=(f.yY k1').add A6 (o:=x.1) l1 tl' (λz=>by
      have:=ny (z1.pm _ (kX rfl hx));rw[show((x.1,x.2.2):ag×Pl).1=x.1 from rfl,z]at this;simp at this;lia) () () ()
     exact⟨D3,U2,[],trivial,by unfold sE;dsimp[jT,uS,bools,e1,e2],f',k1'.of0.trans k'⟩
   have kT2:kY S T2:=(kT.old k1 λq hq _ z=>()).old k2 λq hq _ z=>()
   refine⟨[.ref n,.ref m,.ref S.length,.ref (S.length+1),.tup (e.1.map .int),.ref e.2.1,z6,z7],T2,?_,⟨_,_,_,_,rfl⟩,⟨i+1 * rs.length,D2,(),?_⟩,⟨K1,n1.G_ k2 f1.dd ()⟩,kT2⟩
   ·unfold pM;exact x2
   ·rw[Su.LI]at f2;rw[cW,he,Su.EB];unfold He.Cs at f2 ⊢;rw[iK,Su.GF];have:List.flatMap (λe=>He.MO e.2 (He.bo (Su.sm es) e.1)) (Su.sm (some e).toList)=(Su.sm rs).map λx=>(x.1,Po.times e.2.2 x.2):=by
     show He.MO e.2.2 (He.bo (Su.sm es) e.1)++[]=_;rw[cH,q1];rfl
    rw[this];exact f2
  ·rintro τ T ⟨⟨y4,y5,y6,y7,rfl⟩,⟨i,D,hi,fT⟩,⟨K,hK⟩,kT⟩;rw[hle]at hi;rw[hle,c_]at fT;exact⟨y4,y5,y6,y7,D,K,T,i,rfl,hi,fT,kT⟩
 obtain⟨y4,y5,y6,y7,D,K,T,i,e1,hi,f,kT⟩:=key;have fl:=f.ll;obtain⟨L,S',e2,r1,r2,r3,r4⟩:=Rr f.dd f.aa f.kk ();have tl:=kT.len;refine⟨L,S',_,?_,⟨r1,r2⟩,by rw[Su.yk,f.ss];rfl,⟨f.pw.out _,λe he=>?_⟩,(),kT.trans r4⟩
 ·unfold om vj vJ;dsimp[jT,uS,bools,lG,Nat.reduceAdd,Nat.reduceSub,Su.vc,aQ,b9];rw[<- hS1,show lC pH _ pM _ _=_ from e1];dsimp[jT,uS,bools,e2]
 ·obtain⟨m1,m2⟩:=Su.vQ he;obtain⟨v1,v2,v3⟩:=f.vv e m1;have lt:=oE (f.aa e m1);exact⟨v3,()⟩
def Py{S:jz}{N P n:Nat}(hN:N<6)(h:Sm S n es)(hz:Sz N P C (Su.sm es)) :
  ∃(L:Nat) (S':jz) (rs:Es),mD [.ref n] S=.ok (.ref L) S'/\Sm S' L rs/\Su.sm rs=He.Ho (Su.sm es)/\(∀b,Nw b n es->Nw b L rs)/\S.length<=L/\kY S S':=by
 have lf:=hz.many hN;rw[Su.mT]at lf;have pm:∀e∈es,e.1.Perm (rg N):=λe he=>hz.pm _ (kX rfl he);have g2:∀x y:A,gd (([x,y]:ae).length<=sizeLine)=λr:Am.R A=>r:=λx y=>by funext r;ksr_p
 obtain⟨S1,e1,k1⟩:=Su.Mn (es:=es) (n:=n) (cap:=[]) (src:=lg (jt 0)) (ex:=kO (jo (eFn yZ (jo (jt 0) (jy))) (jo (jt 1) (jy)))) (τ:=[.ref n]) (S:=S) (lH (by dsimp[jT,bools]) h.l) h.l (λe=>Su.ent (He.bk e.1,e.2)) (λe he T kT=>by
  obtain⟨ys,T',b1,b2,b3,b4⟩:=UN (S:=T) (pm e he) ();have:ys=He.bk e.1:=He.tY ⟨pm e he,b3,b2⟩ (He.qm (pm e he));subst this;exact⟨T',by dsimp[jT,bools,b1,g2];rfl,b4⟩) ()
 obtain⟨es',he'⟩:∃es',es'=es.map λe:Su.En=>(He.bk e.1,e.2):=⟨_,rfl⟩;have l1:ju (S1++[.lst (es.map λe=>Su.ent (He.bk e.1,e.2))]) S1.length=some (es'.map Su.ent):=by rw[jI,he',bh];rfl
 have nd:(es'.map Prod.fst).Nodup:=by
  have:=He.Bx (n:=N) (ks:=es.map Prod.fst) (λo ho=>by obtain⟨e,he,rfl⟩:=bu.mp ho;exact pm e he) (by
   have:=hz.cn.gd.nd;unfold Su.sm at this
   rwa [bh]at this)
  rw[he',bh];rw[bh]at this;exact this
 have x1:=Su.LH l1 nd;have k2:kY S (S1++[O.lst (es.map λe=>Su.ent (He.bk e.1,e.2))]++[O.lst ((Am.nF es').map Su.ent)]):=k1.lay.lay;have perm:=Am.rm es';have hm:∀e∈Am.nF es',∃f∈es,e=(He.bk f.1,f.2):=λe he=>by
  have:=perm.mem_iff.mp he;rw[he']at this;obtain⟨f,hf,rfl⟩:=bu.mp this;exact⟨f,hf,rfl⟩
 refine⟨_,_,Am.nF es',?_,⟨jI,λe he=>?_⟩,?_,λb hb=>⟨?_,λe he=>?_⟩,?_,k2⟩
 ·unfold mD uE uL;dsimp[jT,bools,lG,Nat.reduceAdd,Nat.reduceSub,e1,x1]
 ·obtain⟨f,hf,rfl⟩:=hm e he;exact(h.a.yY k2) f hf
 ·rw[Su.P5,he']
  skip
  congr 1;unfold Su.sm He.wb;rw[bh,bh];rfl
 ·have a1:Su.Ap es':=by
   rw[he'];unfold Su.Ap;rw[cK];refine gD (λ{e f} he hf z=>⟨λw=>z.1 ?_,z.2⟩) hb.ap;have:=dj He.bk w
   rwa [He.vH (pm e he),He.vH (pm f hf)]at this
  exact(perm.pairwise_iff (λ{a b} z=>⟨z.1.symm,z.2.symm⟩)).mpr a1
 ·obtain⟨f,hf,rfl⟩:=hm e he;have:=hb.nw f hf;have ll:=oE (h.a f hf);have kl:=k1.len;refine⟨this.1,?_⟩;rw[aQ];show f.2.1<_
  lia
 ·have kl:=k1.len;rw[aQ];lia
def pD{S:jz}{N P c n:Nat}{fs:Es}(hN:N<6)(h0:1<=N)(h:Sm S n es)(h':Sm S m fs)(hz:Sz N P C (Su.sm es))(hz':Sz N Q c (Su.sm fs))(hP:P+Q<=500)(hC:3 ^ 25 * C<big)(hc:3 ^ 25 * c<big) :
  ∃(L:Nat) (S':jz) (rs:Es),ng [.ref n,.ref m] S=.ok (.ref L) S'/\Sm S' L rs/\Su.sm rs=He.prod (Su.sm es) (Su.sm fs)/\Nw S.length L rs/\S.length<=L/\kY S S':=by
 have nl:=E1 h h' (λe he=>ny (hz.pm _ (kX rfl he))) (λe he=>ny (hz'.pm _ (kX rfl he)));by_cases c1:(Su.sm fs).length<=(Su.sm es).length
 ·obtain⟨L,S',rs,e1,s1,q1,w1,l1,k1⟩:=CU hN h0 h h' hz hz' hP hC ();refine⟨L,S',rs,?_,s1,by rw[q1];unfold He.prod;rw[aK c1],w1,l1,k1⟩;rw[Su.mT,Su.mT]at c1;unfold ng vW wk;dsimp[jT,uS,bools,lG,Nat.reduceAdd,Nat.reduceSub,nl,h.l,h'.l,aH,bf (show(fs.length:Int)<=(es.length:Int)by lia),e1]
 ·obtain⟨L1,S1,r1,e1,s1,q1,_,l1,k1⟩:=Py hN h' hz';obtain⟨L2,S2,r2,e2,s2,q2,_,l2,k2⟩:=Py hN (h.kp k1) hz;obtain⟨L3,S3,r3,e3,s3,q3,w3,l3,k3⟩:=CU hN h0 (s1.kp k2) s2 (by rw[q1];exact hz'.Ho) (by rw[q2];exact hz.Ho) () hc ();have z3:Sz N (Q+25+P) (120 * ((2 * P+1) * (C * (3 ^ 25 * c)))) (Su.sm r3):=by
   rw[q3,q1,q2];exact Sz.Vc hN hz'.Ho hz.Ho
  obtain⟨L4,S4,r4,e4,s4,q4,w4,l4,k4⟩:=Py hN s3 z3;refine⟨L4,S4,r4,?_,s4,by rw[q4,q3,q1,q2];unfold He.prod;rw[aJ c1],?_,?_,((k1.trans k2).trans k3).trans k4⟩
  ·rw[Su.mT,Su.mT]at c1;unfold ng vW wk;dsimp[jT,uS,bools,lG,Nat.reduceAdd,Nat.reduceSub,nl,h.l,h'.l,aH,bw (show ¬(fs.length:Int)<=(es.length:Int)by lia),e1,e2,e3,e4]
  ·have:=w4 _ w3;have:=k1.len;have:=k2.len;exact⟨(w4 _ w3).ap,λe he=>⟨by have:=((w4 _ w3).nw e he).1;lia,((w4 _ w3).nw e he).2⟩⟩
  ·have:=k1.len;have:=k2.len;have:=k3.len
   lia
end K28
namespace K28
open PySem L2 Am
theorem A2:∀(l:ag) (j:Nat) (h:j<l.length),(l[j]::l.eraseIdx j).Perm l
 | x::l,0,_=>eW _
 | x::l,j+1,h=>(List.Perm.swap x _ _).trans (List.Perm.cons x (A2 l j (ie h)))
def Mx{ls fs:ag}{j:Nat}(h:j<ls.length):((fs++[ls[j]])++ls.eraseIdx j).Perm (fs++ls):=by
 rw[bY];refine List.Perm.append_left fs ?_
 skip
 exact A2 ls j h
def M6{d:Int}{n:Nat}(h0:0<=d)(h:d.toNat<n):seqIndex? d n=some d.toNat:=by
 unfold seqIndex?;simp
 lia
theorem y9{α β:Type}(f:α->β):∀(l:List α) (k:Nat),(l.map f).eraseIdx k=(l.eraseIdx k).map f
 | [],_=>rfl
 | _::_,0=>rfl
 | x::l,k+1=>dj (f x::·) (y9 f l k)
def Rf{n:Int}(h:yy S b)(h1:1<=n)(h2:n<=20):∃(xs:ag) (S':jz),pS [.ref b,.int n] S=.ok (.tup (xs.map .int)) S'/\xs.Perm (j8 1 (n+1))/\yy S' b/\Kp (·=b) S S':=by
 have hbS:b<S.length:=by obtain⟨_,_,e,_⟩:=h;exact oE e
 unfold pS vn vK;dsimp[jT,bools,lG,Nat.reduceAdd,Nat.reduceSub,Mb (Qs (show(-1000000:Int)<=1 by decide) ⋯ (show -1000000<=n+1 by lia) () ()),aQ];have key:=yu (t:=sS) (c:=tu)
  (λτ S1=>∃(ls fs:ag),τ=[.ref b,.int n,.ref S.length,.ref (S.length+1)]/\ju S1 S.length=some (ls.map .int)/\ju S1 (S.length+1)=some (fs.map .int)/\(fs++ls).Perm (j8 1 (n+1))/\yy S1 b/\Kp (·=b) S S1)
  (λτ S1=>((ju S1 S.length).getD []).length)
  (λr=>∃(xs:ag) (S':jz),RS.end (RS.seq r (kF (jR (f1 vF) (jo (jt 3) jy))))=.ok (.tup (xs.map .int)) S'/\xs.Perm (j8 1 (n+1))/\yy S' b/\Kp (·=b) S S') ?_ 1000000
 ·refine key _ _ ⟨j8 1 (n+1),[],rfl,jX jI,?_,eW _,h.kp (c:=λ_=>False) (Kp.refl.lay.lay) (λz=>z),Kp.refl.lay.lay⟩ ?_
  ·have:ju (S++[.lst ((j8 1 (n+1)).map .int)]++[.lst []]) (S++[O.lst ((j8 1 (n+1)).map .int)]).length=some []:=jI;simpa using this
  ·rw[jX jI,eK,aH,m7]
   lia
 ·rintro τ S1 ⟨ls,fs,rfl,hL,hF,hp,hb,hk⟩;have hlen:fs.length+ls.length<=20:=by
   have:=hp.length_eq;rw[aQ,m7]at this
   lia
  unfold sS tu;dsimp[jT,bools,hL,aH];by_cases h0:ls=[]
  ·subst h0;left;exact⟨S1,rfl,fs,S1,by dsimp[jT,bools,hF],by simpa using hp,hb,hk⟩
  ·right;have hpos:0<ls.length:=List.length_pos_iff.mpr h0;refine⟨S1,by rw[bf (show(0:Int)<(ls.length:Int)by lia)],.inl ?_⟩;obtain⟨d,S2,e2,d0,d1,hb2,hk2⟩:=digit (m:=(ls.length:Int)) hb () ();have hL2:=hk2.lst S.length _ () hL;have hF2:=hk2.lst (S.length+1) _ () hF;have hd:d.toNat<ls.length:=()
   have lF:=oE hF2;have lL:=oE hL2;have hsq:seqIndex? d ls.length=some d.toNat:=M6 d0 hd;have hF3:ju (S2.set S.length (.lst ((ls.map A.int).eraseIdx d.toNat))) (S.length+1)=some (fs.map .int):=by rw[nW ()];exact hF2
   dsimp[jT,bools,hL,hF,aH,e2,hL2,Ig,mF (show -(2 ^ 63:Int)<=d/\d<2 ^ 63 by lia),hsq,aO,aF hd,c7,hF3,wO (show fs.length<16777216 by lia)];refine⟨_,_,rfl,⟨ls.eraseIdx d.toNat,fs++[ls[d.toNat]],rfl,?_,?_,(Mx hd).trans hp,?_,?_⟩,?_⟩
   ·rw[nW (),pL lL,y9]
   ·rw[pL (by rw[cE];exact lF),bU];rfl
   ·obtain⟨g,st,e,q⟩:=hb2;exact⟨g,st,by rw[nW (),nW ()];exact e,q⟩
   ·exact((hk.trans hk2).set (.inr (aR _))).set (.inr ())
   ·rw[nW (),pL lL,eK,eK,y9,aH,aH,List.length_eraseIdx_of_lt hd];lia
open Po (Pl Ok Bd)
open Su (Es At Vl)
open He (Sz PB)
open Fw (rg)
def Z1:Iu (.int 10) (.int 20)=λS=>R.ok (.int 100000000000000000000) S:=by funext S;exact mF ⟨by decide,by decide,by decide⟩
def at4{x0 x1 x2 x3 d:Int}(h0:0<=d)(h1:d<4):∃v:Int,pP ([.int x0,.int x1,.int x2,.int x3]:ae) d=some (.int v)/\(v=x0\/v=x1\/v=x2\/v=x3):=by
 have:d=0\/d=1\/d=2\/d=3:=()
 rcases this with rfl|rfl|rfl|rfl
 ·exact⟨x0,rfl,.inl rfl⟩
 ·exact⟨x1,rfl,.inr (.inl rfl)⟩
 ·exact⟨x2,rfl,.inr (.inr (.inl rfl))⟩
 ·exact⟨x3,rfl,.inr (.inr (.inr rfl))⟩
abbrev Hj (s:Int)(l:Pl):Pl:=l.map λp=>(p.1+s,p.2)
abbrev O6:Am.Sm:=
 jU (j5 (jA mJ (mQ (jo (eC (.int 0)) (jo (eC (.int 0)) (jo (eC (.int 55)) (jo (Mq yN (eC (.int 55))) (jy)))))) (eFn jM (jo (jt 0) (jo (eC (.int 4)) (jy))))) (j4 8))
  (j5 (j6 [none,none,some 8] (lg (jt 7)) (xm 2 (ow (j4 0) (ow (j4 1) (wV)))) (oV) (kO (jo (jA kj (jt 0) (jt 2)) (jo (jt 1) (jy))))) (FF (jt 3) (jt 5)))
def Qt{T:jz}{w:Nat}{D:Es}{o:ag}{l:Pl}(h:yy T b)(hw:ju T w=some (Po.pl l))(hwb:w≠b)(hd:jV T d=some (D.map Su.kv))(hA:At T D)(hb:∀e∈D,e.2.1≠b)(hl:l.length<=2)(hD:D.length<=1000) :
  ∃(s:Int) (L:Nat) (T':jz),O6 [.ref b,x1,x2,.ref d,x4,.tup (o.map .int),x6,.ref w,x8] T=.nx [.ref b,x1,x2,.ref d,x4,.tup (o.map .int),x6,.ref w,.int s] T'/\-55<=s/\s<=55/\jV T' d=some ((Su.nU D o L (Hj s l)).map Su.kv)/\At T' (Su.nU D o L (Hj s l))/\T.length<=L/\yy T' b/\Kp (λq=>q=b\/q=d) T T':=by
 obtain⟨T0,h0⟩:∃T0,T0=T++[O.lst [.int 0,.int 0,.int 55,.int (-55)]]:=⟨_,rfl⟩;have k0:kY T T0:=by rw[h0];exact Kp.refl.lay
 have l0:ju T0 T.length=some [.int 0,.int 0,.int 55,.int (-55)]:=by rw[h0];exact jI
 have hbT:=h.lt;obtain⟨c,T1,e1,c0,c1,b1,k1⟩:=digit (S:=T0) (m:=4) (h.kp k0 λz=>z) ⋯ ⋯;obtain⟨s,hs,hv⟩:=at4 (x0:=0) (x1:=0) (x2:=55) (x3:=-55) c0 c1;have l1:ju T1 T.length=some [.int 0,.int 0,.int 55,.int (-55)]:=k1.lst _ _ () l0;have w1:ju T1 w=some (Po.pl l):=k1.lst _ _ hwb (k0.lst _ _ (λz=>z) hw);have g2:∀x y:A,gd (([x,y]:ae).length<=sizeLine)=λr:Am.R A=>r:=λx y=>by funext r;ksr_p
 have ec:=NZ (cap:=[some 8]) (src:=lg (jt 7)) (e:=kO (jo (jA kj (jt 0) (jt 2)) (jo (jt 1) (jy)))) (τ:=[.ref b,x1,x2,.ref d,x4,.tup (o.map .int),x6,.ref w,.int s]) (S:=T1) (lH (by dsimp[jT,bools]) w1) w1 (λp=>Po.pA (p.1+s,p.2)) (λp=>by dsimp[jT,bools,g2];rfl) ();have el:(l.map λp=>Po.pA (p.1+s,p.2))=Po.pl (Hj s l):=by unfold Po.pl Hj;rw[bh];rfl
 rw[el]at ec;obtain⟨T2,h2⟩:∃T2,T2=T1++[O.lst (Po.pl (Hj s l))]:=⟨_,rfl⟩;rw[<- h2]at ec;have k2:kY T1 T2:=by rw[h2];exact Kp.refl.lay
 have k02:Kp (·=b) T T2:=(k0.of0.trans k1).trans k2.of0;have dnb:d≠b:=λz=>by
  subst z;obtain⟨_,_,e,_⟩:=h;exact Su.p_ hd e rfl
 have d2:jV T2 d=some (D.map Su.kv):=k02.dct _ _ dnb hd;have a2:At T2 D:=hA.kp k02 hb;have lL:ju T2 T1.length=some (Po.pl (Hj s l)):=by rw[h2];exact jI
 have k3:Kp (·=d) T2 (T2.set d (.dct ((Su.nU D o T1.length (Hj s l)).map Su.kv))):=Kp.refl.E2 (.inl rfl);have kl:=(k0.of0.trans k1).len;refine⟨s,T1.length,T2.set d (.dct ((Su.nU D o T1.length (Hj s l)).map Su.kv)),?_,(),(),Su.Az (Su.BN d2),(a2.put lL).G_ k3 d2,kl,?_,?_⟩
 ·unfold O6;dsimp[jT,bools];rw[<- h0];dsimp[jT,bools,e1,l1,hs];rw[show j6 [none,none,some 8] _ _ _ _ _ _=_ from ec];dsimp[jT,bools,Su.xQ,Su.ym,d2,wO (show(D.map Su.kv).length<16777216 by rw[aH];lia),Su.Dz (p:=Hj s l)]
 ·exact(b1.kp k2 λz=>z).kp k3 (dw dnb)
 ·exact(k02.mono λ_ _ z=>.inl z).trans (k3.mono λ_ _ z=>.inr z)
def Qa{l:Pl}(s:Int)(h:Ok l):Ok (Hj s l):=by
 refine⟨?_,λp hp=>?_⟩
 ·unfold Hj;rw[cK];exact h.up.imp λz=>by show _+s<_+s;lia
 ·obtain⟨q,hq,rfl⟩:=bu.mp hp;exact h.nz q hq
structure Sp (p:Pl):Prop where
 ok:Ok p
 ne:p≠[]
 pb:PB 60 100000000000000000000 p
 ll:p.length<=2
def C2{S:jz}{N:Nat}{most:Int}(h:yy S b)(hN:1<=N)(hN':N<=20)(h0:1<=most)(h1:most<=100) :
  ∃(n:Nat) (S':jz) (es:Es),lI [.ref b,.int N,.int most] S=.ok (.ref n) S'/\Sm S' n es/\Sz N 60 100000000000000000000 (Su.sm es)/\es≠[]/\(∀e∈es,Sp e.2.2)/\(∀e∈es,S.length<=e.2.1)/\(es.length:Int)<=most/\S.length<=n/\yy S' b/\Kp (·=b) S S':=by
 have hbS:=h.lt;have k0:kY S (S++[.dct []]):=Kp.refl.lay;obtain⟨c,S1,e1,c0,c1,b1,k1⟩:=digit (S:=S++[.dct []]) (m:=most) (h.kp k0 λz=>z) () ();have d1:jV S1 S.length=some []:=k1.dct _ _ () Su.rX;unfold lI p8 p7;dsimp[jT,bools,lG,Nat.reduceAdd,Nat.reduceSub,Su.vc];refine Au (lo:=0) (hi:=1+c) (S1:=S1) (show rW _ _=_ from tU (by dsimp[jT,bools,e1]) (oB () ()))
  (λi τ T=>∃(D:Es) (a4 a5 a6 a7 a8:A),τ=[.ref b,.int N,.int most,.ref S.length,a4,a5,a6,a7,a8]/\jV T S.length=some (D.map Su.kv)/\At T D/\(∀e∈D,e.1.Perm (rg N)/\Sp e.2.2/\S.length<=e.2.1)/\Su.Gd (Su.sm D)/\D.length<=i/\(1<=i->D≠[])/\yy T b/\Kp (·=b) S T)
  (λr=>∃(n:Nat) (S':jz) (es:Es),RS.end (RS.seq r _)=.ok (.ref n) S'/\Sm S' n es/\Sz N 60 100000000000000000000 (Su.sm es)/\es≠[]/\(∀e∈es,Sp e.2.2)/\(∀e∈es,S.length<=e.2.1)/\(es.length:Int)<=most/\S.length<=n/\yy S' b/\Kp (·=b) S S')
  ⟨[],_,_,_,_,_,rfl,d1,(nofun),(nofun),Su.Gd.nil,aR _,(λz=>absurd z ⋯),b1,k0.of0.trans k1⟩ ?_ ?_
 ·rintro i τ T hi ⟨D,a4,a5,a6,a7,a8,rfl,hd,hA,hP,hG,hl,hne,bT,kT⟩;left;obtain⟨o,T1,e2,po,b2,k2⟩:=Rf (n:=(N:Int)) bT () ();obtain⟨p,T2,e3,p0,p1,b3,k3⟩:=digit (S:=T1) (m:=5) b2 ⋯ ⋯;obtain⟨f,T3,e4,f0,f1,b4,k4⟩:=digit (S:=T2) (m:=3) b3 ⋯ ⋯;obtain⟨T4,h4⟩:∃T4,T4=T3++[O.lst (Po.pl [(p-2,1+f)])]:=⟨_,rfl⟩;have k5:kY T3 T4:=by rw[h4];exact Kp.refl.lay
  have l4:ju T4 T3.length=some (Po.pl [(p-2,1+f)]):=by rw[h4];exact jI
  have bl3:=b4.lt;obtain⟨g,T5,e5,g0,g1,b5,k6⟩:=digit (S:=T4) (m:=2) (b4.kp k5 λz=>z) ⋯ ⋯;have l5:ju T5 T3.length=some (Po.pl [(p-2,1+f)]):=k6.lst _ _ () l4;have g2:∀x y:A,gd (([x,y]:ae).length<=sizeLine)=λr:Am.R A=>r:=λx y=>by funext r;ksr_p
  have kA:Kp (·=b) T T5:=(((k2.trans k3).trans k4).trans k5.of0).trans k6;have tl:=kT.len;have tl3:=((k2.trans k3).trans k4).len;have tl45:=k6.len;have br:∃(l:Pl) (T6:jz),(zH (uG (jA (t8 false) (eFn jM (jo (jt 0) (jo (eC (.int 2)) (jy)))) (eC (.int 1))))
    (oW (V7 um (jt 7) (jo (kO (jo (jA kj (jA kj (jt 6) (eC (.int 1))) (eFn jM (jo (jt 0) (jo (eC (.int 3)) (jy))))) (jo (jA mJ (mQ (jo (Mq yN (eC (.int 2))) (jo (Mq yN (eC (.int 1))) (jo (eC (.int 1)) (jo (jA Iu (eC (.int 10)) (eC (.int 20))) (jy)))))) (eFn jM (jo (jt 0) (jo (eC (.int 4)) (jy))))) (jy)))) (jy))))
    (pN)) [.ref b,.int N,.int most,.ref S.length,.int (0+(i:Int)),.tup (o.map .int),.int (p-2),.ref T3.length,a8] T4=.nx [.ref b,.int N,.int most,.ref S.length,.int (0+(i:Int)),.tup (o.map .int),.int (p-2),.ref T3.length,a8] T6/\ju T6 T3.length=some (Po.pl l)/\Ok l/\l≠[]/\PB 5 100000000000000000000 l/\l.length<=2/\yy T6 b/\Kp (λq=>q=b\/q=T3.length) T5 T6:=by
   by_cases c1:g=1
   ·obtain⟨q,T6,e6,q0,q1,b6,k7⟩:=digit (S:=T5) (m:=3) b5 ⋯ ⋯;obtain⟨T7,h7⟩:∃T7,T7=T6++[O.lst [.int (-2),.int (-1),.int 1,.int 100000000000000000000]]:=⟨_,rfl⟩;have k8:kY T6 T7:=by rw[h7];exact Kp.refl.lay
    obtain⟨u,T8,e8,u0,u1,b8,k9⟩:=digit (S:=T7) (m:=4) (b6.kp k8 λz=>z) ⋯ ⋯;obtain⟨v,hv,hv'⟩:=at4 (x0:=-2) (x1:=-1) (x2:=1) (x3:=100000000000000000000) u0 u1;have bl6:=b6.lt;have l7:ju T8 T6.length=some [.int (-2),.int (-1),.int 1,.int 100000000000000000000]:=k9.lst _ _ () (by rw[h7];exact jI);have k59:Kp (·=b) T5 T8:=(k7.trans k8.of0).trans k9;have l8:ju T8 T3.length=some (Po.pl [(p-2,1+f)]):=k59.lst _ _ () l5;have l6:ju T6 T3.length=some (Po.pl [(p-2,1+f)]):=k7.lst _ _ () l5;refine⟨[(p-2,1+f),(p-2+1+q,v)],T8.set T3.length (.lst (Po.pl [(p-2,1+f)]++[.tup [.int (p-2+1+q),.int v]])),?_,pL (oE l8),?_,by simp,?_,aR _,?_,?_⟩
    ·dsimp[jT,bools,e5,show(g == 1)=true by rw[c1];rfl,l5,e6,Z1];rw[<- h7];dsimp[jT,bools,e8,l7,hv,g2,l8,wO (show(Po.pl [(p-2,1+f)]).length<16777216 from(by decide:1<16777216))]
    ·refine⟨bW.mpr ⟨λz hz=>?_,cj _ _⟩,λz hz=>?_⟩
     ·rw[aS.mp hz];show p-2<p-2+1+q;lia
     ·rcases bF.mp hz with z1|z1
      ·rw[z1];show 1+f≠0;lia
      ·rw[aS.mp z1];show v≠0;lia
    ·refine⟨λz hz=>?_,λz hz=>?_⟩
     ·rcases bF.mp hz with z1|z1
      ·rw[z1];show(1+f).natAbs<=_;lia
      ·rw[aS.mp z1];show v.natAbs<=_;lia
     ·rcases bF.mp hz with z1|z1
      ·rw[z1];show(p-2).natAbs<=_;lia
      ·rw[aS.mp z1];show(p-2+1+q).natAbs<=_;lia
    ·exact b8.kp (c:=(·=T3.length)) (Kp.refl.set (.inl rfl)) ()
    ·exact(k59.mono λ_ _ z=>.inl z).set (.inl (.inr rfl))
   ·refine⟨[(p-2,1+f)],T5,?_,l5,⟨cj _ _,λz hz=>?_⟩,by simp,⟨λz hz=>?_,λz hz=>?_⟩,(by decide:1<=2),b5,Kp.refl⟩
    ·dsimp[jT,bools,e5,show(g == 1)=false by simp;exact c1]
    ·rw[aS.mp hz];show 1+f≠0;lia
    ·rw[aS.mp hz];show(1+f).natAbs<=_;lia
    ·rw[aS.mp hz];show(p-2).natAbs<=_;lia
  obtain⟨l,T6,x6,l6,ok6,ne6,pb6,ll6,b6,k7⟩:=br;have bl5:=b5.lt;have kB:Kp (·=b) T T6:=kA.old k7 λq hq z w=>()
  obtain⟨s,L,T7,x7,s0,s1,d7,a7',lL,b7,k8⟩:=Qt (x1:=.int N) (x2:=.int most) (x4:=.int (0+(i:Int))) (x6:=.int (p-2)) (x8:=a8) (o:=o) (d:=S.length) (D:=D) b6 l6 () (kB.dct _ _ () hd) (hA.kp kB λe he z=>by have:=(hP e he).2.2;lia) (λe he z=>by have:=(hP e he).2.2;lia) ll6 ();have tl6:=kB.len;refine⟨[.ref b,.int N,.int most,.ref S.length,.int (0+(i:Int)),.tup (o.map .int),.int (p-2),.ref T3.length,.int s],T7,?_,Su.nU D o L (Hj s l),_,_,_,_,_,rfl,d7,a7',λe he=>?_,?_,?_,λ_ z=>?_,b7,?_⟩
  ·unfold rJ;dsimp[jT,bools,e2,e3,e4,g2];rw[show T3++[O.lst [A.tup [.int (p-2),.int (1+f)]]]=T4 from h4.symm];have x6':=x6;dsimp[jT,bools]at x6';rw[x6'];dsimp[jT];have x7':=x7;unfold O6 at x7';dsimp[jT,bools]at x7';exact x7'
  ·rcases Su.rZ he with z|z
   ·exact hP e z
   ·rw[z];refine⟨po,⟨Qa s ok6,λw=>ne6 (List.map_eq_nil_iff.mp w),⟨λq hq=>?_,λq hq=>?_⟩,?_⟩,by show S.length<=L;lia⟩
    ·obtain⟨q',hq',rfl⟩:=bu.mp hq;exact pb6.c q' hq'
    ·obtain⟨q',hq',rfl⟩:=bu.mp hq;have:=pb6.p q' hq'
     skip
     lia
    ·skip
     unfold Hj;rw[aH];exact ll6
  ·rw[Su.HL];exact hG.put (Qa s ok6)
  ·have:=Su.DJ (D:=D) (o:=o) (r:=L) (p:=Hj s l)
   lia
  ·obtain⟨e,z1,_⟩:=Su.CN (D:=D) (o:=o) (r:=L) (p:=Hj s l);rw[z]at z1
   cases z1
  ·exact(kT.trans kB).old k8 λq hq z w=>()
 ·rintro τ T ⟨D,a4,a5,a6,a7,a8,rfl,hd,hA,hP,hG,hl,hne,bT,kT⟩;have n0:=Su.Bp hd λe he z=>by have:=ny (hP e he).1;rw[z]at this;simp at this;lia
  obtain⟨n,S',x1,l1,a1,ln,k2⟩:=Su.A_ (cap:=[some 3]) (τ:=[.ref b,.int N,.int most,.ref S.length,a4,a5,a6,a7,a8]) (src:=lg (jR (f1 uV) (jo (jt 3) (jy)))) (t:=oV) (e:=kO (jo (jt 0) (jo (jA wC (jt 1) (jt 0)) (jy)))) hd hA (lH (by dsimp[jT,bools,n0]) jI) (λ_=>true)
   (λo r q T hT hk hr=>⟨T,rfl,Kp.refl⟩)
   (λo r T hT hk=>by
    dsimp[jT,bools,Su.yO,Su.uI,hT,hk];exact mV (show 2<=16777216 by decide)) ()
  have tl:=kT.len;have eo:Su.qf D (λ_=>true)=Su.qf D λp=>!p.isEmpty:=by
   unfold Su.qf;congr 1;refine List.filter_congr λo ho=>?_;obtain⟨e,he⟩:=Su.GY ((jW _).mem_iff.mp ho);rw[Su.L0,he];have:=(hP e (Su.uq he).1).2.1.ne;show true=!(e.2.2).isEmpty
   cases z:e.2.2 with
   | nil=>exact absurd z this
   | cons=>rfl
  have hm:∀e∈Su.qf D (λ_=>true),e∈D:=λe he=>(Su.vQ he).1;refine⟨n,S',Su.qf D λ_=>true,by dsimp[jT,bools,x1],⟨l1,a1⟩,?_,λz=>?_,λe he=>(hP e (hm e he)).2.1,λe he=>(hP e (hm e he)).2.2,?_,(),bT.kp k2 λz=>z,kT.trans k2.of0⟩
  ·refine He.Sz.of ?_ (λx hx=>?_) λx hx=>?_
   ·rw[eo,Su.yk];exact He.Cn.toS hG
   ·obtain⟨e,he,rfl⟩:=bu.mp hx;exact(hP e (hm e he)).1
   ·obtain⟨e,he,rfl⟩:=bu.mp hx;exact(hP e (hm e he)).2.1.pb
  ·have z1:=hne ();have z2:=dj List.length z;unfold Su.qf at z2;rw[aH,fM.mpr (λ_ _=>rfl),(jW _).length_eq,aH]at z2;exact z1 (fO.mp z2)
  ·unfold Su.qf;rw[aH,fM.mpr (λ_ _=>rfl),(jW _).length_eq,aH]
   lia
end K28
namespace K28
open PySem L2 Am
open Po (Pl Ok Bd)
def LD{S:jz}{D:Pl}(hd:lE S d=some (Po.iv D))(hl:D.length<=16777216):∃S',lA [.ref d] S=.ok (.ref (S.length+1)) S'/\ju S' (S.length+1)=some (Po.pl (Po.IB D))/\kY S S':=by
 obtain⟨S',e,h1,h2⟩:=OB hd hl;refine⟨S',?_,h1,h2⟩;unfold lA rD qS;dsimp[jT,bools,lG,Nat.reduceAdd,Nat.reduceSub];rw[show j6 [none,some 0] _ _ _ _ _ _=_ from e];rfl
def PX{S:jz}{n:Nat}{a b:Pl}(hn:ju S n=some (Po.pl a))(hm:ju S m=some (Po.pl b))(hl:a.length+b.length<16777216) :
  ∃(L:Nat) (S':jz),mY [.ref n,.ref m] S=.ok (.ref L) S'/\ju S' L=some (Po.pl (Po.nu a b))/\S.length<=L/\kY S S':=by
 have hd:lE (S++[.pK []]++[.lst (Po.pl (a++b))]) S.length=some (Po.iv []):=OV D9;have ad:kj (.ref n) (.ref m) (S++[.pK []])=.ok (.ref (S++[O.pK []]).length) (S++[.pK []]++[.lst (Po.pl (a++b))]):=by
  show opt (ju (S++[.pK []]) n) _=_;rw[jX hn,ki,jX hm,ki];unfold Po.pl;rw[bU];exact mV (show(a.map Po.pA).length+(b.map Po.pA).length<=16777216 by rw[aH,aH];lia)
 obtain⟨y3,y4,T,e,hD,kp⟩:=IX (S:=S++[.pK []]) (S1:=S++[.pK []]++[.lst (Po.pl (a++b))]) (x0:=.ref n) (x1:=.ref m) (x3:=.unb) (x4:=.unb) (src:=ni) (l:=a++b) (show ni _ _=_ from lH (by dsimp[jT,bools,ad]) jI) jI hd (by rw[aQ];simpa using hl);have ln:=Po.oG (a++b) [];rw[aQ,bR,bZ]at ln;obtain⟨S',e2,h1,h2⟩:=LD hD ();have k1:kY S T:=((Kp.refl.lay (o:=.pK [])).lay (o:=.lst (Po.pl (a++b)))).old kp λq hq _ z=>()
 refine⟨T.length+1,S',?_,h1,by have:=k1.len;lia,k1.trans h2⟩;unfold mY qN qT;dsimp[jT,bools,lG,Nat.reduceAdd,Nat.reduceSub,zq];rw[show lC ni _ tW _ _=_ from e];dsimp[jT,bools,e2]
def C3{S:jz}{n:Nat}{a b:Pl}(hn:ju S n=some (Po.pl a))(hm:ju S m=some (Po.pl b))(hl:a.length * b.length<16777216)(ha:∀p∈a,p.2.natAbs<big)(hb:∀p∈b,p.2.natAbs<big) :
  ∃(L:Nat) (S':jz),ko [.ref n,.ref m] S=.ok (.ref L) S'/\ju S' L=some (Po.pl (Po.times a b))/\S.length<=L/\kY S S':=by
 have hd:lE (S++[.pK []]) S.length=some []:=D9;obtain⟨y3,y4,y5,y6,T,e,hD,kp⟩:=ME (S:=S++[.pK []]) (x3:=.unb) (x4:=.unb) (x5:=.unb) (x6:=.unb) (jX hn) (jX hm) hd hl ha hb;have ln:=Po.oG (Po.C6 a b) [];rw[Po.yF,bR,bZ]at ln;obtain⟨S',e2,h1,h2⟩:=LD hD ();have k1:kY S T:=(Kp.refl.lay (o:=.pK [])).old kp λq hq _ z=>()
 refine⟨T.length+1,S',?_,h1,by have:=k1.len;lia,k1.trans h2⟩;unfold ko qg qe;dsimp[jT,bools,lG,Nat.reduceAdd,Nat.reduceSub,zq];rw[show lC r8 _ rO _ _=_ from e];dsimp[jT,bools,e2]
open Po (Pl Ok Bd)
def P6{L:Nat}{l:Pl}(hL:ju S L=some (Po.pl l))(ok:Ok l)(hl:l.length<=1000000):∃S',nH [.ref L] S=.ok (.bl true) S'/\kY S S':=by
 unfold nH tB sW;dsimp[jT,bools,lG,Nat.reduceAdd,Nat.reduceSub,hL,c7,show zV .lst "list" = some true from rfl,ck];refine pI (n:=L) (xs:=Po.pl l) (S1:=S) (show uN _ _=_ from lH (by dsimp[jT,bools]) hL)
  (λi τ T=>(∃a1 a2:A,τ=[.ref L,a1,a2])/\T=S) (λr=>∃S',RS.end (RS.seq r _)=.ok (.bl true) S'/\kY S S') ⟨⟨_,_,rfl⟩,rfl⟩ (λi τ T h=>by rw[h.2];exact hL) ?_ ?_
 ·rintro i z τ T hz ⟨⟨a1,a2,rfl⟩,rfl⟩;unfold Po.pl at hz;rw[aO]at hz;obtain⟨p,hp,rfl⟩:=aX.mp hz;have nz:(p.2 == 0)=false:=by simpa using ok.nz p (aW hp)
  refine⟨[.ref L,.tup [.int p.1,.int p.2],a2],T,rfl,.inl ?_⟩;unfold uM;dsimp[jT,bools,show zV .tup "tuple" = some true from rfl,ck,bq,bR,bZ,Nat.reduceAdd,show(((2:Nat):Int) == 2)=true from rfl,LC,nz];refine Jl (xs:=[.int p.1,.int p.2]) (S1:=T) (show uO _ _=_ from OE (by dsimp[jT,bools]))
   (λj τ T'=>(∃a2:A,τ=[.ref L,.tup [.int p.1,.int p.2],a2])/\T'=T) (λr=>∃τ' S',r=.nx τ' S'/\(∃a1 a2:A,τ'=[.ref L,a1,a2])/\S'=T) ⟨⟨_,rfl⟩,rfl⟩ ?_ ?_
  ·rintro j y τ T' hy ⟨⟨a2,rfl⟩,rfl⟩;obtain⟨q,rfl⟩:∃q:Int,y=.int q:=by
    have:=aW hy;simp at this
    rcases this with z|z
    ·exact⟨_,z⟩
    ·exact⟨_,z⟩
   refine⟨[.ref L,.tup [.int p.1,.int p.2],.int q],T',rfl,.inl ?_⟩;unfold uQ;dsimp[jT,bools,show zV .int "int" = some true from rfl,show zV .int "bool" = some false from rfl,ck];exact⟨_,_,rfl,⟨_,rfl⟩,rfl⟩
  ·rintro τ T' ⟨⟨a2,rfl⟩,rfl⟩;exact⟨_,_,rfl,⟨_,_,rfl⟩,rfl⟩
 ·rintro τ T ⟨⟨a1,a2,rfl⟩,rfl⟩;have ix:∀j:Int,0<=j->j<(l.length:Int)->pP (Po.pl l) j=some (.tup [.int (l.getD j.toNat (0,0)).1,.int (l.getD j.toNat (0,0)).2]):=λj h0 h1=>Cb (k:=j.toNat) () (Vy ());have cc:=yE (lo:=0) (hi:=(l.length:Int)-1) (cap:=[some 0]) (src:=t6 (jA aSub (jR (f1 nV) (jo (jt 0) (jy))) (eC (.int 1)))) (t:=oV) (e:=jA Wz (jA mJ (jA mJ (jt 1) (jt 0)) (eC (.int 0))) (jA mJ (jA mJ (jt 1) (jA kj (jt 0) (eC (.int 1)))) (eC (.int 0)))) (τ:=[.ref L,a1,a2]) (S:=T) (S1:=T)
   (tU (by dsimp[jT,bools,hL,xj]) (oB () ())) (λ_=>true) (λ_=>.bl true) (λ_ _ _=>rfl) (λj h0 h1 _=>by
    have lt:(l.getD j.toNat (0,0)).1<(l.getD (j+1).toNat (0,0)).1:=by
     have e1:(j+1).toNat=j.toNat+1:=()
     rw[e1,aI,aI,aF (show j.toNat<l.length by lia),aF (show j.toNat+1<l.length by lia)];exact cG.mp ok.up _ _ _ _ ()
    dsimp[jT,bools,hL,ix j h0 (),ix (j+1) () (),A0,bf lt]) ()
  have al:∀(xs:ag) (S:jz) (n:Nat),ju S n=some (xs.map λ_=>.bl true)->Nd (.ref n) S=.ok (.bl true) S:=λxs S n h=>by
   show opt (ju S n) _=_;rw[h];show opt (A.R_ _) _=_;have b1:∀xs:ag,A.R_ (xs.map λ_=>A.bl true)=some (xs.map λ_=>true):=λxs=>by
    induction xs with
    | nil=>rfl
    | cons x xs ih=>rw[bB,v_,ih];rfl
   rw[b1];have b2:∀xs:ag,((xs.map λ_=>true).all λb=>b)=true:=λxs=>by
    induction xs with
    | nil=>rfl
    | cons x xs ih=>exact ih
   show Am.R.ok (A.bl _) S=_;rw[b2]
  dsimp[jT,bools,cc,al _ _ _ jI];exact⟨_,rfl,Kp.refl.lay⟩
open Po (Pl Ok Bd)
theorem JT{k:Nat}:∀l:Pl,su (uP S (k+2)) (Po.pl l) (Po.pl l)=some true
 | []=>rfl
 | p::l=>by
  have e:uP S (k+2) (Po.pA p) (Po.pA p)=some true:=by
   show su (uP S (k+1)) (([p.1,p.2]:ag).map .int) (([p.1,p.2]:ag).map .int)=_;rw[wz,bf rfl]
  show(uP S (k+2) (Po.pA p) (Po.pA p)).bind _=_;rw[e];show Option.map _ (su (uP S (k+2)) (Po.pl l) (Po.pl l))=_;rw[JT l];rfl
open Po (Pl Ok Bd)
open Su (Es At Vl)
def UX{S:jz}{r:Nat}{D:Es}{o:ag}{p:Pl}{k:Nat}(hd:jV S d=some (D.map Su.kv))(hA:At S D)(hv:Vl k b D)(hr:ju S r=some (Po.pl p))(hl:D.length<16777216)(hk:k+p.length<16777216) :
  ∃(L:Nat) (S':jz),kc [.ref d,.tup (o.map .int),.ref r] S=.ok .non S'/\jV S' d=some ((Su.nU D o L (Po.nu (Su.vS (Su.sm D) o) p)).map Su.kv)/\At S' (Su.nU D o L (Po.nu (Su.vS (Su.sm D) o) p))/\S.length<=L/\Kp (·=d) S S':=by
 obtain⟨x,ex,hx⟩:=Su.get_or (o:=o) hd hA;have vo:=hv.v o;obtain⟨L,S2,e2,h1,h2,k2⟩:=PX hx (jX (o:=.lst []) hr) ();have kS:kY S S2:=(Kp.refl.lay).trans k2;have hd2:=kS.dct _ _ (λz=>z) hd;have hd1:jV (S++[.lst []]) d=some (D.map Su.kv):=Su.Ae hd;refine⟨L,S2.set d (.dct ((Su.nU D o L (Po.nu (Su.vS (Su.sm D) o) p)).map Su.kv)),?_,Su.Az (Su.BN hd2),?_,by simp at h2;lia,kS.of0.E2 (.inl rfl)⟩
 ·unfold kc p9 qb;kj_on;dsimp[jT,bools,lG,Nat.reduceAdd,Nat.reduceSub,Su.Lq,Su.JB,hd,c7,n0,Su.JH,hd1,ex,e2,Su.xQ,Su.ym,hd2,wO (show(D.map Su.kv).length<16777216 by rw[aH];exact hl),Su.Dz (p:=Po.nu (Su.vS (Su.sm D) o) p)]
 ·refine(Su.At.put (hA.yY kS) h1).kp (Kp.refl.E2 (.inl rfl)) λe he z=>?_
  rcases Su.rZ he with y|y
  ·exact Su.p_ hd (hA e y) z
  ·rw[y]at z;exact Su.p_ hd2 h1 z
def zj:Su.AU kc:=λh1 h2 h3 h4 h5 h6=>UX h1 h2 h3 h4 h5 h6
def Nl{a:Nat}{q:Pl}(h:ju S a=some (Po.pl q))(h':ju S b=some []):uP S 12 (.ref a) (.ref b)=some q.isEmpty:=by
 show(ju S a).bind (λxs=>(ju S b).bind λys=>su (uP S 11) xs ys)=_;rw[h,h']
 cases q<;>rfl
def K6{S:jz}{D:Es}(hd:jV S d=some (D.map Su.kv))(hA:At S D)(hne:∀e∈D,e.1≠[])(hl:D.length<=16777216) :
  ∃(n:Nat) (S':jz),lR [.ref d] S=.ok (.ref n) S'/\ju S' n=some ((Su.qf D λp=>!p.isEmpty).map Su.ent)/\At S' (Su.qf D λp=>!p.isEmpty)/\S.length<n/\kY S S':=by
 have n0:=Su.Bp hd hne;obtain⟨n,S',e,h1,h2,h3,h4⟩:=Su.A_ (cap:=[some 0]) (τ:=[.ref d]) (src:=lg (jR (f1 uV) (jo (jt 0) (jy)))) (t:=uG (jA (t8 true) (jA wC (jt 1) (jt 0)) (mQ (jy)))) (e:=kO (jo (jt 0) (jo (jA wC (jt 1) (jt 0)) (jy)))) hd hA (lH (by dsimp[jT,bools,n0]) jI) (λp=>!p.isEmpty)
  (λo r q T hT hk hr=>⟨T++[.lst []],by
   have nl:newL [] T=.ok (.ref T.length) (T++[.lst []]):=j7 (show 0<=16777216 by decide);have q1:t8 true (.ref r) (.ref T.length) (T++[.lst []])=.ok (.bl (!q.isEmpty)) (T++[.lst []]):=yU (Nl (jX hr) jI);dsimp[jT,bools,Su.yO,Su.uI,hT,hk,nl,q1],Kp.refl.lay⟩)
  (λo r T hT hk=>by
   dsimp[jT,bools,Su.yO,Su.uI,hT,hk];exact mV (show 2<=16777216 by decide)) hl
 refine⟨n,S',?_,h1,h2,h3,h4⟩;unfold lR sI tH;dsimp[jT,bools,lG,Nat.reduceAdd,Nat.reduceSub,e]
def K8{S:jz}{n:Nat}{es:Es}(h:Sm S n es)(hl:es.length<=16777216):∃(m:Nat) (S':jz) (fs:Es),oZ [.ref n] S=.ok (.ref m) S'/\Sm S' m fs/\Su.sm fs=Su.sm es/\(∀e∈fs,S.length<=e.2.1/\e.2.1<m)/\S.length<=m/\kY S S':=by
 obtain⟨m,S',fs,e,h1,h2,h3,h4,h5,h6⟩:=Su.FH (es:=es) (n:=n) (cap:=[]) (src:=lg (jt 0)) (ex:=kO (jo (jt 0) (jo (jR (f1 wQ) (jo (jt 1) (jy))) (jy)))) (τ:=[.ref n]) (lH (by dsimp[jT,bools]) h.l) h.l (λp=>p)
  (λe he T kT=>⟨T.length,T++[.lst (Po.pl e.2.2)],by
   dsimp[jT,bools,(h.a.yY kT) e he];exact mV (show 2<=16777216 by decide),jI,aR _,Kp.refl.lay⟩) hl
 refine⟨m,S',fs,?_,⟨h1,h2⟩,h3,h4,h5,h6⟩;unfold oZ xC wU;dsimp[jT,bools,lG,Nat.reduceAdd,Nat.reduceSub];rw[show j6 [none,none] _ _ _ _ _ _=_ from e];rfl
def QY{n:Nat}{es:Es}(h:Sm S n es)(hv:∀e∈es,Ok e.2.2/\e.2.2≠[]/\e.2.2.length<=1000000):∃S',oQ [.ref n] S=.ok (.bl true) S'/\kY S S':=by
 unfold oQ ur uJ;dsimp[jT,bools,lG,Nat.reduceAdd,Nat.reduceSub,h.l,c7,show zV .lst "list" = some true from rfl,ck];refine pI (n:=n) (xs:=es.map Su.ent) (S1:=S) (show vM _ _=_ from lH (by dsimp[jT,bools]) h.l)
  (λi τ T=>(∃a1:A,τ=[.ref n,a1])/\kY S T) (λr=>∃S',RS.end (RS.seq r _)=.ok (.bl true) S'/\kY S S') ⟨⟨_,rfl⟩,Kp.refl⟩ (λi τ T k=>k.2.lst _ _ (λz=>z) h.l) ?_ ?_
 ·rintro i z τ T hz ⟨⟨a1,rfl⟩,kT⟩;rw[aO]at hz;obtain⟨e,he,rfl⟩:=aX.mp hz;have hm:=aW he;obtain⟨v1,v2,v3⟩:=hv e hm;have hr:=(h.a.yY kT) e hm;obtain⟨T1,e1,k1⟩:=P6 hr v1 v3;have nl:newL [] T1=.ok (.ref T1.length) (T1++[.lst []]):=j7 (show 0<=16777216 by decide);have q1:t8 false (.ref e.2.1) (.ref T1.length) (T1++[.lst []])=.ok (.bl false) (T1++[.lst []]):=by
   rw[HD (Nl (jX (k1.lst _ _ (λz=>z) hr)) jI)]
   cases hq:e.2.2 with
   | nil=>exact absurd hq v2
   | cons=>rfl
  refine⟨[.ref n,Su.ent e],T,rfl,.inl ?_⟩;unfold uW;dsimp[jT,bools,Su.ent,show zV .tup "tuple" = some true from rfl,ck,bq,bR,bZ,Nat.reduceAdd,show(((2:Nat):Int) == 2)=true from rfl,A0,LC,e1,nl,q1];exact⟨_,_,rfl,⟨_,rfl⟩,(kT.trans k1).lay⟩
 ·rintro τ T ⟨⟨a1,rfl⟩,kT⟩;dsimp[jT,bools];exact⟨_,rfl,kT⟩
theorem GH{k:Nat}:∀{es fs:Es},At S es->At S fs->Su.sm es=Su.sm fs->su (uP S (k+4)) (es.map Su.ent) (fs.map Su.ent)=some true
 | [],[],_,_,_=>rfl
 | [],f::fs,_,_,h=>nomatch h
 | e::es,[],_,_,h=>nomatch h
 | e::es,f::fs,h1,h2,h3=>by
  obtain⟨h4,h5⟩:=List.cons.inj h3;have h4:(e.1,e.2.2)=(f.1,f.2.2):=h4;obtain⟨e1,e2⟩:=Prod.mk.inj h4;have a1:=h1 e (aM ..);have a2:=h2 f (aM ..);rw[<- e2]at a2;have q1:uP S (k+3) (.tup (e.1.map .int)) (.tup (f.1.map .int))=some true:=by
   rw[<- e1];show su (uP S (k+2)) _ _=_;rw[wz,bf rfl]
  have q2:uP S (k+3) (.ref e.2.1) (.ref f.2.1)=some true:=by
   show(ju S e.2.1).bind (λxs=>(ju S f.2.1).bind λys=>su (uP S (k+2)) xs ys)=_;rw[a1,a2];exact JT (k:=k) _
  have q:uP S (k+4) (Su.ent e) (Su.ent f)=some true:=by
   skip
   show(uP S (k+3) _ _).bind (λp=>((uP S (k+3) _ _).bind λq=>(su (uP S (k+3)) [] []).map λr=>q && r).map λq=>p && q)=_;rw[q1,q2];rfl
  show(uP S (k+4) (Su.ent e) (Su.ent f)).bind _=_;rw[q]
  skip
  rw[GH (λx hx=>h1 x (aN _ hx)) (λx hx=>h2 x (aN _ hx)) h5];rfl
def DE{n:Nat}{fs:Es}(h:Sm S n es)(h':Sm S m fs)(e:Su.sm es=Su.sm fs):uP S 12 (.ref n) (.ref m)=some true:=by
 show(ju S n).bind (λxs=>(ju S m).bind λys=>su (uP S 11) xs ys)=_;rw[h.l,h'.l];exact GH (k:=7) h.a h'.a e
def aba(xs:ae)(j:Nat)(h:j<=xs.length):BC xs none (some (j:Int))=xs.take j:=by
 unfold BC;rw[HT.Aw,HT.F_,jg,je (),Nat.sub_zero]
def slT{us:ag}{t:Nat}(h:t<us.length):Mz (.tup (us.map .int)) none (some (t:Int)) S=.ok (.tup ((us.take t).map .int)) S:=by
 have hg:¬(HT.oh (us.map A.int).length 0 none=0/\HT.oh (us.map A.int).length (us.map A.int).length (some (t:Int))=(us.map A.int).length):=by
  rw[HT.Aw,aH]
  lia
 have hs:Mz (.tup (us.map .int)) none (some (t:Int)) S=.ok (.tup (BC (us.map .int) none (some (t:Int)))) S:=mF hg;rw[hs,aba _ t (by rw[aH];lia),map_take]
def slD{us:ag}{t:Nat}(h0:1<=t)(h:t<=us.length):Mz (.tup (us.map .int)) (some (t:Int)) none S=.ok (.tup ((us.drop t).map .int)) S:=by
 have hg:¬(HT.oh (us.map A.int).length 0 (some (t:Int))=0/\HT.oh (us.map A.int).length (us.map A.int).length none=(us.map A.int).length):=by
  rw[HT.Aw,aH]
  lia
 have hs:Mz (.tup (us.map .int)) (some (t:Int)) none S=.ok (.tup (BC (us.map .int) (some (t:Int)) none)) S:=mF hg;rw[hs];congr 2;unfold BC;rw[HT.Aw,HT.F_,aH,je (),List.take_of_length_le (by simp),map_drop]
open Po (Pl Ok Bd)
open Su (Es At Vl AF)
def Pq{o:ag}{k:Nat}(h1:1<=k)(h2:k<o.length):o.take (k-1)++[o.getD k 0,o.getD (k-1) 0]++o.drop (k+1)=Wd.ex o k:=by
 apply cL;intro p;rw[Wd.oN h1 h2];have l1:(o.take (k-1)).length=k-1:=by rw[bK];lia
 rw[bY];by_cases c1:p<k-1
 ·rw[bI (),aJ (),aJ (),List.getElem?_take,aK c1]
 ·rw[dJ (),l1];by_cases c2:p=k-1
  ·subst c2;rw[aJ (),aK rfl,gZ];show some (o.getD k 0)=_;rw[Wd.mh h2,aF h2]
  ·by_cases c3:p=k
   ·subst c3;rw[aK rfl,show p-(p-1)=1 by lia];show some (o.getD (p-1) 0)=_;rw[Wd.mh (),aF ()]
   ·rw[aJ c3,aJ c2,dJ (by show 2<=_;lia),fS];congr 1;show k+1+(p-(k-1)-2)=p
    lia
def EW{xs ys:ag}(h:xs.length+ys.length<=16777216):kj (.tup (xs.map .int)) (.tup (ys.map .int)) S=.ok (.tup ((xs++ys).map .int)) S:=by
 skip
 rw[bU];exact abl (by rw[aH,aH];exact h)
def Yt:∀p∈AF,p.2.natAbs<big:=λp hp=>by
 rw[Ak]
 rcases bF.mp hp with z|z
 ·rw[z];exact show 1<2 ^ 4096 by decide +kernel
 ·rw[aS.mp z];exact show 1<2 ^ 4096 by decide +kernel
def XI{S:jz}{n N k:Nat}{es:Es}(h:Sm S n es)(h1:∀e∈es,e.1.length=N/\2 * e.2.2.length<=j/\∀p∈e.2.2,p.2.natAbs<big)(k1:1<=k)(k2:k<N)(hN:N<=20)(hl:(2 * es.length+2) * j<16777216)(hl':es.length<=100000) :
  ∃(L:Nat) (S':jz) (rs:Es),lD [.ref n,.int k] S=.ok (.ref L) S'/\Sm S' L rs/\Su.sm rs=Su.bx k (Su.sm es)/\(∀e∈rs,Ok e.2.2/\e.2.2.length<=2 * es.length * j)/\rs.length<=2 * es.length/\S.length<=L/\kY S S':=by
 have k0:kY S (S++[.dct []]):=Kp.refl.lay;have g2:∀x y:A,gd (([x,y]:ae).length<=sizeLine)=λr:Am.R A=>r:=λx y=>by funext r;ksr_p
 obtain⟨y3,y4,xs,D,T,hz,e1,f,kp⟩:=Su.B9 (w:=2) (j:=j) (b:=S.length) (i0:=0) (S:=S++[.dct []]) (S1:=S++[.dct []]) (d:=S.length) (n:=n) (es:=es) (src:=lN) (c:=kJ) (g:=xm 2 (ow (j4 3) (ow (j4 4) (wV)))) (λy z xs=>.ref n::.int k::.ref S.length::y::z::xs) (λxs=>∃a,xs=[a]) (Su.gX k) (λ_ _ _ _ _=>rfl) (x3:=.unb) (x4:=.unb) (xs0:=[.unb]) ⟨_,rfl⟩
  (show lN _ _=_ from lH (by dsimp[jT,bools]) (jX h.l)) (jX h.l) (Su.Fil.new Su.rX) λi e T Q D xs hi he hx kT f=>by
   obtain⟨a5,rfl⟩:=hx;obtain⟨b1,b2,b3⟩:=h1 e he;have tl:=kT.len;have hm:2 * i+2<=2 * es.length:=()
   have hm2:(2 * i+2) * j<=(2 * es.length) * j:=bN _ hm;have hm3:(2 * es.length+2) * j=2 * es.length * j+2 * j:=by rw[jk]
   have hm4:(2 * i+2) * j=(2 * i+1) * j+j:=dS _ _;have hm5:(2 * i+1) * j=2 * i * j+j:=dS _ _;rw[aQ]at tl;have aT:=(h.a.yY k0).G_ kT Su.rX;rw[bZ]at f;have ne1:Wd.ex e.1 k≠[]:=λz=>by have:=Wd.mq e.1 k;rw[z]at this;simp at this;lia
   obtain⟨D1,T1,e1,f1,k1'⟩:=f.add zj (o:=Wd.ex e.1 k) (aT e he) () ne1 () () ();have k1l:=k1'.len;have a1:pP (e.1.map A.int) (k:Int)=some (.int (e.1.getD k 0)):=Ss rfl ();have a2:pP (e.1.map A.int) ((k:Int)-1)=some (.int (e.1.getD (k-1) 0)):=Ss (k:=k-1) () ();have s1:Mz (.tup (e.1.map .int)) none (some ((k:Int)-1)) T=.ok (.tup ((e.1.take (k-1)).map .int)) T:=by
    rw[show(k:Int)-1=((k-1:Nat):Int)by lia];exact slT ()
   have s2:Mz (.tup (e.1.map .int)) (some ((k:Int)+1)) none T=.ok (.tup ((e.1.drop (k+1)).map .int)) T:=by
    rw[show(k:Int)+1=((k+1:Nat):Int)by lia];exact slD () ()
   have x1:pP (e.1.map A.int) (k:Int)=some (.int (e.1.getD k 0)):=Ss rfl ();have x2:pP (e.1.map A.int) ((k:Int)-1)=some (.int (e.1.getD (k-1) 0)):=Ss (k:=k-1) () ();have d1:kj (.tup ((e.1.take (k-1)).map .int)) (.tup [.int (e.1.getD k 0),.int (e.1.getD (k-1) 0)]) T=.ok (.tup ((e.1.take (k-1)++[e.1.getD k 0,e.1.getD (k-1) 0]).map .int)) T:=
    EW (ys:=[e.1.getD k 0,e.1.getD (k-1) 0]) (by rw[bK];show _+2<=_;lia)
   have d2:kj (.tup ((e.1.take (k-1)++[e.1.getD k 0,e.1.getD (k-1) 0]).map .int)) (.tup ((e.1.drop (k+1)).map .int)) T=.ok (.tup ((Wd.ex e.1 k).map .int)) T:=by
    rw[EW (by rw[aQ,bK,dg];show _+2+_<=_;lia),Pq k1 ()]
   cases hf:Su.nR e.1 k with
   | false=>
    refine⟨D1,T1,[.tup ((Wd.ex e.1 k).map .int)],⟨_,rfl⟩,?_,?_,k1'⟩
    ·unfold kJ;have hd:decide (e.1.getD (k-1) 0>e.1.getD k 0)=false:=hf;dsimp[jT,uS,bools,s1,a1,a2,g2,d1,s2,d2,e1,hd]
    ·rw[bZ];unfold Su.gX;rw[hf,aJ (by simp)];exact f1.mono ()
   | true=>
    have aU:=aT.G_ k1' f.dd;have n0:ju (T1++[.lst (Po.pl AF)]) T1.length=some (Po.pl AF):=jI;obtain⟨L,T2,e2,l1,l2,k2'⟩:=C3 n0 (jX (o:=.lst (Po.pl AF)) (aU e he)) (show 2 * e.2.2.length<16777216 by lia) Yt b3;have kU2:kY T1 T2:=(Kp.refl.lay).trans k2';have tl2:=kU2.len;obtain⟨D2,T3,e3,f3,k3'⟩:=(f1.yY kU2).add zj (o:=e.1) l1 (bJ (Su.C5 _ _) (show 2 * e.2.2.length<=j from b2)) (λz=>by rw[z]at b1;simp at b1;lia) () () ();refine⟨D2,T3,[.tup ((Wd.ex e.1 k).map .int)],⟨_,rfl⟩,?_,?_,(k1'.trans kU2.of0).trans k3'⟩
    ·unfold kJ;have hd:decide (e.1.getD (k-1) 0>e.1.getD k 0)=true:=hf;rw[show Po.pl AF=[A.tup [.int (-1),.int 1],.tup [.int 1,.int (-1)]]from rfl]at e2;dsimp[jT,uS,bools,s1,a1,a2,g2,d1,s2,d2,e1,hd,e2,e3]
    ·rw[bZ];unfold Su.gX;rw[hf,aK rfl];exact f3
 have kT:kY S T:=k0.old kp λq hq _ z=>()
 have fl:=f.ll;rw[bZ]at fl;obtain⟨L,S',e2,r1,r2,r3,r4⟩:=K6 f.dd f.aa f.kk ();have tl:=kT.len;have fs:=f.ss;rw[Su.DM]at fs;refine⟨L,S',_,?_,⟨r1,r2⟩,by rw[Su.yk,fs];rfl,λe he=>?_,?_,(),kT.trans r4⟩
 ·obtain⟨a5,rfl⟩:=hz;unfold lD n8 n_;dsimp[jT,uS,bools,lG,Nat.reduceAdd,Nat.reduceSub,Su.vc];rw[show lC lN _ kJ _ _=_ from e1];dsimp[jT,uS,bools,e2]
 ·obtain⟨m1,m2⟩:=Su.vQ he;obtain⟨v1,v2,v3⟩:=f.vv e m1;rw[bZ]at v2;exact⟨v1,v2⟩
 ·unfold Su.qf;rw[aH];refine bJ (cN _ _) ?_;rw[(jW _).length_eq,aH];exact fl
end K28
namespace K28
open PySem L2 Am
open Po (Pl Ok Bd)
open Su (Es At Vl AF)
def PJ{es:Es}{m:Nat}(h:m<es.length):pP (es.map Su.ent) (m:Int)=some (.tup [.tup (es[m].1.map .int),.ref es[m].2.1]):=Cb rfl (by rw[aO,aF h];rfl)
def Fb{x:A}:pP (xs++[x]) (-1)=some x:=by
 have e:Cq (xs++[x]).length (-1)=some xs.length:=by
  unfold Cq;rw[aQ,b9];rw[aJ (),aK ()];congr 1
  lia
 unfold pP;rw[e,dH,dJ (aR _),gZ];rfl
def NF{n:Nat}{es:Es}(h:Sm S n es)(hb:∀e∈es,b<=e.2.1/\e.2.1<n/\e.2.2.length<=100000)(ap:Su.Ap es)(hl:es.length<=100000):∃S',pX [.ref n] S=.ok (.bl true) S'/\ju S' n=some (es.map Su.ent)/\Kp (λq=>b<=q) S S':=by
 have g2:∀x y:A,gd (([x,y]:ae).length<=sizeLine)=λr:Am.R A=>r:=λx y=>by funext r;ksr_p
 have a1:∀x y:A,pP ([x,y]:ae) 1=some y:=λ_ _=>rfl;have ne:∀i j (hi:i<es.length) (hj:j<es.length),i≠j->es[i].2.1≠es[j].2.1:=λi j hi hj z=>by
  have pw:=cG.mp ap
  rcases Nat.lt_or_gt_of_ne z with c|c
  ·exact(pw i j hi hj c).2
  ·exact λy=>(pw j i hj hi c).2 y.symm
 unfold pX vL u_;dsimp[jT,bools,lG,Nat.reduceAdd,Nat.reduceSub];refine Au (lo:=0) (hi:=(es.length:Int)) (S1:=S) (show wN _ _=_ from tU (by dsimp[jT,bools,h.l,aH]) (oB () ()))
  (λi τ T=>(∃a1:A,τ=[.ref n,a1])/\ju T n=some (es.map Su.ent)/\(∀m (hm:m<es.length),ju T es[m].2.1=some (if m<i then Po.pl es[m].2.2++[.tup [.int (100+(m:Int)),.int 1]]else Po.pl es[m].2.2))/\Kp (λq=>b<=q) S T)
  (λr=>∃S',RS.end (RS.seq r _)=.ok (.bl true) S'/\ju S' n=some (es.map Su.ent)/\Kp (λq=>b<=q) S S') ⟨⟨_,rfl⟩,h.l,λm hm=>by rw[aJ ()];exact h.a _ (cI hm),Kp.refl⟩ ?_ ?_
 ·rintro i τ T hi ⟨⟨x1,rfl⟩,hT,hx,kT⟩;left;have hi':i<es.length:=()
  have hr:=hx i hi';rw[aJ ()]at hr;obtain⟨y1,y2,y3⟩:=hb _ (cI hi');have ea:=PJ hi';rw[show(i:Int)=0+(i:Int)by lia]at ea;unfold wM;dsimp[jT,bools,hT,ea,a1,g2,hr,wO (show(Po.pl es[i].2.2).length<16777216 by rw[xj];lia)];refine⟨_,_,rfl,⟨_,rfl⟩,by rw[nW ()];exact hT,λm hm=>?_,kT.set (.inl y1)⟩;by_cases c:m=i
  ·subst c;rw[pL (oE hr),aK (),show(100:Int)+(0+(m:Int))=100+(m:Int)by lia]
  ·rw[nW (ne i m hi' hm (λz=>c z.symm)),hx m hm];by_cases c2:m<i
   ·rw[aK c2,aK ()]
   ·rw[aJ c2,aJ ()]
 ·rintro τ T ⟨⟨x1,rfl⟩,hT,hx,kT⟩;have cc:=yE (lo:=0) (hi:=(es.length:Int)) (cap:=[some 0]) (src:=t6 (jR (f1 nV) (jo (jt 0) (jy)))) (t:=oV) (e:=jA (t8 false) (jA mJ (jA mJ (jA mJ (jt 1) (jt 0)) (eC (.int 1))) (Mq yN (eC (.int 1)))) (kO (jo (jA kj (eC (.int 100)) (jt 0)) (jo (eC (.int 1)) (jy))))) (τ:=[.ref n,x1]) (S:=T) (S1:=T)
   (tU (by dsimp[jT,bools,hT,aH]) (oB () ())) (λ_=>true) (λ_=>.bl true) (λ_ _ _=>rfl) (λj h0 h1 _=>by
    obtain⟨m,rfl⟩:∃m:Nat,j=m:=⟨j.toNat,()⟩;have hm:m<es.length:=()
    have hr:=hx m hm;rw[aK ()]at hr;have q1:t8 false (.tup [.int (100+(m:Int)),.int 1]) (.tup [.int (100+(m:Int)),.int 1]) T=.ok (.bl true) T:=HD (by
     show su (uP T 11) (([100+(m:Int),1]:ag).map .int) (([100+(m:Int),1]:ag).map .int)=_;rw[wz,bf rfl])
    dsimp[jT,bools,hT,PJ hm,a1,hr,Fb,g2,q1]) ()
  have al:∀(xs:ag) (S:jz) (n:Nat),ju S n=some (xs.map λ_=>.bl true)->Nd (.ref n) S=.ok (.bl true) S:=λxs S n h=>by
   show opt (ju S n) _=_;rw[h];show opt (A.R_ _) _=_;have b1:∀xs:ag,A.R_ (xs.map λ_=>A.bl true)=some (xs.map λ_=>true):=λxs=>by
    induction xs with
    | nil=>rfl
    | cons x xs ih=>rw[bB,v_,ih];rfl
   rw[b1];have b2:∀xs:ag,((xs.map λ_=>true).all λb=>b)=true:=λxs=>by
    induction xs with
    | nil=>rfl
    | cons x xs ih=>exact ih
   show Am.R.ok (A.bl _) S=_;rw[b2]
  dsimp[jT,bools,cc,al _ _ _ jI];exact⟨_,rfl,jX hT,kT.lay⟩
end K28
namespace K28
open PySem L2 Am
open Po (Pl Ok Bd)
open Su (Es At Vl AF)
open He (Sz PB)
open Fw (rg)
def O9{S:jz}{N:Nat}{o:ag}(hl:o.length=N)(h2:N<=20):j6 [none,some 1] (qt (eC (.int 1)) (jR (f1 nV) (jo (jt 1) (jy)))) (j4 0) (uG (jA Hx (jA mJ (jt 1) (jA aSub (jt 0) (eC (.int 1)))) (jA mJ (jt 1) (jt 0)))) (jt 0) [x0,.tup (o.map .int),x2,x3,x4] S=.ok (.ref S.length) (S++[.lst ((fl o N).map .int)]):=by
 have ec:=yE (lo:=1) (hi:=(N:Int)) (cap:=[some 1]) (src:=qt (eC (.int 1)) (jR (f1 nV) (jo (jt 1) (jy)))) (t:=uG (jA Hx (jA mJ (jt 1) (jA aSub (jt 0) (eC (.int 1)))) (jA mJ (jt 1) (jt 0)))) (e:=jt 0) (τ:=[x0,.tup (o.map .int),x2,x3,x4]) (S:=S) (S1:=S)
  (xV (S1:=S) (by dsimp[jT,bools]) (by dsimp[jT,bools,aH,hl]) (oB () ()) (oB () ()))
  (λk=>decide (o.getD (k-1).toNat 0>o.getD k.toNat 0)) (λk=>.int k) (λk h1 h2=>by
   have x1:pP (o.map A.int) (k-1)=some (.int (o.getD (k-1).toNat 0)):=YZ () ();have x2:pP (o.map A.int) k=some (.int (o.getD k.toNat 0)):=YZ () ();dsimp[jT,bools,x1,x2]) (λk _ _ _=>by dsimp[jT,bools]) ()
 rw[ec];rfl
def Zk{o:ag}{N i:Nat}(lo:o.length=N)(hx:i<(fl o N).length):∃k:Nat,(fl o N)[i]?=some (k:Int)/\1<=k/\k<N/\Su.nR o k=true:=by
 have hm:=cI hx;have e:=aF hx;generalize(fl o N)[i]=v at hm e;have hm':=hm;unfold fl at hm';obtain⟨z1,_⟩:=cQ.mp hm';have z1:=lY.mp z1;obtain⟨k,rfl⟩:∃k:Nat,v=(k:Int):=⟨v.toNat,()⟩;refine⟨k,e,(),(),?_⟩;rw[<- Dt lo (k:=k) () ()];exact bf hm
def Wn{S:jz}{N:Nat}{o:ag}(h:yy S b)(po:o.Perm (rg N))(hN:N<=20) :
  ∃(w:am) (m:Nat) (S':jz),qW [.ref b,.tup (o.map .int)] S=.ok (.ref m) S'/\ju S' m=some (wd w)/\Wd.j0 (rg N) w/\Wd.led (rg N) w=o/\S.length<=m/\yy S' b/\Kp (·=b) S S':=by
 have hb:=h.lt;have lo:=ny po;kj_on;have f0:=O9 (S:=S++[O.lst []]) (x0:=.ref b) (x2:=.ref S.length) (x3:=.unb) (x4:=.unb) lo hN;have k0:kY S (S++[O.lst []]++[O.lst ((fl o N).map .int)]):=Kp.refl.lay.lay;unfold qW wW wZ;dsimp[jT,bools,lG,Nat.reduceAdd,Nat.reduceSub,n0];rw[f0];dsimp[jT,bools];refine yu (λτ T=>∃(o':ag) (w:am) (m s:Nat) (a4:A),τ=[.ref b,.tup (o'.map .int),.ref m,.ref s,a4]/\o'.Perm (rg N)/\ju T m=some (wd w)/\ju T s=some ((fl o' N).map .int)/\Wd.j0 o' w/\Wd.led o' w=o/\S.length<=m/\S.length<=s/\w.length+Iv.inv o'<=400/\yy T b/\Kp (·=b) S T)
  (λτ _=>match τ with | [_,.tup xs,_,_,_]=>Iv.inv (xs.map λx=>match x with | .int i=>i|_=>0)|_=>0)
  (λr=>∃(w:am) (m:Nat) (S':jz),RS.end (RS.seq r _)=.ok (.ref m) S'/\ju S' m=some (wd w)/\Wd.j0 (rg N) w/\Wd.led (rg N) w=o/\S.length<=m/\yy S' b/\Kp (·=b) S S') ?_ 1000000 _ _
  ⟨o,[],S.length,_,.unb,rfl,po,jX jI,jI,trivial,rfl,aR _,by rw[aQ];lia,by have:=Iv.DC o;rw[lo]at this;have:N * N<=20 * 20:=dZ hN hN;show 0+_<=_;lia,h.kp k0 λz=>z,k0.of0⟩ ?_
 ·rintro τ T ⟨o',w,m,s,a4,rfl,po',hm,hs,hr,hl,lm,ls,hw,bT,kT⟩;have lo':=ny po';have eo:∀xs:ag,(xs.map A.int).map (λx=>match x with | .int i=>i|_=>0)=xs:=λxs=>by rw[bh];exact map_id' xs
  have nl:newL [] T=.ok (.ref T.length) (T++[.lst []]):=j7 (show 0<=16777216 by decide);have q1:t8 true (.ref s) (.ref T.length) (T++[.lst []])=.ok (.bl (!((fl o' N).map A.int).isEmpty)) (T++[.lst []]):=yU (eq_nil (jX hs) jI);have kE:kY T (T++[O.lst []]):=Kp.refl.lay;obtain⟨U,hU⟩:∃U,U=T++[O.lst []]:=⟨_,rfl⟩;rw[<- hU]at nl q1 kE
  cases hf:fl o' N with
  | nil=>
   left;rw[hf]at q1;refine⟨U,by unfold ux;dsimp[jT,bools,nl,q1];rfl,?_⟩;have e:o'=rg N:=Fw.IS po' λk hk=>by
    have:(k:Int)∈fl o' N:=by
     have z:=Dt lo' hk.1 (show k<N by have:=hk.2.1;lia);rw[show Su.nR o' k=true from bf hk.2.2]at z;exact bX z
    rw[hf]at this
    cases this
   rw[e]at hr hl;exact⟨w,m,U,by dsimp[jT,bools],kE.lst _ _ (λz=>z) hm,hr,hl,lm,bT.kp kE λz=>z,kT.trans kE.of0⟩
  | cons x xs=>
   right;rw[hf]at q1;refine⟨U,by unfold ux;dsimp[jT,bools,nl,q1];rfl,.inl ?_⟩;have hsU:ju U s=some ((fl o' N).map .int):=kE.lst _ _ (λz=>z) hs;have lp:1<=(fl o' N).length:=by rw[hf];exact Nat.le_add_left _ _
   have lf:(fl o' N).length<=N:=by
    unfold fl;refine bJ (cN _ _) ?_;rw[m7];lia
   obtain⟨d,T1,e1,d0,d1,b1,k1⟩:=digit (S:=U) (m:=((fl o' N).length:Int)) (bT.kp kE λz=>z) () ();have hx:d.toNat<(fl o' N).length:=()
   obtain⟨k,hk,k0',k1',kf⟩:∃k:Nat,(fl o' N)[d.toNat]?=some (k:Int)/\1<=k/\k<N/\Su.nR o' k=true:=Zk lo' hx;have sT1:ju T1 s=some ((fl o' N).map .int):=k1.lst _ _ () hsU;have mT1:ju T1 m=some (wd w):=k1.lst _ _ () (kE.lst _ _ (λz=>z) hm);have a1:pP ((fl o' N).map A.int) d=some (.int k):=yi (k:=d.toNat) () hk;have n1:newL [.int k] T1=.ok (.ref T1.length) (T1++[.lst [.int k]]):=j7 (show 1<=16777216 by decide);have ca:=VQ (S:=T1++[O.lst [.int k]]) (jI (xs:=[.int k])) (jX mT1) (by rw[aH];show 1+_<=_;lia);obtain⟨T2,hT2⟩:∃T2,T2=T1++[O.lst [.int k]]++[O.lst ([.int k]++wd w)]:=⟨_,rfl⟩;rw[<- hT2]at ca;have k2:kY T1 T2:=by rw[hT2];exact Kp.refl.lay.lay
   have x1:pP (o'.map A.int) (k:Int)=some (.int (o'.getD k 0)):=Ss rfl ();have x2:pP (o'.map A.int) ((k:Int)-1)=some (.int (o'.getD (k-1) 0)):=Ss (k:=k-1) () ();have s1:Mz (.tup (o'.map .int)) none (some ((k:Int)-1)) T2=.ok (.tup ((o'.take (k-1)).map .int)) T2:=by
    rw[show(k:Int)-1=((k-1:Nat):Int)by lia];exact slT ()
   have s2:Mz (.tup (o'.map .int)) (some ((k:Int)+1)) none T2=.ok (.tup ((o'.drop (k+1)).map .int)) T2:=by
    rw[show(k:Int)+1=((k+1:Nat):Int)by lia];exact slD () ()
   have c1:kj (.tup ((o'.take (k-1)).map .int)) (.tup [.int (o'.getD k 0),.int (o'.getD (k-1) 0)]) T2=.ok (.tup ((o'.take (k-1)++[o'.getD k 0,o'.getD (k-1) 0]).map .int)) T2:=
    EW (ys:=[o'.getD k 0,o'.getD (k-1) 0]) (by rw[bK];show _+2<=_;lia)
   have c2:kj (.tup ((o'.take (k-1)++[o'.getD k 0,o'.getD (k-1) 0]).map .int)) (.tup ((o'.drop (k+1)).map .int)) T2=.ok (.tup ((Wd.ex o' k).map .int)) T2:=by
    rw[EW (by rw[aQ,bK,dg];show _+2+_<=_;lia),Pq k0' ()]
   have pe:=He.qp po' k0' k1';have fe:=O9 (S:=T2) (x0:=.ref b) (x2:=.ref (T1++[O.lst [.int k]]).length) (x3:=.ref s) (x4:=.int k) (ny pe) hN;have dn:=Fw.sq k0' (show k<o'.length by lia) (by have:=bX kf;lia);have g2:∀x y:A,gd (([x,y]:ae).length<=sizeLine)=λr:Am.R A=>r:=λx y=>by funext r;ksr_p
   have k3:kY T2 (T2++[O.lst ((fl (Wd.ex o' k) N).map .int)]):=Kp.refl.lay;have kk:=(kE.of0.trans k1).trans (k2.trans k3).of0;have tl1:=k1.len;have tlE:=kE.len;have tl2:=k2.len;have tlT:=kT.len;unfold yq;dsimp[jT,bools,hsU,aH,e1,sT1,a1,n1,mT1,ca,s1,x1,x2,g2,c1,s2,c2];rw[fe];dsimp[jT];refine⟨_,_,rfl,⟨Wd.ex o' k,k::w,_,_,_,rfl,pe,k3.lst _ _ (λz=>z) ?_,jI,?_,?_,?_,(),?_,((b1.kp k2 λz=>z).kp k3 λz=>z),kT.trans kk⟩,?_⟩
   ·rw[hT2];exact jI
   ·exact⟨k0',by rw[Wd.mq];lia,by
     obtain⟨z1,z2⟩:=Su.Rb k0' (show k<o'.length by lia);rw[z1,z2];have:=bX kf
     lia,by rw[Fw.ye k0' ()];exact hr⟩
   ·show Wd.led (Wd.ex (Wd.ex o' k) k) w=o;rw[Fw.ye k0' ()];exact hl
   ·rw[aQ];lia
   ·rw[bq];lia
   ·show Iv.inv (((Wd.ex o' k).map A.int).map _)<Iv.inv ((o'.map A.int).map _);rw[eo,eo];lia
 ·show Iv.inv ((o.map A.int).map _)<_;rw[show(o.map A.int).map (λx=>match x with | .int i=>i|_=>0)=o by rw[bh];exact map_id' o];have:=Iv.DC o;rw[lo]at this;have:N * N<=20 * 20:=dZ hN hN
  lia
end K28
namespace K28
open PySem L2 Am
open Po (Pl Ok Bd)
open Su (Es At Vl AF)
open He (Sz PB)
open Fw (rg)
def Uh{N P n:Nat}{w:am}(hN:N<6)(h:Sm S n es)(hz:Sz N P C (Su.sm es))(hw:ju S m=some (wd w))(va:He.Va N w)(hl:w.length<=25)(hP:P<=1000)(hC:3 ^ 25 * C<big) :
  ∃(L:Nat) (S':jz) (rs:Es),mZ [.ref n,.ref m] S=.ok (.ref L) S'/\Sm S' L rs/\Su.sm rs=He.Gw w (Su.sm es)/\kY S S':=by
 unfold mZ rf rB;dsimp[jT,bools,lG,Nat.reduceAdd,Nat.reduceSub];refine pI (n:=m) (xs:=wd w) (S1:=S) (show t_ _ _=_ from lH (by dsimp[jT,bools]) hw)
  (λi τ T=>∃(n':Nat) (a2:A) (rs:Es),τ=[.ref n',.ref m,a2]/\Sm T n' rs/\Su.sm rs=He.Gw (w.take i) (Su.sm es)/\kY S T)
  (λr=>∃(L:Nat) (S':jz) (rs:Es),RS.end (RS.seq r _)=.ok (.ref L) S'/\Sm S' L rs/\Su.sm rs=He.Gw w (Su.sm es)/\kY S S') ⟨n,_,es,rfl,h,rfl,Kp.refl⟩ (λi τ T hh=>by obtain⟨_,_,_,_,_,_,k⟩:=hh;exact k.lst _ _ (λz=>z) hw) ?_ ?_
 ·rintro i z τ T hz1 ⟨n',a2,rs,rfl,s,q,kT⟩;rw[aO]at hz1;obtain⟨k,hk,rfl⟩:=aX.mp hz1;have vk:=va k (aW hk);have il:=(aL.mp hk).1;refine⟨[.ref n',.ref m,.int k],T,rfl,.inl ?_⟩;have z3:Sz N (P+25) (3 ^ 25 * C) (Su.sm rs):=by
   rw[q];have:=hz.Gw (w:=w.take i) λj hj=>va j (cX hj);have lt:(w.take i).length<=25:=by rw[bK];lia
   exact this.mono () (bN _ (gb ⋯ lt))
  have m3:=z3.many hN;rw[Su.mT]at m3;obtain⟨L,S4,rs4,x4,s4,q4,_,_,_,k4⟩:=XI (j:=2 * (2 * (P+25)+1)) s (k:=k) (N:=N) (λe he=>by
   have b:=z3.pb (kX rfl he);exact⟨ny (z3.pm _ (kX rfl he)),by have:=b.2;show 2 * e.2.2.length<=_;exact Nat.mul_le_mul_left _ this,λp hp=>dD (b.1.c p hp) hC⟩) vk.1 vk.2 () (by
    have:(2 * rs.length+2) * (2 * (2 * (P+25)+1))<=242 * (2 * (2 * (P+25)+1)):=bN _ ()
    lia) ()
  unfold tR;dsimp[jT,bools,x4];refine⟨_,_,rfl,L,_,rs4,rfl,s4,?_,kT.trans k4⟩;rw[q4,q,cW,hk];unfold He.Gw;rw[dO];rfl
 ·rintro τ T ⟨n',a2,rs,rfl,s,q,kT⟩;rw[aH,c_]at q;exact⟨n',T,rs,by dsimp[jT,bools],s,q,kT⟩
def RH{S:jz}{N P c n:Nat}{q:Pl}(hN:N<6)(h:Sm S n es)(hz:Sz N P C (Su.sm es))(hq:ju S m=some (Po.pl q))(pq:PB Q c q)(lq:q.length<=2 * Q+1)(hP:P+Q<=1000)(hC:C<big)(hc:c<big) :
  ∃(L:Nat) (S':jz) (rs:Es),lX [.ref m,.ref n] S=.ok (.ref L) S'/\Sm S' L rs/\Su.sm rs=He.MO q (Su.sm es)/\S.length<=L/\kY S S':=by
 have m1:=hz.many hN;rw[Su.mT]at m1;obtain⟨L,S',fs,e,h1,h2,h3,h4,h5,h6⟩:=Su.FH (es:=es) (n:=n) (cap:=[some 0]) (src:=lg (jt 1)) (ex:=kO (jo (jt 0) (jo (eFn ko (jo (jt 2) (jo (jt 1) (jy)))) (jy)))) (τ:=[.ref m,.ref n]) (lH (by dsimp[jT,bools]) h.l) h.l (λp=>Po.times q p)
  (λe he T kT=>by
   have b:=hz.pb (kX rfl he);obtain⟨r,T',x1,l1,l2,k1⟩:=C3 (kT.lst _ _ (λz=>z) hq) ((h.a.yY kT) e he) (by
    have a2:=b.2;have a3:(2 * Q+1) * (2 * P+1)<=2001 * 2001:=dZ () ();exact dD (bJ (dZ lq a2) a3) ⋯) (λp hp=>dD (pq.c p hp) hc) (λp hp=>dD (b.1.c p hp) hC)
   refine⟨r,T',?_,l1,l2,k1⟩;dsimp[jT,bools,x1];exact mV (show 2<=16777216 by decide)) ()
 refine⟨L,S',fs,?_,⟨h1,h2⟩,?_,h5,h6⟩
 ·unfold lX o6 o7;dsimp[jT,bools,lG,Nat.reduceAdd,Nat.reduceSub];rw[show j6 [none,none,some 0] _ _ _ _ _ _=_ from e];rfl
 ·rw[h3];unfold He.MO Su.sm;rw[bh];rfl
def QH{S:jz}{n:Nat}{es fs:Es}(h:Sm S n es)(h':Sm S m fs)(hj:∀e∈es++fs,e.2.2.length<=j/\e.1≠[])(hl:es.length+fs.length<=240)(jj:j<=10000) :
  ∃(L:Nat) (S':jz) (rs:Es),mS [.ref n,.ref m] S=.ok (.ref L) S'/\Sm S' L rs/\Su.sm rs=Su.toS (Su.adds [] (Su.sm es++Su.sm fs))/\Nw S.length L rs/\S.length<=L/\kY S S':=by
 have hle:(es++fs).length=es.length+fs.length:=aQ ..;have n1:ju (S++[.dct []]) n=some (es.map Su.ent):=jX h.l;have n2:ju (S++[.dct []]) m=some (fs.map Su.ent):=jX h'.l;have ad:=VQ n1 n2 (by rw[aH,aH];lia);rw[<- bU]at ad;have k0:kY S (S++[.dct []]++[.lst ((es++fs).map Su.ent)]):=Kp.refl.lay.lay;have hb:(0+(es++fs).length) * j+j<16777216:=by
  have:(0+(es++fs).length) * j<=240 * j:=bN _ ()
  lia
 obtain⟨y3,y4,D,T,e1,f,kp⟩:=Su.Tv zj (j:=j) (b:=S.length) (i0:=0) (S:=S++[.dct []]) (S1:=S++[.dct []]++[.lst ((es++fs).map Su.ent)]) (d:=S.length) (x0:=.ref n) (x1:=.ref m) (x3:=.unb) (x4:=.unb) (xs:=[]) (src:=nk) (es:=es++fs)
  (show nk _ _=_ from lH (by dsimp[jT,bools,ad]) jI) jI ((h.a.app h'.a).yY k0) (Su.Fil.new (Su.Ae Su.rX)) k0.len hj hb ()
 have kT:kY S T:=k0.old kp λq hq _ z=>()
 have fl:=f.ll;obtain⟨L,S',e2,r1,r2,r3,r4⟩:=K6 f.dd f.aa f.kk ();have tl:=kT.len;refine⟨L,S',_,?_,⟨r1,r2⟩,by rw[Su.yk,f.ss,Su.EB],⟨f.pw.out _,λe he=>?_⟩,(),kT.trans r4⟩
 ·unfold mS qD qH;dsimp[jT,uS,bools,lG,Nat.reduceAdd,Nat.reduceSub,Su.vc];rw[show lC nk _ tP _ _=_ from e1];dsimp[jT,uS,bools,e2]
 ·obtain⟨m1,m2⟩:=Su.vQ he;obtain⟨v1,v2,v3⟩:=f.vv e m1;have lt:=oE (f.aa e m1);exact⟨v3,()⟩
def Sm.ZU{n k:Nat}{es:Es}(h:Sm S n es)(kp:Kp (·=b) S S')(hn:k<=n)(he:∀e∈es,k<=e.2.1)(hb:b<k):Sm S' n es:=⟨kp.lst _ _ () h.l,h.a.kp kp λe h z=>by have:=he e h;lia⟩
def UP{S:jz}{N P c n:Nat}{es fs:Es}(hN:N<6)(h1N:1<=N)(hb:yy S b)(h:Sm S n es)(h':Sm S m fs)(hz:Sz N P C (Su.sm es))(hz':Sz N Q c (Su.sm fs))(hn:b0<=n)(hm:b0<=m)(he:∀e∈es,b0<=e.2.1)(hf:∀e∈fs,b0<=e.2.1)(bb:b<b0)(bS:b0<=S.length)(hP:P+Q<=500)(hC:3 ^ 25 * C<big)(hc:c<big) :
  ∃(L:Nat) (S':jz) (ds:Es),tN [.ref b,.ref n,.ref m] S=.ok (.ref L) S'/\Sm S' L ds/\Su.sm ds=He.prod (Su.sm es) (Su.sm fs)/\(∀e∈ds,b0<=e.2.1)/\b0<=L/\yy S' b/\Kp (·=b) S S':=by
 kj_on;have k0:kY S (S++[O.lst []]):=Kp.refl.lay;unfold tN y_ zF;dsimp[jT,bools,lG,Nat.reduceAdd,Nat.reduceSub,n0];refine pI (n:=m) (xs:=fs.map Su.ent) (S1:=S++[O.lst []]) (show zP _ _=_ from lH (by dsimp[jT,bools]) (k0.lst _ _ (λz=>z) h'.l))
  (λi τ T=>∃(L:Nat) (a4 a5 a6:A) (ds:Es),τ=[.ref b,.ref n,.ref m,.ref L,a4,a5,a6]/\Sm T L ds/\He.Cn (Su.sm ds)/\(∀x∈Su.sm ds,x.1.Perm (rg N))/\He.oS N (Su.cS (Su.sm ds)) (He.R N (Su.sm (fs.take i)) (Su.cS (Su.sm es)))/\(∀e∈ds,b0<=e.2.1)/\b0<=L/\yy T b/\Kp (·=b) S T)
  (λr=>∃(L:Nat) (S':jz) (ds:Es),RS.end (RS.seq r _)=.ok (.ref L) S'/\Sm S' L ds/\Su.sm ds=He.prod (Su.sm es) (Su.sm fs)/\(∀e∈ds,b0<=e.2.1)/\b0<=L/\yy S' b/\Kp (·=b) S S')
  ⟨S.length,_,_,_,[],rfl,⟨jI,nofun⟩,He.Cn.nil,(nofun),.refl,(nofun),bS,hb.kp k0 λz=>z,k0.of0⟩ (λi τ T hh=>by
   obtain⟨_,_,_,_,_,_,_,_,_,_,_,_,_,k⟩:=hh;exact k.lst _ _ () h'.l) ?_ ?_
 ·rintro i z τ T hz1 ⟨L,a4,a5,a6,ds,rfl,sd,cd,pd,ed,rd,lL,bT,kT⟩;rw[aO]at hz1;obtain⟨e,hei,rfl⟩:=aX.mp hz1;have me:=aW hei;have il:=(aL.mp hei).1;have pe:=hz'.pm _ (kX rfl me);have be:=hz'.pb (kX rfl me);refine⟨[.ref b,.ref n,.ref m,.ref L,.tup (e.1.map .int),.ref e.2.1,a6],T,rfl,.inl ?_⟩;obtain⟨w,mw,T1,x1,l1,r1,r2,lw,b1,k1⟩:=Wn (N:=N) bT pe ();have va:He.Va N w:=λk hk=>by have:=Wd.j0.valid r1 k hk;rwa [Wd.jO]at this
  have wl:w.length<=25:=by
   have a:=He.xg r1;rw[r2,Fw.P9]at a;have:=He.DS hN pe
   lia
  have kT1:=kT.trans k1;have hs1:Sm T1 n es:=h.ZU kT1 hn he bb;have hd1:Sm T1 L ds:=sd.ZU k1 lL rd bb;obtain⟨L2,T2,ms,x2,s2,q2,k2⟩:=Uh hN hs1 hz l1 va wl () hC;have z2:Sz N (P+25) (3 ^ 25 * C) (Su.sm ms):=by
   rw[q2];exact(hz.Gw va).mono () (bN _ (gb ⋯ wl))
  have p2:ju T2 e.2.1=some (Po.pl e.2.2):=k2.lst _ _ (λz=>z) (kT1.lst _ _ (by have:=hf e me;lia) (h'.a e me));obtain⟨L3,T3,ss,x3,s3,q3,l3,k3⟩:=RH hN s2 z2 p2 be.1 be.2 () hC hc;have zd:Sz N (P+25+Q) ((Su.sm (fs.take i)).length * ((2 * Q+1) * (c * (3 ^ 25 * C)))) (Su.sm ds):=⟨cd,pd,(He.FB.R hN hz.fb (m:=Su.sm (fs.take i)) (λx hx=>by
   obtain⟨y,hy,rfl⟩:=bu.mp hx;exact hz'.pm _ (kX rfl (cX hy))) λx hx=>by
   obtain⟨y,hy,rfl⟩:=bu.mp hx;exact hz'.pb (kX rfl (cX hy))).eq ed⟩
  have md:=zd.many hN;have mm:=z2.many hN;rw[Su.mT]at md mm;have ls:ss.length=ms.length:=by
   have:=dj List.length q3;unfold He.MO at this
   rwa [Su.mT,aH,Su.mT]at this
  obtain⟨L4,T4,rs,x4,s4,q4,w4,l4,k4⟩:=QH (j:=2 * (P+25+Q)+1) (hd1.kp (k2.trans k3)) s3 (λx hx=>by
   rcases bH.mp hx with z|z
   ·exact⟨(zd.pb (kX rfl z)).2,λy=>by have:=ny (zd.pm _ (kX rfl z));rw[show((x.1,x.2.2):ag×Pl).1=x.1 from rfl,y]at this;simp at this;lia⟩
   ·have:=kX q3 z;obtain⟨y,hy,ey⟩:=bu.mp this;have ey:(y.1,Po.times e.2.2 y.2)=(x.1,x.2.2):=ey;obtain⟨e1,e2⟩:=Prod.mk.inj ey;rw[<- e1,<- e2];refine⟨?_,λv=>by have:=ny (z2.pm _ hy);rw[v]at this;simp at this;lia⟩;have:=He.PB.times be.1 (z2.pb hy).1;refine bJ this ?_
    lia) () ()
  have st:=He.RA (e:=(e.1,e.2.2)) hz.pm pd pe ed r1 r2;have q4':Su.sm rs=Su.toS (Su.adds [] (Su.sm ds++He.MO e.2.2 (He.Gw w (Su.sm es)))):=by rw[q4,q3,q2]
  unfold zN;dsimp[jT,bools,x1,x2,x3,x4];have kk:=(k2.trans k3).trans k4;have l13:=((k1.trans k2.of0).trans k3.of0).len;have lT:=kT.len;refine⟨_,_,rfl,L4,_,_,_,rs,rfl,s4,by rw[q4'];exact st.1,by rw[q4'];exact st.2.1,?_,λx hx=>by have:=(w4.nw x hx).1;lia,(),b1.kp kk λz=>z,kT1.trans kk.of0⟩;rw[q4',cW,hei,Su.EB];exact st.2.2
 ·rintro τ T ⟨L,a4,a5,a6,ds,rfl,sd,cd,pd,ed,rd,lL,bT,kT⟩;rw[aH,c_]at ed;obtain⟨p1,p2,p3⟩:=He.pD hz.cn hz'.cn hz.pm hz'.pm;exact⟨L,T,ds,by dsimp[jT,bools],sd,He.EY cd p1 pd p2 (ed.trans p3.symm),rd,lL,bT,kT⟩
end K28
namespace K28
open PySem L2 Am
open Po (Pl Ok Bd)
open Su (Es At Vl AF)
open He (Sz PB)
open Fw (rg)
def MD{N P c n L:Nat}{fs:Es}(hN:N<6)(h1N:1<=N)(h:Sm S n es)(h':Sm S m fs)(hd:Sm S L ds)(hz:Sz N P C (Su.sm es))(hz':Sz N Q c (Su.sm fs))(eD:Su.sm ds=He.prod (Su.sm es) (Su.sm fs))(hP:P+Q<=500)(hC:3 ^ 25 * C<big)(hc:3 ^ 25 * c<big) :
  ∃S',pO [.ref n,.ref m,.ref L] S=.ok (.bl true) S'/\kY S S':=by
 have m1:=hz.many hN;have m2:=hz'.many hN;rw[Su.mT]at m1 m2;obtain⟨c1,S1,cs,e1,s1,q1,_,_,k1⟩:=K8 h ();obtain⟨c2,S2,cs',e2,s2,q2,_,_,k2⟩:=K8 (h'.kp k1) ();have k12:=k1.trans k2;have s1':=s1.kp k2;unfold pO vg vI;dsimp[jT,uS,bools,lG,Nat.reduceAdd,Nat.reduceSub,e1,e2];refine Au (lo:=0) (hi:=2) (S1:=S2) (show wH _ _=_ from tU (by dsimp[jT,bools]) (oB ⋯ ⋯))
  (λi τ U=>(∃a5 a6:A,τ=[.ref n,.ref m,.ref L,.ref c1,.ref c2,a5,a6])/\kY S2 U)
  (λr=>∃S',RS.end (RS.seq r _)=.ok (.bl true) S'/\kY S S') ⟨⟨_,_,rfl⟩,Kp.refl⟩ ?_ ?_
 ·rintro i τ U hi ⟨⟨a5,a6,rfl⟩,kU⟩;left;obtain⟨R,U1,rs,e5,s5,q5,w5,g5,k5⟩:=pD hN h1N (s1'.kp kU) (s2.kp kU) (by rw[q1];exact hz) (by rw[q2];exact hz') hP hC hc;have z5:Sz N (P+25+Q) (120 * ((2 * Q+1) * (c * (3 ^ 25 * C)))) (Su.sm rs):=by rw[q5,q1,q2];exact hz.prod hN hz'
  have v5:∀e∈rs,Ok e.2.2/\e.2.2≠[]/\e.2.2.length<=2 * (P+25+Q)+1:=λe he=>⟨z5.cn.gd.ok _ (kX rfl he),z5.cn.ne (kX rfl he),(z5.pb (kX rfl he)).2⟩;have m5:=z5.many hN;rw[Su.mT]at m5;obtain⟨U2,e6,k6⟩:=QY s5 λe he=>⟨(v5 e he).1,(v5 e he).2.1,by have:=(v5 e he).2.2;lia⟩;have kk:=(kU.trans k5).trans k6;have w1:t8 true (.ref R) (.ref L) U2=.ok (.bl false) U2:=yU (DE (s5.kp k6) (hd.kp (k12.trans kk)) (by rw[q5,q1,q2,eD]));have w2:t8 true (.ref c1) (.ref n) U2=.ok (.bl false) U2:=yU (DE (s1'.kp kk) (h.kp (k12.trans kk)) q1);have w3:t8 true (.ref c2) (.ref m) U2=.ok (.bl false) U2:=yU (DE (s2.kp kk) (h'.kp (k12.trans kk)) q2);obtain⟨U3,e7,l7,k7⟩:=NF (b:=U.length) (s5.kp k6) (λe he=>⟨(w5.nw e he).1,(w5.nw e he).2,by have:=(v5 e he).2.2;lia⟩) w5.ap ();have n1:newL [.tup [.int 0,.int 1]] U3=.ok (.ref U3.length) (U3++[.lst [.tup [.int 0,.int 1]]]):=j7 (show 1<=16777216 by decide);have g1':∀x:A,gd (([x]:ae).length<=sizeLine)=λr:Am.R A=>r:=λx=>by funext r;exact mV (show 1<=16777216 by decide)
  have g2:∀x y:A,gd (([x,y]:ae).length<=sizeLine)=λr:Am.R A=>r:=λx y=>by funext r;ksr_p
  unfold wL;dsimp[jT,uS,bools,e5,e6,ck,w1,w2,w3,e7,l7,g1',g2,n1,jX (o:=.lst [.tup [.int 0,.int 1]]) l7,aH,wO (show rs.length<16777216 by lia)];have k73:Kp (λq=>U.length<=q) U2 ((U3++[O.lst [.tup [.int 0,.int 1]]]).set R (.lst (rs.map Su.ent++[.tup [.tup [.int 1],.ref U3.length]]))):=(k7.lay).set (.inl g5);exact⟨_,_,rfl,⟨_,_,rfl⟩,kk.old k73 λq hq _ z=>by have:=kU.len;lia⟩
 ·rintro τ U ⟨⟨a5,a6,rfl⟩,kU⟩;dsimp[jT,bools];exact⟨_,rfl,k12.trans kU⟩
end K28
namespace K28
open PySem L2 Am
abbrev prs (n:Int):ae:=(j8 1 n).flatMap λi=>(j8 (i+1) (n+1)).map λj=>.tup [.int i,.int j]
def SE{n:Int}{x:A}:x∈prs n ↔ ∃i j:Int,1<=i/\i<j/\j<=n/\x=.tup [.int i,.int j]:=by
 unfold prs;rw[fP];constructor
 ·rintro⟨i,hi,hx⟩;obtain⟨j,hj,rfl⟩:=bu.mp hx;rw[lY]at hi hj;exact⟨i,j,(),(),(),rfl⟩
 ·rintro⟨i,j,h1,h2,h3,rfl⟩;exact⟨i,lY.mpr ⟨h1,()⟩,bu.mpr ⟨j,lY.mpr ⟨(),()⟩,rfl⟩⟩
theorem F9{α β:Type}{f:α->List β}{B:Nat}:∀(l:List α),(∀x∈l,(f x).length<=B)->(l.flatMap f).length<=l.length * B
 | [],_=>bL _
 | x::l,h=>by
  rw[eB,aQ,bq,jk,gO];have:=F9 l λy hy=>h y (aN _ hy);have:=h x (aM ..)
  lia
def JG{n:Int}(h0:0<=n)(h1:n<=1000):(prs n).length<=16777216:=by
 have:=F9 (B:=1000) (f:=λi=>(j8 (i+1) (n+1)).map λj=>A.tup [.int i,.int j]) (j8 1 n) λx hx=>by
  rw[lY]at hx;rw[aH,m7];lia
 rw[m7]at this;have h2:(n-1).toNat * 1000<=1000 * 1000:=bN _ ();unfold prs
 lia
theorem Wa{i n lo hi:Int}:∀(k t:Nat) (x1:A),k+t=(hi-lo).toNat->∃x1',sU (mL lo hi) (j4 1) oV (kO (jo (jt 0) (jo (jt 1) (jy)))) k t [.int i,x1,.int n] S=.ok ((List.range' t k).map λq:Nat=>A.tup [.int i,.int (lo+q)],[.int i,x1',.int n]) S
 | 0,t,x1,_=>⟨x1,rfl⟩
 | k+1,t,x1,h=>by
  obtain⟨x1',e⟩:=Wa (S:=S) (i:=i) (n:=n) (lo:=lo) (hi:=hi) k (t+1) (.int (lo+t)) ();refine⟨x1',?_⟩;unfold sU;have hg:(mL lo hi).get t S=some (.int (lo+t)):=aK ();dsimp[jT,bools,hg,mV (show([_,_]:ae).length<=16777216 by simp),e,gg,bB]
theorem Oo{n:Int}(h0:0<=n)(h1:n<=1000):∀(k t:Nat) (x0 x1:A),k+t=(n-1).toNat->qA (mL 1 n) (j4 0) oV (qt (jA kj (jt 0) (eC (.int 1))) (jA kj (jt 2) (eC (.int 1)))) (j4 1) oV (kO (jo (jt 0) (jo (jt 1) (jy)))) k t [x0,x1,.int n] S=.ok ((List.range' t k).flatMap λq:Nat=>(j8 (1+q+1) (n+1)).map λj=>A.tup [.int (1+q),.int j]) S
 | 0,t,x0,x1,_=>rfl
 | k+1,t,x0,x1,h=>by
  have hg:(mL 1 n).get t S=some (.int (1+t)):=aK ();obtain⟨x1',e⟩:=Wa (S:=S) (i:=1+t) (n:=n) (lo:=1+t+1) (hi:=n+1) (mL (1+t+1) (n+1)).k 0 x1 rfl;have hr:((List.range' 0 (mL (1+(t:Int)+1) (n+1)).k).map λq:Nat=>A.tup [.int (1+t),.int (1+t+1+q)])=(j8 (1+t+1) (n+1)).map λj=>A.tup [.int (1+t),.int j]:=by
   unfold j8;rw[bh,dc];rfl
  rw[hr]at e;have e2:=Oo (S:=S) h0 h1 k (t+1) (.int (1+t)) x1' ();have hs:qt (jA kj (jt 0) (eC (.int 1))) (jA kj (jt 2) (eC (.int 1))) [.int (1+t),x1,.int n] S=.ok (mL (1+t+1) (n+1)) S:=
   xV (S1:=S) (by dsimp[jT,bools]) (by dsimp[jT,bools]) (oB () ()) (oB () ())
  unfold qA;dsimp[jT,bools,hg,hs,e,e2,gg,eB]
def PD{S:jz}{n:Int}(h0:0<=n)(h1:n<=1000):mH [.int n] S=.ok (.ref S.length) (S++[.lst (prs n)]):=by
 have hs:qt (eC (.int 1)) (jt 0) [.int n] S=.ok (mL 1 n) S:=xV (S1:=S) (by dsimp[jT,bools]) (by dsimp[jT,bools]) (oB () ()) (oB () ());have e:=Oo (S:=S) h0 h1 (mL 1 n).k 0 .unb .unb rfl;have hp:((List.range' 0 (mL 1 n).k).flatMap λq:Nat=>(j8 (1+q+1) (n+1)).map λj=>A.tup [.int (1+q),.int j])=prs n:=by
  unfold prs j8;rw[List.flatMap_map,<- dc];rfl
 rw[hp]at e;unfold mH sY tK ID;dsimp[jT,bools,lG,Nat.reduceAdd,Nat.reduceSub,hs,e,j7 (JG h0 h1)]
abbrev wg (xs:ag)(q:A):Bool:=match q with
 | .tup [.int i,.int j]=>decide (xs.getD (i-1).toNat 0>xs.getD (j-1).toNat 0)
 | _=>false
def ZF{S:jz}{n:Nat}{xs:ag}(hlen:xs.length=n)(h2:n<=20) :
  ∃(P:Nat) (S':jz),nG [.tup (xs.map .int)] S=.ok (.ref P) S'/\ju S' P=some ((prs n).filter (wg xs))/\kY S S'/\S.length<=P:=by
 have eq:=PD (S:=S) (n:=(n:Int)) () ();have hL:ju (S++[O.lst (prs n)]) S.length=some (prs n):=jI;obtain⟨S',g1,g2⟩:=vZ (s:=kC S.length (prs n).length) (g:=xm 2 (ow (j4 0) (ow (j4 1) (wV)))) (t:=uG (jA Hx (jA mJ (jt 2) (jA aSub (jt 0) (eC (.int 1)))) (jA mJ (jt 2) (jA aSub (jt 1) (eC (.int 1)))))) (e:=kO (jo (jt 0) (jo (jt 1) (jy))))
  (P:=λS1=>S1=S++[O.lst (prs n)]) (T:=λτ'=>∃y z,τ'=[y,z,.tup (xs.map .int)])
  (λi=>(prs n).getD i .unb) (λi=>wg xs ((prs n).getD i .unb)) (λi=>(prs n).getD i .unb)
  (λi S1 hi k=>by
   have hi:i<(prs n).length:=hi;show(ju S1 S.length).bind _=_;rw[k,hL,dH,aI,aF hi];rfl)
  (λS1 k=>by
   show(match ju S1 S.length with
    | some ys=>decide (ys.length<=(prs n).length)
    | none=>false)=true
   rw[k,hL];simp)
  (λi τ' S1 hi ⟨y,z,hy⟩ k=>by
   have hi:i<(prs n).length:=hi;subst hy k;have hm:(prs n).getD i .unb∈prs n:=by rw[aI,aF hi];exact cI hi
   obtain⟨a,c,q1,q2,q3,eac⟩:=SE.mp hm;rw[eac];have x1:pP (xs.map A.int) (a-1)=some (.int (xs.getD (a-1).toNat 0)):=YZ () ();have x2:pP (xs.map A.int) (c-1)=some (.int (xs.getD (c-1).toNat 0)):=YZ () ();refine⟨[.int a,.int c,.tup (xs.map .int)],S++[O.lst (prs n)],S++[O.lst (prs n)],by dsimp[jT,bools,mF (show([_,_]:ae).length=2 from rfl)],by dsimp[jT,bools,x1,x2];rfl,⟨_,_,rfl⟩,λ_=>rfl,λ_=>⟨_,by dsimp[jT,bools,mV (show([_,_]:ae).length<=16777216 by simp)],rfl⟩⟩)
  (prs n).length 0 (kN [none,none,some 0] [.tup (xs.map .int)]) (S++[O.lst (prs n)]) rfl ⟨_,_,rfl⟩ rfl
 subst g2;have ef:=nh (prs n) (wg xs) (λq=>q) .unb;rw[dc,map_id']at ef;rw[ef]at g1;have ll:=JG (n:=(n:Int)) () ();refine⟨_,(S++[O.lst (prs n)])++[.lst ((prs n).filter (wg xs))],?_,jI,Kp.refl.lay.lay,by rw[aQ];lia⟩;have ec:j6 [none,none,some 0] (lg (eFn mH (jo (jR (f1 nV) (jo (jt 0) (jy))) (jy)))) (xm 2 (ow (j4 0) (ow (j4 1) (wV)))) (uG (jA Hx (jA mJ (jt 2) (jA aSub (jt 0) (eC (.int 1)))) (jA mJ (jt 2) (jA aSub (jt 1) (eC (.int 1)))))) (kO (jo (jt 0) (jo (jt 1) (jy)))) [.tup (xs.map .int)] S=.ok (.ref (S++[O.lst (prs n)]).length) ((S++[O.lst (prs n)])++[.lst ((prs n).filter (wg xs))]):=by
  unfold j6;rw[lH (S1:=S++[O.lst (prs n)]) (by dsimp[jT,bools,aH,hlen,eq]) hL,R.oM];show R.mU (mW (kC S.length (prs n).length) _ _ _ (prs n).length 0 _ _) _=_;rw[g1,R.k_,j7 (bJ (cN _ _) ll)]
 unfold nG s_ sj;dsimp[jT,bools,lG,Nat.reduceAdd,Nat.reduceSub,ec]
def W6{n:Nat}{xs:ag}(hlen:xs.length=n)(h2:n<=20):∃S',pV [.tup (xs.map .int)] S=.ok (.int (((prs n).filter (wg xs)).length:Int)) S'/\kY S S':=by
 obtain⟨P,S1,e1,g1,k1,_⟩:=ZF (S:=S) hlen h2;unfold pV BF BV;dsimp[jT,bools,lG,Nat.reduceAdd,Nat.reduceSub,e1,g1];exact⟨_,rfl,k1⟩
abbrev FL (i hi:Int):ae:=(j8 (i+1) hi).map λj=>.tup [.int i,.int j]
def OI(n:Nat):prs n=(j8 1 (n:Int)).flatMap λi=>FL i ((n:Int)+1):=rfl
open Bl
def Pk{xs:ag}{i:Nat}(h:i<=xs.length):(j8 ((i:Int)+1) ((xs.length:Int)+1)).map (λj=>xs.getD (j-1).toNat 0)=xs.drop i:=by
 apply cL;intro p;rw[aO,fS];by_cases c:i+p<xs.length
 ·have:(j8 ((i:Int)+1) ((xs.length:Int)+1))[p]?=some ((i:Int)+1+p):=by
   unfold j8;rw[aO,dQ ()];rfl
  rw[this];show some (xs.getD ((i:Int)+1+p-1).toNat 0)=_;rw[show((i:Int)+1+p-1).toNat=i+p by lia,<- Iv.Jy c]
 ·rw[bQ (by rw[m7];lia),bQ ()];rfl
def Sv{xs:ag}{i:Nat}(h:i<xs.length):((FL ((i:Int)+1) ((xs.length:Int)+1)).filter (wg xs)).length=(xs.drop (i+1)).countP λy=>decide (y<xs.getD i 0):=by
 rw[<- Pk (xs:=xs) (i:=i+1) (),List.countP_map,<- List.countP_eq_length_filter];unfold FL;rw[List.countP_map,show(((i+1:Nat):Int))=(i:Int)+1 by lia];refine List.countP_congr λj _=>?_;show wg xs (.tup [.int ((i:Int)+1),.int j])=true ↔ decide (xs.getD (j-1).toNat 0<xs.getD i 0)=true;show decide (xs.getD ((i:Int)+1-1).toNat 0>xs.getD (j-1).toNat 0)=true ↔ _;rw[show((i:Int)+1-1).toNat=i by lia]
theorem GG{xs:ag}:∀(k i:Nat),i+k=xs.length->(((List.range' i k).flatMap λq:Nat=>FL ((q:Int)+1) ((xs.length:Int)+1)).filter (wg xs)).length=Iv.inv (xs.drop i)
 | 0,i,h=>by rw[List.drop_of_length_le ()];rfl
 | k+1,i,h=>by
  have hi:i<xs.length:=()
  rw[gg,eB,List.filter_append,aQ,Sv hi,GG k (i+1) ()];have:xs.drop i=xs.getD i 0::xs.drop (i+1):=by
   rw[cY hi];congr 1;have:=Iv.Jy hi;rw[aF hi]at this;exact a_ this
  rw[this];rfl
def Yq{xs:ag}{n:Nat}(hl:xs.length=n)(h1:1<=n):((prs n).filter (wg xs)).length=Iv.inv xs:=by
 have h:=GG (xs:=xs) n 0 ();rw[jg]at h;rw[<- h,OI,hl];have e:(j8 1 (n:Int)).flatMap (λi=>FL i ((n:Int)+1))=(List.range' 0 n).flatMap λq:Nat=>FL ((q:Int)+1) ((n:Int)+1):=by
  obtain⟨m,rfl⟩:∃m,n=m+1:=⟨n-1,()⟩;rw[List.range'_concat,iK];have z:FL (((0+1 * m:Nat):Int)+1) (((m+1:Nat):Int)+1)=[]:=by
   unfold FL j8;rw[show(((m+1:Nat):Int)+1-((((0+1 * m:Nat):Int)+1)+1)).toNat=0 by lia];rfl
  rw[eB,z];unfold j8;rw[show(((m+1:Nat):Int)-1).toNat=m by lia,List.flatMap_map,dc];dsimp[List.flatMap_nil,cH];congr 1
  funext q
  rw[Int.add_comm]
 rw[e]
def US{xs ys:ae}(h:xs.length=ys.length):lO [.tup xs,.tup ys] S=.ok .non S:=by
 unfold lO rQ r_;dsimp[jT,uS,bools,lG,Nat.reduceAdd,Nat.reduceSub,h,bO,ck]
abbrev SV (a b:ag):ag:=b.map λt=>a.getD (t-1).toNat 0
def RB{a b:ag}(hl:a.length=b.length)(hb:∀t∈b,1<=t/\t<(a.length:Int)+1)(h1:b.length<=1000):∃S',yH [.tup (a.map .int),.tup (b.map .int)] S=.ok (.tup ((SV a b).map .int)) S'/\kY S S':=by
 have ep:=US (S:=S) (xs:=a.map .int) (ys:=b.map .int) (by simpa using hl);unfold yH E3 Dp;dsimp[jT,uS,bools,lG,Nat.reduceAdd,Nat.reduceSub,ep];rw[Q2 (xs:=b.map .int) (S1:=S) (OE (by dsimp[jT,bools])) (λx=>match x with | .int i=>.int (a.getD (i-1).toNat 0)|y=>y) ?_ (by rw[aH];lia)]
 ·dsimp[jT,bools];refine⟨S++[O.lst ((SV a b).map .int)],?_,Kp.refl.lay⟩;unfold SV;rw[bh,bh];rfl
 ·intro x hx;obtain⟨t,ht,rfl⟩:=bu.mp hx;have hh:=hb t ht;have hx:a[(t-1).toNat]?=some (a.getD (t-1).toNat 0):=by
   rw[aI,aF ()];rfl
  dsimp[jT,bools,yi (i:=t-1) (k:=(t-1).toNat) () hx]
open Po (Pl Ok Bd)
open Su (Es At Vl)
open He (Sz PB)
open Fw (rg)
def El{n:Nat}{x:ag}(px:x.Perm (rg n))(h1:1<=n)(h2:n<=20):∃S',pV [.tup (x.map .int)] S=.ok (.int (Iv.inv x:Nat)) S'/\kY S S':=by
 obtain⟨S',e,k⟩:=W6 (S:=S) (ny px) h2;rw[Yq (ny px) h1]at e;exact⟨S',e,k⟩
def Nx(h:C<2 ^ 4096):C<big:=by rw[Ak];exact h
def at8{d:Int}{xs:ag}(h0:0<=d)(h1:d<8)(hx:xs.length=8)(hm:∀x∈xs,2<=x/\x<=5):∃v:Int,pP (xs.map A.int) d=some (.int v)/\2<=v/\v<=5:=by
 have hd:d.toNat<xs.length:=()
 exact⟨xs[d.toNat],yi (k:=d.toNat) () (aF hd),hm _ (cI hd)⟩
def Xr:PB 60 100000000000000000000 [((0:Int),(1:Int))]:=⟨λq hq=>by rw[aS.mp hq];decide,λq hq=>by rw[aS.mp hq];decide⟩
def HX{N:Nat}{o:ag}(po:o.Perm (rg N)):Sz N 60 100000000000000000000 [(o,[((0:Int),(1:Int))])]:=He.Sz.of (He.xy o He.xE (by simp)) (λx hx=>by rw[aS.mp hx];exact po) (λx hx=>by rw[aS.mp hx];exact Xr)
def AQ{S:jz}(o:ag):Sm (S++[O.lst [.tup [.int 0,.int 1]]]++[O.lst [.tup [.tup (o.map .int),.ref S.length]]]) (S.length+1) [(o,S.length,[((0:Int),(1:Int))])]:=by
 have:=jI (S:=S++[O.lst [.tup [.int 0,.int 1]]]) (xs:=[.tup [.tup (o.map .int),.ref S.length]]);rw[aQ,b9]at this;exact⟨this,λe he=>by rw[aS.mp he];exact jX jI⟩
def Yo(ns:ag)(hl:ns.length<=63):∃S',CC [.frz (ns.map .int)] []=.ok (.bl true) S':=by
 have B0:3 ^ 25 * 100000000000000000000<big:=Nx ∅;have C0:100000000000000000000<big:=Nx ∅;unfold CC Qu NW;dsimp[jT,bools,lG,Nat.reduceAdd,Nat.reduceSub];refine Au (lo:=0) (hi:=if (if 3<(ns.length:Int)then 3 else(ns.length:Int))>1 then(if 3<(ns.length:Int)then 3 else(ns.length:Int))else 1) (S1:=[]) (show Ll _ _=_ from tU (by dsimp[jT,bools,aH]) (oB (by split<;>split<;>lia) (by split<;>split<;>lia)))
  (λ_ τ _=>∃a1 a2 a3 a4 a5 a6 a7 a8 a9:A,τ=[.frz (ns.map .int),a1,a2,a3,a4,a5,a6,a7,a8,a9]) (λr=>∃S',RS.end (RS.seq r _)=.ok (.bl true) S') ⟨_,_,_,_,_,_,_,_,_,rfl⟩ ?_ ?_
 ·rintro i τ S hi ⟨a1,a2,a3,a4,a5,a6,a7,a8,a9,rfl⟩;left;have hi2:(i:Int)<3:=by split at hi<;>split at hi<;>lia
  obtain⟨S1,e1,b1,kp1⟩:=Ug (S:=S) (ns:=ns) (k:=0+(i:Int)) () ();obtain⟨S2,hS2⟩:∃S2,S2=S1++[O.lst (([2,3,3,4,4,4,4,5]:ag).map .int)]++[O.lst (([2,3,3,4,4,3,4,4]:ag).map .int)]++[O.lst [.ref S1.length,.ref (S1.length+1)]]:=⟨_,rfl⟩;have k2:kY S1 S2:=by rw[hS2];exact Kp.refl.lay.lay.lay
  have la:ju S2 S1.length=some (([2,3,3,4,4,4,4,5]:ag).map .int):=by rw[hS2];exact jX (jX jI)
  have lb:ju S2 (S1.length+1)=some (([2,3,3,4,4,3,4,4]:ag).map .int):=by
   have:=jI (S:=S1++[O.lst (([2,3,3,4,4,4,4,5]:ag).map .int)]) (xs:=([2,3,3,4,4,3,4,4]:ag).map .int);rw[aQ,b9]at this;rw[hS2];exact jX this
  have lc:ju S2 (S1.length+2)=some [.ref S1.length,.ref (S1.length+1)]:=by
   have:=jI (S:=S1++[O.lst (([2,3,3,4,4,4,4,5]:ag).map .int)]++[O.lst (([2,3,3,4,4,3,4,4]:ag).map .int)]) (xs:=[.ref S1.length,.ref (S1.length+1)]);rw[aQ,aQ,b9,b9]at this;rw[hS2];exact this
  obtain⟨r,xs,hr1,hr2,hr3,hr4,hr5⟩:∃(r:Nat) (xs:ag),pP ([.ref S1.length,.ref (S1.length+1)]:ae) (if decide ((0:Int)<0+(i:Int))=true then 1 else 0)=some (.ref r)/\ju S2 r=some (xs.map .int)/\xs.length=8/\(∀x∈xs,2<=x/\x<=5)/\S1.length<=r:=by
   by_cases c:(0:Int)<0+(i:Int)
   ·rw[bf c];exact⟨S1.length+1,_,rfl,lb,rfl,by decide,()⟩
   ·rw[bw c];exact⟨S1.length,_,rfl,la,rfl,by decide,()⟩
  have bl:=b1.lt;obtain⟨d,S3,e3,d0,d1,b3,k3⟩:=digit (S:=S2) (m:=8) (b1.kp k2 λz=>z) ⋯ ⋯;have lr:ju S3 r=some (xs.map .int):=k3.lst _ _ () hr2;obtain⟨v,hv,v2,v5⟩:=at8 d0 d1 hr3 hr4;obtain⟨N,hN⟩:∃N:Nat,(N:Int)=v:=⟨v.toNat,()⟩;obtain⟨mo,hmo,hmo'⟩:=at4 (x0:=6) (x1:=6) (x2:=3) (x3:=1) (d:=(N:Int)-2) () ();have sl3:=(k2.of0.trans k3).len;have k4:kY S3 (S3++[O.lst [.int 6,.int 6,.int 3,.int 1]]):=Kp.refl.lay;obtain⟨n,S4,es,e4,s4,z4,ne4,p4,r4,_,ln4,b4,q4⟩:=C2 (S:=S3++[O.lst [.int 6,.int 6,.int 3,.int 1]]) (b:=S.length) (N:=N) (most:=mo) (b3.kp k4 λz=>z) () () () ();have l4:=q4.len;rw[aQ]at l4 ln4;obtain⟨m,S5,fs,e5,s5,z5,ne5,p5,r5,_,ln5,b5,q5⟩:=C2 (S:=S4) (b:=S.length) (N:=N) (most:=mo) b4 () () () ();have he:∀e∈es,S1.length<=e.2.1:=λe h=>by have:=r4 e h;rw[aQ]at this;lia
  have hf:∀e∈fs,S1.length<=e.2.1:=λe h=>by have:=r5 e h;lia
  have s4':=s4.ZU q5 (k:=S1.length) () he bl;have l5:=q5.len;obtain⟨L,S6,ds,e6,s6,q6,r6,ln6,b6,k6⟩:=UP () () b5 s4' s5 z4 z5 (b0:=S1.length) () () he hf bl () ⋯ B0 C0;have t4:=s4'.ZU k6 (k:=S1.length) () he bl;have t5:=s5.ZU k6 (k:=S1.length) () hf bl;obtain⟨S7,e7,k7⟩:=MD () () t4 t5 s6 z4 z5 q6 ⋯ B0 B0;have u4:=t4.kp k7;have u5:=t5.kp k7;obtain⟨x,es',rfl⟩:∃x es',es=x::es':=by cases es with|nil=>exact absurd rfl ne4|cons x es'=>exact⟨x,es',rfl⟩
  obtain⟨y,fs',rfl⟩:∃y fs',fs=y::fs':=by cases fs with|nil=>exact absurd rfl ne5|cons y fs'=>exact⟨y,fs',rfl⟩
  have px:x.1.Perm (rg N):=z4.pm _ (kX rfl (aM ..));have py:y.1.Perm (rg N):=z5.pm _ (kX rfl (aM ..));have lx:=ny px;have ly:=ny py;have ul:=u4.l;have ul':=u5.l;rw[bB]at ul ul';obtain⟨S8,e8,k8⟩:=RB (S:=S7) (a:=x.1) (b:=y.1) () (λt ht=>by have:=lY.mp (py.mem_iff.mp ht);lia) ();have pxy:(SV x.1 y.1).Perm (rg N):=by
   have:=He.Ru px py;exact this
  obtain⟨S9,e9,k9⟩:=El (S:=S8) pxy () ();obtain⟨S10,e10,k10⟩:=El (S:=S9) px () ();obtain⟨S11,e11,k11⟩:=El (S:=S10) py () ();unfold Ku;dsimp[jT,bools,e1,aQ,b9,Nat.reduceAdd];rw[show S1++[O.lst [A.int 2,.int 3,.int 3,.int 4,.int 4,.int 4,.int 4,.int 5]]++[O.lst [A.int 2,.int 3,.int 3,.int 4,.int 4,.int 3,.int 4,.int 4]]++[O.lst [A.ref S1.length,.ref (S1.length+1)]]=S2 from hS2.symm];dsimp[jT,uS,bools,lc,hr1,e3,lr,hv,<- hN,hmo,e4,e5,e6,e7,ck,ul,ul',A0,Su.ent,e8,e9,e10,e11];by_cases c:(((Iv.inv (SV x.1 y.1):Nat):Int) == ((Iv.inv x.1:Nat):Int)+((Iv.inv y.1:Nat):Int))=true
  ·have hc:Iv.inv (SV x.1 y.1)=Iv.inv x.1+Iv.inv y.1:=by have:=eq_of_beq c;lia
   obtain⟨S12,h12⟩:∃S12,S12=S11++[O.lst [.tup [.int 0,.int 1]]]++[O.lst [.tup [.tup (x.1.map .int),.ref S11.length]]]:=⟨_,rfl⟩;obtain⟨S13,h13⟩:∃S13,S13=S12++[O.lst [.tup [.int 0,.int 1]]]++[O.lst [.tup [.tup (y.1.map .int),.ref S12.length]]]:=⟨_,rfl⟩;have k13:kY S12 S13:=by rw[h13];exact Kp.refl.lay.lay
   have o12:Sm S12 (S11.length+1) [(x.1,S11.length,[((0:Int),(1:Int))])]:=by rw[h12];exact AQ _
   have o13:Sm S13 (S12.length+1) [(y.1,S12.length,[((0:Int),(1:Int))])]:=by rw[h13];exact AQ _
   obtain⟨R,S14,rs,e14,s14,q14,_,_,k14⟩:=pD () () (o12.kp k13) o13 (HX px) (HX py) ⋯ B0 B0;obtain⟨S15,h15⟩:∃S15,S15=S14++[O.lst [.tup [.int 0,.int 1]]]++[O.lst [.tup [.tup ((SV x.1 y.1).map .int),.ref S14.length]]]:=⟨_,rfl⟩;have k15:kY S14 S15:=by rw[h15];exact Kp.refl.lay.lay
   have o15:Sm S15 (S14.length+1) [(SV x.1 y.1,S14.length,[((0:Int),(1:Int))])]:=by rw[h15];exact AQ _
   have w1:t8 true (.ref R) (.ref (S14.length+1)) S15=.ok (.bl false) S15:=yU (DE (s14.kp k15) o15 (q14.trans (He.WR px py hc)));dsimp[jT,uS,bools,c,mF (show 2<=sizeLine by decide),aQ,b9,bq,bR,Nat.reduceAdd];rw[<- h12,show S11.length+1+1=S12.length by rw[h12];simp];rw[<- h13];dsimp[jT,uS,bools,e14,mF (show 2<=sizeLine by decide),aQ,b9,bq,bR,Nat.reduceAdd];rw[<- h15];dsimp[jT,uS,bools,w1];exact⟨_,_,rfl,_,_,_,_,_,_,_,_,_,rfl⟩
  ·have c:(((Iv.inv (SV x.1 y.1):Nat):Int) == ((Iv.inv x.1:Nat):Int)+((Iv.inv y.1:Nat):Int))=false:=by simpa using c
   dsimp[jT,uS,bools,c];exact⟨_,_,rfl,_,_,_,_,_,_,_,_,_,rfl⟩
 ·rintro τ S ⟨a1,a2,a3,a4,a5,a6,a7,a8,a9,rfl⟩;obtain⟨S1,h1⟩:∃S1,S1=S++[O.lst []]:=⟨_,rfl⟩;obtain⟨S2,h2⟩:∃S2,S2=S1++[O.lst [.tup [.int 0,.int 1]]]++[O.lst [.tup [.tup (([1,2]:ag).map .int),.ref S1.length]]]:=⟨_,rfl⟩;have k2:kY S1 S2:=by rw[h2];exact Kp.refl.lay.lay
  have o1:Sm S1 S.length []:=⟨by rw[h1];exact jI,nofun⟩;have o2:Sm S2 (S1.length+1) [(([1,2]:ag),S1.length,[((0:Int),(1:Int))])]:=by rw[h2];exact AQ _
  have z1:Sz 2 60 100000000000000000000 (Su.sm []):=He.Sz.of He.Cn.nil (nofun) (nofun);obtain⟨R,S3,rs,e3,s3,q3,_,_,k3⟩:=pD ⋯ ⋯ (o1.kp k2) o2 z1 (HX (N:=2) (o:=[1,2]) (show([1,2]:ag).Perm (rg 2)from .refl _)) ⋯ B0 B0;have er:rs=[]:=by
   have:Su.sm rs=[]:=by
    rw[q3];refine He.EY (n:=2) (He.pD He.Cn.nil (He.xy _ He.xE (by simp)) (nofun) (λx hx=>by rw[aS.mp hx];exact(show([1,2]:ag).Perm (rg 2)from .refl _))).1 He.Cn.nil (He.pD He.Cn.nil (He.xy _ He.xE (by simp)) (nofun) (λx hx=>by rw[aS.mp hx];exact(show([1,2]:ag).Perm (rg 2)from .refl _))).2.1 (nofun) ((He.pD (n:=2) He.Cn.nil (He.xy _ He.xE (by simp)) (nofun) (λx hx=>by rw[aS.mp hx];exact(show([1,2]:ag).Perm (rg 2)from .refl _))).2.2.trans λo p t=>?_);show He.cv [((0:Int),(1:Int))] (He.Xw (He.sw 2 [1,2]) (λ_ _=>0) o) t+0=0;rw[He.xK,He.IK];rfl
   exact List.map_eq_nil_iff.mp this
  subst er;have q:t8 false (.ref R) (.ref S3.length) (S3++[O.lst []])=.ok (.bl true) (S3++[O.lst []]):=HD (eq_nil (jX s3.l) jI);dsimp[jT,uS,bools,mF (show 2<=sizeLine by decide),aQ,b9,bq,bR,Nat.reduceAdd];rw[<- h1,show S.length+1=S1.length by rw[h1];simp];rw[show S1++[O.lst [A.tup [.int 0,.int 1]]]++[O.lst [A.tup [.tup [.int 1,.int 2],.ref S1.length]]]=S2 from h2.symm];dsimp[jT,uS,bools,e3,q];exact⟨_,rfl⟩
end K28
namespace K28
open PySem L2 Am
def all_mk{l:PySem.W.OpenLaw}{w:ah}{K:au}{h:aq}{mg:Str->bi}{fa:ak}(X:K.In h)(G:h.Ns mainGlobals mg)(hfa:mg "law" = some (.ref fa))
  (a1:Df K "is_whole" xh)
  (a2:Df K "need_pair" vB)
  (a3:Df K "after" Ef)
  (a4:Df K "back" HN)
  (a5:Df K "is_exchange" sV)
  (a6:Df K "exchanged_places" nS)
  (a7:Df K "exchanged" vO)
  (a8:Df K "place_pairs" sG)
  (a9:Df K "wrong_pairs" sC)
  (a10:Df K "length" BK)
  (a11:Df K "falls" E5)
  (a12:Df K "as_polynomial" qh)
  (a13:Df K "plus" Ie)
  (a14:Df K "times" DB)
  (a15:Df K "put_before" uK)
  (a16:Df K "as_sum" BI)
  (a17:Df K "need_like" vD)
  (a18:Df K "by_exchange" sL)
  (a19:Df K "by_order" uv)
  (a20:Df K "by_orders" u7)
  (a21:Df K "with_backs" uA)
  (a22:Df K "product" yP)
  (a23:Df K "_law_bag" yX)
  (a24:Df K "_law_digit" vC)
  (a25:Df K "_law_own_poly" qJ)
  (a26:Df K "_law_own_plus" qZ)
  (a27:Df K "_law_own_times" qk)
  (a28:Df K "_law_order" vN)
  (a29:Df K "_law_small_sum" qi)
  (a30:Df K "_law_is_poly" sQ)
  (a31:Df K "_law_is_sum" uF)
  (a32:Df K "_law_copy" xD)
  (a33:Df K "_law_own_added" qd)
  (a34:Df K "_law_own_sum" sf)
  (a35:Df K "_law_own_exchange" nQ)
  (a36:Df K "_law_word" xF)
  (a37:Df K "_law_own_word" qX)
  (a38:Df K "_law_own_scaled" oY)
  (a39:Df K "_law_own_both" qI)
  (a40:Df K "_law_due" zx)
  (a41:Df K "_law_apart" vt)
  (a42:Df K "_law_right" vz)
  (a43:Df K "law" NI)
  (acp:PySem.W.nsIn K mainGlobals "isinstance" = some none)
  (acq:PySem.W.nsIn K mainGlobals "bool" = some none)
  (acr:PySem.W.nsIn K mainGlobals "int" = some none)
  (acs:PySem.W.nsIn K mainGlobals "len" = some none)
  (acu:PySem.W.nsIn K mainGlobals "tuple" = some none)
  (acv:PySem.W.nsIn K mainGlobals "enumerate" = some none)
  (acw:PySem.W.nsIn K mainGlobals "list" = some none)
  (acy:PySem.W.nsIn K mainGlobals "range" = some none)
  (acz:PySem.W.nsIn K mainGlobals "sorted" = some none)
  (acA:PySem.W.nsIn K mainGlobals "dict" = some none)
  (acB:PySem.W.nsIn K mainGlobals "all" = some none)
  (acC:PySem.W.nsIn K mainGlobals "max" = some none)
  (acD:PySem.W.nsIn K mainGlobals "min" = some none)
  {a_AT_A_FALL:ak} (acE:PySem.W.nsIn K mainGlobals "AT_A_FALL" = some (some (.ref a_AT_A_FALL))) (kp_AT_A_FALL:YX K a_AT_A_FALL=some [((-1:Int),(1:Int)),((1:Int),(-1:Int))])
  : ∃fd:FuncData,(∀(s:aA) (v:af),BindsTo s fd ⟨[v],[]⟩ [("_law_script",v)])/\∀base:aq,K.In base->base.Ns mainGlobals mg->FnOk l.prog w K mg base oU 35 fa fd ["_law_script"] (pR K 1 CC):=by
 obtain⟨f,fd,a,F⟩:=a43;have e:=hfa.symm.trans (PySem.W.mg_of X G a)
 cases e
 have aaI:=cu X G acp;have aaP:=cu X G acq;have aaJ:=cu X G acr;have aad:=cu X G acs;have aap:=cu X G acu;have abn:=cu X G acv;have aas:=cu X G acw;have aan:=cu X G acy;have aaw:=cu X G acz;have abV:=cu X G acA;have aaZ:=cu X G acB;have ach:=cu X G acC;have aci:=cu X G acD;have h_AT_A_FALL:∃a,mg "AT_A_FALL" = some (.ref a)/\YX K a=some [((-1:Int),(1:Int)),((1:Int),(-1:Int))]:=⟨a_AT_A_FALL,PySem.W.mg_of X G acE,kp_AT_A_FALL⟩;refine⟨fd,λs v=>(by obtain⟨_,_,_,_,_,_,_,_,_,rfl,_,_⟩:=F.ex;exact .of_eq rfl),λbase _ _=>?_⟩;have E:En l.prog w K mg base:=⟨h,X,G⟩;have abp:=a1.kA E (λF=>Gn F aaI aaP aaJ) (Hf λ_ _ _ _ _ _ _=>rfl);have aaQ:=a2.kA E (λF=>Dj F aad) (Cf λ_ _ _ _ _ _ _ _=>rfl);have acn:=a3.kA E (λF=>N9 F aap aaQ) (Cf λ_ _ _ _ _ _ _ _=>rfl);have ab3:=a4.kA E (λF=>Ua F aad abn aap) (Hf λ_ _ _ _ _ _ _=>rfl);have abu:=a5.kA E (λF=>Bh F abp) (Cf λ_ _ _ _ _ _ _ _=>rfl);have aby:=a6.kA E (λF=>wD F aas aap) (YO λ_ _ _ _ _ _ _ _ _=>rfl);have aaK:=a7.kA E (λF=>DO F aad abu aby) (Cf λ_ _ _ _ _ _ _ _=>rfl);have abE:=a8.kA E (λF=>BL F aan) (Hf λ_ _ _ _ _ _ _=>rfl);have abT:=a9.kA E (λF=>Cd F aad abE) (Hf λ_ _ _ _ _ _ _=>rfl);have abb:=a10.kA E (λF=>LG F aad abT) (Hf λ_ _ _ _ _ _ _=>rfl);have aaL:=a11.kA E (λF=>Rh F aan aad) (Hf λ_ _ _ _ _ _ _=>rfl);have aaR:=a12.kA E (λF=>zc F aaw) (Hf λ_ _ _ _ _ _ _=>rfl);have abW:=a13.kA E (λF=>U6 F abV aaR) (Cf λ_ _ _ _ _ _ _ _=>rfl);have aaS:=a14.kA E (λF=>OZ F aaR) (Cf λ_ _ _ _ _ _ _ _=>rfl);have aaM:=a15.kA E (λF=>Cv F abW) (YO λ_ _ _ _ _ _ _ _ _=>rfl);have aaT:=a16.kA E (λF=>LZ F aaw) (Hf λ_ _ _ _ _ _ _=>rfl);have ab4:=a17.kA E (λF=>D7 F aaQ) (Cf λ_ _ _ _ _ _ _ _=>rfl);have aaU:=a18.kA E (λF=>Bu F aas h_AT_A_FALL aaM aaK aaL aaS aaT) (Cf λ_ _ _ _ _ _ _ _=>rfl);have ab2:=a19.rA E (λF hm hk hb=>xU F aaL aaK aaU hm hk hb 26) (YO λ_ _ _ _ _ _ _ _ _=>rfl);have abd:=a20.kA E (λF=>EI F ab2 aaM aaS aaT) (Cf λ_ _ _ _ _ _ _ _=>rfl);have aa9:=a21.kA E (λF=>Cp F aaw ab3) (Hf λ_ _ _ _ _ _ _=>rfl);have aaO:=a22.kA E (λF=>HR F aad ab4 abd aa9) (Cf λ_ _ _ _ _ _ _ _=>rfl);have acj:=a23.kA E (λF=>Hu F aad) (Cf λ_ _ _ _ _ _ _ _=>rfl);have aaH:=a24.kA E (λF=>D8 F) (Cf λ_ _ _ _ _ _ _ _=>rfl);have aaY:=a25.kA E (λF=>zX F aaw) (Hf λ_ _ _ _ _ _ _=>rfl);have ab7:=a26.kA E (λF=>zY F aaY) (Cf λ_ _ _ _ _ _ _ _=>rfl);have aa0:=a27.kA E (λF=>yS F aaY) (Cf λ_ _ _ _ _ _ _ _=>rfl);have ab5:=a28.kA E (λF=>Dm F aas aan aad aap aaH) (Cf λ_ _ _ _ _ _ _ _=>rfl);have abj:=a29.kA E (λF=>yT F aan aaw aaH ab5) (YO λ_ _ _ _ _ _ _ _ _=>rfl);have ab6:=a30.kA E (λF=>Be F aaI aas aad aap aaP aaJ aaZ aan) (Hf λ_ _ _ _ _ _ _=>rfl);have acf:=a31.kA E (λF=>Cr F aaI aas aap aad ab6) (Hf λ_ _ _ _ _ _ _=>rfl);have abf:=a32.kA E (λF=>FI F aas) (Hf λ_ _ _ _ _ _ _=>rfl);have aaN:=a33.kA E (λF=>zo F ab7) (YO λ_ _ _ _ _ _ _ _ _=>rfl);have aa6:=a34.kA E (λF=>Ce F aaw) (Hf λ_ _ _ _ _ _ _=>rfl);have ab8:=a35.kA E (λF=>wG F aaN aa0 aa6) (Cf λ_ _ _ _ _ _ _ _=>rfl);have ab_:=a36.kA E (λF=>G3 F aan aad aaH) (Cf λ_ _ _ _ _ _ _ _=>rfl);have ab9:=a37.kA E (λF=>z0 F ab8) (Cf λ_ _ _ _ _ _ _ _=>rfl);have ace:=a38.kA E (λF=>yx F aa0) (Cf λ_ _ _ _ _ _ _ _=>rfl);have acd:=a39.kA E (λF=>zZ F aaN aa6) (Cf λ_ _ _ _ _ _ _ _=>rfl);have acm:=a40.kA E (λF=>Hr F ab9 ab_ acd ace) (YO λ_ _ _ _ _ _ _ _ _=>rfl);have acg:=a41.kA E (λF=>Ea F aan aad aaZ) (Hf λ_ _ _ _ _ _ _=>rfl);have ack:=a42.kA E (λF=>Dq F aan abf aaO acf acg) (YO λ_ _ _ _ _ _ _ _ _=>rfl);exact X6 F aan ach aci aad aaJ acj aaH abj ack acm acn abb aaO
def walk{l:PySem.W.OpenLaw}{q:aj}{XP:(Str->bi)->aq->Prop}{YP:ah->aq->Prop}{d:DefRec}{K:Params->au}(hn:l.most=some 63)(hdf:d.params.defaults=[])
  (hY:∀(w:ah) (h:aq),YP w h->(K w.params).In h)
  (F:∀(w:ah) (mg:Str->bi) (fa:ak) (h:aq),(K w.params).In h->h.Ns mainGlobals mg->mg d.name=some (.ref fa) ->
   ∃fd:FuncData,(∀(s:aA) (u:af),BindsTo s fd ⟨[u],[]⟩ [("_law_script",u)])/\∀base:aq,(K w.params).In base->base.Ns mainGlobals mg->FnOk l.prog w (K w.params) mg base oU 35 fa fd ["_law_script"] (pR (K w.params) 1 CC)) :
  PySem.W.WalkO q loose XP YP l.row.toRowW d [] (λf vs=>PySem.call f vs):=
 L2.SX (n:=63) (k:=35) (x := "_law_script") (CX:=λ_=>oU) (sp:=λw=>pR (K w.params) 1 CC) hn ⋯ hdf ⟨rfl,by decide,by decide⟩ hY F (λ_ H a ns hl hO hS=>Mt hO hS (Yo ns hl)) λ_ _ _ _ _ z=>z
end K28
open PySem PySem.W PyProof.Rows
namespace PySem.W.Fast
def tw8018734244671942964:=Nat
def tw17673022655654295358:=Nat
def tw6892329462533729611:=Nat
def tw5399915142488103412:=Nat
def tw13677923092729134399:=Nat
def tw7896269059499350754:=Nat
def tw15712000016887098040:=Nat
def tw7164435744832569587:=Nat
def tw17339542429997062525:=Nat
def tw8989348696464925228:=Nat
def tw9147280063298939955:=Nat
def tw2432936972812220928:=Nat
def tw16291995805467271237:=Nat
def tw18437727291676085136:=Nat
def tw2554758640899240370:=Nat
def tw11916237582807195353:=Nat
def tw9232379813303832218:=Nat
def tw13119947784009151054:=Nat
def tw3467035617187523089:=Nat
def tw2363106717027621984:=Nat
def tw4467274987176550252:=Nat
def tw15520607843485376665:=Nat
def tw2338325875442042426:=Nat
def tw12760146381938323075:=Nat
def tw16525609525373786585:=Nat
def tw17213409887945822709:=Nat
def tw13920828565964131575:=Nat
def tw10220603070729797215:=Nat
def tw10056975868338021075:=Nat
def tw13879435554682248722:=Nat
def tw4543913300987567054:=Nat
def tw9402525085043439069:=Nat
def tw8097341496948204595:=Nat
def tw259727210094659080:=Nat
def tw5650411204159616992:=Nat
def tw17463062884114531674:=Nat
def tw9646194171953068995:=Nat
def tw1892681222307687392:=Nat
def tw18353689922806147145:=Nat
def tw8924204317482103744:=Nat
def tw1581985831709853261:=Nat
def tw15163082733880865324:=Nat
def tw5672745447384188043:=Nat
def tw14826128823459804754:=Nat
def tw12136229110886421870:=Nat
def tw9278602067539749620:=Nat
def tw4478032826683257175:=Nat
def tw13567313380547987138:=Nat
def tw10834433508703840493:=Nat
def tw8529057168066757093:=Nat
def tw5429563015342011952:=Nat
def tw7991165750107503347:=Nat
def tw13729828915241849269:=Nat
def tw3886465025943617563:=Nat
def tw1133064528156371928:=Nat
def tw6176808919990007671:=Nat
def tw13442243021763921034:=Nat
def tw4588194781974319992:=Nat
def tw4522948741308354390:=Nat
def tw3789984025689858149:=Nat
def tw9628100602959811067:=Nat
def tw2035357555218257269:=Nat
def tw8782007528655442780:=Nat
def tw2997652880630472608:=Nat
def tw14652832647568139253:=Nat
def tw7118619223100068979:=Nat
def tw3220385848691192701:=Nat
def tw15962767858550783791:=Nat
def tw13267078445029535721:=Nat
def tw13624971964627549464:=Nat
def tw7380321110771071751:=Nat
def tw13854789404565998518:=Nat
def tw17813715378362247827:=Nat
def tw9269571818444546271:=Nat
def tw15488897354087062305:=Nat
def tw15458873383123338174:=Nat
def tw13373871642318403764:=Nat
def tw10962878539412568935:=Nat
def tw6820863385519070947:=Nat
def tw6142484864727168566:=Nat
def tw3690932110461202242:=Nat
def tw4749519406873371861:=Nat
def tw7929369042713460657:=Nat
def tw1846785847119972782:=Nat
def tw16887672761226512760:=Nat
def tw11278439370120832266:=Nat
def tw14866132601288223254:=Nat
def tw47107807793474498:=Nat
def tw8854367499154432361:=Nat
def tw4223766723093638306:=Nat
def tw1846270276553627381:=Nat
def tw14602707683820151496:=Nat
def tw17417148872930661029:=Nat
def tw15073148107498460850:=Nat
def tw11323289601228858616:=Nat
def tw9271293047717550016:=Nat
def tw818815401308569409:=Nat
def tw3413557386346387587:=Nat
def tw18285070945905385722:=Nat
def tw3456954873137299105:=Nat
def tw8543482059328716987:=Nat
def tw2220694989691621281:=Nat
def tw16223913201472606377:=Nat
def tw109315102248020587:=Nat
def tw818901872365413256:=Nat
def tw4364199001476641079:=Nat
def tw7133293769663318129:=Nat
def tw4032509272820007449:=Nat
def tw3253486995564902647:=Nat
def tw6416364818803846566:=Nat
def tw14167859358994162564:=Nat
def tw11875341549700480937:=Nat
def tw8848198505831643872:=Nat
def tw8954150840093419945:=Nat
def tw4007275750942365014:=Nat
def tw5683155423130516692:=Nat
def tw9771267298404142062:=Nat
def tw5194032570069027205:=Nat
def tw17443647580347994473:=Nat
def tw1615139202086243204:=Nat
def tw10224031192486202800:=Nat
def tw5398483773306289609:=Nat
def tw7950335805537177011:=Nat
def tw3029007609415781696:=Nat
def tw10978826817546685218:=Nat
def tw2892355862276642997:=Nat
def tw15811368212352301659:=Nat
def tw18288662737471052791:=Nat
def tw12298931051709023488:=Nat
def tw8381452564342131525:=Nat
def tw6122220822207662975:=Nat
def tw7105015345871320035:=Nat
def tw9725437554885278567:=Nat
def tw10913031821340213486:=Nat
def tw8746133880866589311:=Nat
def tw14915230795028374024:=Nat
def tw6811831665368226761:=Nat
def tw8893797749927803474:=Nat
def tw194027546646885416:=Nat
def tw5976460737527455022:=Nat
def tw9989230891423371902:=Nat
def tw8732560369676292248:=Nat
def tw4912221593388578104:=Nat
def tw7676919221529694717:=Nat
def tw13528210212560552917:=Nat
def tw13387429353692740119:=Nat
def tw4170609469652623301:=Nat
def tw14753121415712560033:=Nat
def tw8733228862674927439:=Nat
def tw5173435181059049168:=Nat
def tw1650837878511188879:=Nat
def tw9157128496335097332:=Nat
def tw2131965385738607168:=Nat
def tw14403506644337396769:=Nat
def tw8546783893454251080:=Nat
def tw7568627057259313715:=Nat
def tw3510436160322647489:=Nat
def tw176254376129994557:=Nat
def tw17842388127324425006:=Nat
def tw12121962818629447873:=Nat
def tw12100014379586597749:=Nat
def tw5733060821696068830:=Nat
def tw6534815007114307629:=Nat
def tw11563743209730444222:=Nat
def tw2834878526130605968:=Nat
def tw17943607916746701697:=Nat
def tw15541149667213624281:=Nat
def tw1848035971936999342:=Nat
def tw15661266702548035059:=Nat
def tw5196440808753786480:=Nat
def tw6001779674811980466:=Nat
def tw11864337048909879802:=Nat
def tw3935607768802712327:=Nat
def tw13886904762650394075:=Nat
def tw16421392400820640751:=Nat
def tw5319297746597953448:=Nat
def tw8565067185007969606:=Nat
def tw16900550324724081927:=Nat
def tw7887950940136874568:=Nat
def tw1893778393183546062:=Nat
def tw7877693878850697134:=Nat
def tw18156608649073238998:=Nat
def tw13491418762506900771:=Nat
def tw14227219917473769310:=Nat
def tw6805461339442879732:=Nat
def tw3864955591263561086:=Nat
def tw17433796389303629624:=Nat
def tw14529950957691101117:=Nat
def tw15295643017645608108:=Nat
def tw9856443230212699842:=Nat
def tw12076907192216388153:=Nat
def tw8358807539286180340:=Nat
def tw14222671225052325230:=Nat
def tw5251365562386533042:=Nat
def tw11537332066848059377:=Nat
def tw7287408499097139961:=Nat
def tw6233688553160662170:=Nat
def tw15179476401492550011:=Nat
def tw18200876384484588074:=Nat
def tw10951373765664798415:=Nat
def tw970518519342697545:=Nat
def tw7117995781895256292:=Nat
def tw15441874378883201297:=Nat
def tw2456803815428059358:=Nat
def tw14642169531850412379:=Nat
def tw17977619325316432725:=Nat
def tw13982556052723050667:=Nat
def tw8817362246347156253:=Nat
def tw11183698253545321009:=Nat
def tw2853700713904341241:=Nat
def tw6900459622668254625:=Nat
def tw1339380707262728004:=Nat
def tw2849655336884008744:=Nat
def tw13872947886762618167:=Nat
def tw661458682689189623:=Nat
def tw5868461020299087406:=Nat
def tw11502783972126129581:=Nat
def tw10506253064463233584:=Nat
def tw870720706850357595:=Nat
def tw15197292470023925876:=Nat
def tw10075725907189972718:=Nat
def tw13372012004051020954:=Nat
def tw15124623334826869992:=Nat
def tw15015869535962503238:=Nat
def tw38576835950087168:=Nat
def tw1411931429536788576:=Nat
def tw1243235971845938981:=Nat
def tw4060386069391262895:=Nat
def tw10703783412089697945:=Nat
def tw14843176670119425869:=Nat
def tw8915584947390951793:=Nat
def tw2340332282730955338:=Nat
def tw811914919493554485:=Nat
def tw14767651249061628289:=Nat
def tw3244437276894923283:=Nat
def tw3684190748739000635:=Nat
def tw16575726785695794999:=Nat
def tw14988114149969967130:=Nat
def tw13959128851686006939:=Nat
def tw5598353146599113756:=Nat
def tw15915390462290484603:=Nat
def tw5069436301365749925:=Nat
def tw14715282219106348417:=Nat
def tw6406016448176441568:=Nat
def tw13265054135630866366:=Nat
def tw14741233462227514566:=Nat
def tw1157801542879574117:=Nat
def tw16286654124415981442:=Nat
def tw10388356886059260198:=Nat
def tw1902374974859117910:=Nat
def tw10158683833098542823:=Nat
def tw5621589965412423110:=Nat
def tw633972169929696609:=Nat
def tw14097326452826372275:=Nat
def tw9953308213918588928:=Nat
def tw1460090256101634516:=Nat
def tw7696876365745095358:=Nat
def tw8267940464245281661:=Nat
def tw346352117346939696:=Nat
def tw17005464326260840596:=Nat
def tw10781990522429018100:=Nat
def tw10513820743939037931:=Nat
def tw5302653234971676905:=Nat
def tw4855287582282697577:=Nat
def tw14481344990512841747:=Nat
def tw18367007833966621550:=Nat
def tw7077262252731189865:=Nat
def tw4804047272439714680:=Nat
def tw8558001684126684714:=Nat
def tw14410516788577864726:=Nat
def tw7569393637464741592:=Nat
def tw5363366977605791380:=Nat
def tw4239379998734653337:=Nat
def tw10559112503214782977:=Nat
def tw3485485501029873796:=Nat
def tw5506015521675065777:=Nat
def tw14175318335149914588:=Nat
def tw10596311918348675913:=Nat
def tw4549072380085203549:=Nat
def tw14331075180053153451:=Nat
def tw17379146462438874657:=Nat
def tw6300939134661096136:=Nat
def tw7653935380205215006:=Nat
def tw10109444726673216351:=Nat
def tw18189759621830450156:=Nat
def tw1586440897003387633:=Nat
def tw11200740227558646787:=Nat
def tw4834005613055029358:=Nat
def tw18270312428727650984:=Nat
def tw7648158210641732107:=Nat
def tw1787524228791201286:=Nat
def tw2239748628711627419:=Nat
def tw11295972971217204641:=Nat
def tw7625332313294568146:=Nat
def tw14747738919238490277:=Nat
def tw14074600715870841138:=Nat
def tw6590097921948239058:=Nat
def tw3325108238626223661:=Nat
def tw6903831683411150562:=Nat
end PySem.W.Fast
set_option maxRecDepth 100000 in
set_option maxHeartbeats 0 in
theorem PySem.Challenge.cw_undercells_k28_products_by_any_word_holds : PySem.Challenge.rw_undercells_k28_products_by_any_word.Holds := by
 w_on;o_law;k_head;(case hw=>w_witness2)
 k_fill
 refine K28.walk (l:=PySem.Challenge.rw_undercells_k28_products_by_any_word) rfl rfl (fun w h Y=>PySem.W.kIn_of Y) ?F
 case F=>
  intro w mg fa h KX G hmg;refine' K28.all_mk KX G hmg (.of ?_ ?_ ?_ ?_) (.of ?_ ?_ ?_ ?_) (.of ?_ ?_ ?_ ?_) (.of ?_ ?_ ?_ ?_) (.of ?_ ?_ ?_ ?_) (.of ?_ ?_ ?_ ?_) (.of ?_ ?_ ?_ ?_) (.of ?_ ?_ ?_ ?_) (.of ?_ ?_ ?_ ?_) (.of ?_ ?_ ?_ ?_) (.of ?_ ?_ ?_ ?_) (.of ?_ ?_ ?_ ?_) (.of ?_ ?_ ?_ ?_) (.of ?_ ?_ ?_ ?_) (.of ?_ ?_ ?_ ?_) (.of ?_ ?_ ?_ ?_) (.of ?_ ?_ ?_ ?_) (.of ?_ ?_ ?_ ?_) (.of ?_ ?_ ?_ ?_) (.of ?_ ?_ ?_ ?_) (.of ?_ ?_ ?_ ?_) (.of ?_ ?_ ?_ ?_) (.of ?_ ?_ ?_ ?_) (.of ?_ ?_ ?_ ?_) (.of ?_ ?_ ?_ ?_) (.of ?_ ?_ ?_ ?_) (.of ?_ ?_ ?_ ?_) (.of ?_ ?_ ?_ ?_) (.of ?_ ?_ ?_ ?_) (.of ?_ ?_ ?_ ?_) (.of ?_ ?_ ?_ ?_) (.of ?_ ?_ ?_ ?_) (.of ?_ ?_ ?_ ?_) (.of ?_ ?_ ?_ ?_) (.of ?_ ?_ ?_ ?_) (.of ?_ ?_ ?_ ?_) (.of ?_ ?_ ?_ ?_) (.of ?_ ?_ ?_ ?_) (.of ?_ ?_ ?_ ?_) (.of ?_ ?_ ?_ ?_) (.of ?_ ?_ ?_ ?_) (.of ?_ ?_ ?_ ?_) (.of ?_ ?_ ?_ ?_) ?_ ?_ ?_ ?_ ?_ ?_ ?_ ?_ ?_ ?_ ?_ ?_ ?_ ?_ ?_
  any_goals first|k_is|kernel_rfl
